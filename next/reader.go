package next

import (
	"slices"

	"scantling/api"
	"scantling/class"
	"scantling/item"
)

// readers are what reads a byte, by the kind of a ready state's first item. Each answers what is to be read in place of the item, and whether it reads the byte.
type readers map[int]func(reader) (api.State, bool)

// allReaders are made anew at each call, since no map stands at package level; so they are handed on to all that is read at once.
func allReaders() readers {
	return readers{
		api.InNode: reader.whole,
		api.InText: reader.text,
		api.InHalf: reader.half,
	}
}

// read is Read by these readers.
func (by readers) read(d api.Desc, s api.State, c byte) (api.State, bool) {
	if len(s) == 0 {
		return nil, false
	}
	reads, ok := by[s[0].Kind]
	if !ok {
		return nil, false
	}
	front, ok := reads(reader{item: s[0], node: nodeOf(d, s[0]), c: c})
	if !ok {
		return nil, false
	}
	behind, ok := item.Lower(s[1:])
	if !ok {
		return nil, false
	}
	// What is lowered is new memory already, and stays as it is if there is nothing to put in front.
	return slices.Insert(behind, 0, front...), true
}

// nodeOf answers the item's node; one that has no kind and no text, and so reads nothing, if there is none.
func nodeOf(d api.Desc, x api.Item) api.Node {
	if x.Node < 0 || x.Node >= len(d.Nodes) {
		return api.Node{}
	}
	return d.Nodes[x.Node]
}

// reader is an item, its node, and the byte that it is to read.
type reader struct {
	item api.Item
	node api.Node
	c    byte
}

// whole reads the first byte of a node.
func (r reader) whole() (api.State, bool) {
	switch r.node.Kind {
	case api.Bytes:
		return nil, class.Has(r.node.Class, r.c)
	case api.Frame:
		return r.framed(int(r.c)), true
	case api.Wide:
		return api.State{{Kind: api.InHalf, Node: r.item.Node, Lo: int(r.c)}}, true
	}
	return nil, false
}

// text reads a text's next byte.
func (r reader) text() (api.State, bool) {
	next, ok := textByte(r.node, r.item)
	if !ok || next != r.c {
		return nil, false
	}
	after := r.item
	after.Lo++
	if after.Lo == len(r.node.Text) {
		return nil, true
	}
	return api.State{after}, true
}

// half reads the second byte of a wide frame, the lower one of its number.
func (r reader) half() (api.State, bool) {
	return r.framed(256*r.item.Lo + int(r.c)), true
}

// framed is what stands in the node's frame, and its end so many bytes ahead.
func (r reader) framed(many int) api.State {
	return api.State{{Kind: api.InNode, Node: r.node.A}, {Kind: api.InStop, Lo: many}}
}

// textByte answers the text's byte that the item reads, and true; 0 and false, if the text has none there.
func textByte(n api.Node, x api.Item) (byte, bool) {
	if x.Lo < 0 || x.Lo >= len(n.Text) {
		return 0, false
	}
	return n.Text[x.Lo], true
}

// classesOf answers what the bytes of a ready state are told apart by, whose first item is x.
func classesOf(d api.Desc, x api.Item) []api.Class {
	n := nodeOf(d, x)
	if x.Kind == api.InText {
		if c, ok := textByte(n, x); ok {
			return []api.Class{class.Of(c, c)}
		}
		return nil
	}
	if x.Kind == api.InNode && n.Kind == api.Bytes {
		return []api.Class{n.Class}
	}
	return eachByte()
}

// eachByte are the classes of a byte each.
func eachByte() []api.Class {
	list := make([]api.Class, 0, 256)
	for c := range 256 {
		list = append(list, class.Of(byte(c), byte(c)))
	}
	return list
}
