package count

import (
	"scantling/api"
	"scantling/class"
)

// reader counts in how many ways the nodes are read from places of the word on.
type reader struct {
	nodes []api.Node
	word  []byte // no further than it may be read: of a frame's inside, to the frame's end
	kept  map[stretch][]reached
}

// stretch is a node, the place from which on it is read, and the place at which it ends at the latest.
type stretch struct {
	node int
	from int
	last int
}

func newReader(d api.Desc, w []byte) *reader {
	return &reader{d.Nodes, w, map[stretch][]reached{}}
}

// upTo is the reader of no more than what stands ahead of the place.
func (r *reader) upTo(end int) *reader {
	return &reader{r.nodes, r.word[:end], r.kept}
}

// ways is in how many ways the node i is what stands between two places.
func (r *reader) ways(i, from, to int) int {
	return waysTo(r.ends(i, from), to)
}

// ends are the places at which the node i may end, if it is read from the place on.
func (r *reader) ends(i, from int) []reached {
	if n := &r.nodes[i]; parts(n.Kind) == 0 {
		return r.leaf(n, []reached{{from, 1}})
	}
	key := stretch{i, from, len(r.word)}
	list, known := r.kept[key]
	if !known {
		list = r.all(i, []reached{{from, 1}})
		r.kept[key] = list
	}
	return list
}

// read are the places at which the node i may end, if it is read from those of the list on.
func (r *reader) read(i int, list []reached) []reached {
	if len(list) == 1 {
		return times(r.ends(i, list[0].at), list[0].ways)
	}
	return r.all(i, list)
}

// all does what read does, and keeps nothing of the node itself. It goes through all places of the list at once: to read a row of stars from each alone would take a square of the word's length.
func (r *reader) all(i int, list []reached) []reached {
	if len(list) == 0 {
		return nil
	}
	n := &r.nodes[i]
	switch n.Kind {
	case api.Seq:
		return r.read(n.B, r.read(n.A, list))
	case api.Or:
		// The parts aren't kept by themselves: of many alternatives all but a few end nowhere.
		return either(r.all(n.A, list), r.all(n.B, list))
	case api.Star:
		return r.star(n.A, list)
	case api.Rep:
		return r.rep(n, list)
	case api.Frame, api.Wide:
		return r.frame(n, list)
	}
	return r.leaf(n, list)
}

// leaf reads an Empty, a Bytes or a Text.
func (r *reader) leaf(n *api.Node, list []reached) []reached {
	var ends []reached
	for _, p := range list {
		if length, is := leafLength(n, r.word[p.at:]); is {
			ends = append(ends, reached{p.at + length, p.ways})
		}
	}
	return ends
}

// leafLength is how many bytes the leaf reads of what begins with it, and whether that does.
func leafLength(n *api.Node, rest []byte) (int, bool) {
	switch n.Kind {
	case api.Empty:
		return 0, true
	case api.Bytes:
		return 1, len(rest) > 0 && class.Has(n.Class, rest[0])
	case api.Text:
		length := len(n.Text)
		return length, len(rest) >= length && string(rest[:length]) == n.Text
	}
	return 0, false
}

// star reads any number of Kids of the node a. A Kid has at least a byte: what comes to a place is known when the place is come to.
func (r *reader) star(a int, list []reached) []reached {
	t := &tally{first: list[0].at}
	t.addAll(list)
	for k := 0; k < len(t.ways); k++ {
		if t.ways[k] > 0 {
			r.kid(t, a, reached{t.first + k, int(t.ways[k])})
		}
	}
	return t.places()
}

// rep reads as many Kids as the bounds let.
func (r *reader) rep(n *api.Node, list []reached) []reached {
	t := &tally{first: list[0].at}
	for k := 0; k <= n.Hi && len(list) > 0; k++ {
		if k > 0 {
			list = r.more(n.A, list)
		}
		if k >= n.Lo {
			t.addAll(list)
		}
	}
	return t.places()
}

// more reads one Kid of the node a.
func (r *reader) more(a int, list []reached) []reached {
	t := &tally{first: list[0].at}
	for _, p := range list {
		r.kid(t, a, p)
	}
	return t.places()
}

// kid tallies where a Kid of the node a that is read from the place on may end.
func (r *reader) kid(t *tally, a int, from reached) {
	for _, p := range r.ends(a, from.at) {
		if p.at > from.at {
			t.add(p.at, from.ways*p.ways)
		}
	}
}

// frame reads a Frame or a Wide.
func (r *reader) frame(n *api.Node, list []reached) []reached {
	var ends []reached
	for _, p := range list {
		from := p.at + headLength(n.Kind)
		end, is := frameEnd(r.word, p.at, from)
		if !is {
			continue
		}
		if ways := r.upTo(end).ways(n.A, from, end); ways > 0 {
			ends = append(ends, reached{end, most(p.ways * ways)})
		}
	}
	return sorted(ends)
}

// frameEnd is where the frame ends whose length stands between the two places, and whether the word is as long.
func frameEnd(word []byte, at, from int) (int, bool) {
	if from > len(word) {
		return 0, false
	}
	length := 0
	for _, b := range word[at:from] {
		length = length<<8 | int(b)
	}
	return from + length, length <= len(word)-from
}

// headLength is how many bytes tell the length of a frame of the kind.
func headLength(kind int) int {
	if kind == api.Wide {
		return 2
	}
	return 1
}
