package heads

import "scantling/api"

// row is items that come in place of one: at most two, so that they need no list of their own, of which most would be dropped at once.
type row struct {
	items [2]api.Item
	many  int
}

// rows are what an item opens to, a row each way.
type rows struct {
	rows [2]row
	many int
}

// add lays the row of these items behind the others.
func (l *rows) add(items ...api.Item) {
	r := &l.rows[l.many]
	r.many = copy(r.items[:], items)
	l.many++
}

// opens answers what an item that isn't ready opens to; that is nothing where it has no form.
func opens(d api.Desc, x api.Item) rows {
	var list rows
	n := nodeOf(d, x)
	switch x.Kind {
	case api.InStop:
		if x.Lo == 0 {
			list.add()
		}
	case api.InRep:
		if x.Lo == 0 {
			list.add()
		}
		if x.Hi != 0 {
			list.add(whole(n.A), api.Item{Kind: api.InRep, Node: x.Node, Lo: max(x.Lo, 1) - 1, Hi: x.Hi - 1})
		}
	case api.InNode:
		openNode(&list, n, x)
	}
	return list
}

// openNode adds what the item opens to, which is the node n, whole.
func openNode(list *rows, n api.Node, x api.Item) {
	switch n.Kind {
	case api.Empty:
		list.add()
	case api.Text:
		list.add(api.Item{Kind: api.InText, Node: x.Node})
	case api.Seq:
		list.add(whole(n.A), whole(n.B))
	case api.Or:
		list.add(whole(n.A))
		list.add(whole(n.B))
	case api.Star:
		list.add()
		list.add(whole(n.A), x)
	case api.Rep:
		list.add(api.Item{Kind: api.InRep, Node: x.Node, Lo: n.Lo, Hi: n.Hi})
	}
}

// whole is the item of the whole node.
func whole(node int) api.Item {
	return api.Item{Kind: api.InNode, Node: node}
}
