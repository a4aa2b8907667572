package count

import (
	"slices"

	"scantling/api"
)

// value is the value number rank of the node i whose word stands between the places; there have to be more than rank. The number is taken apart just as the ways were added and multiplied, so that each number has a value of its own.
func (r *reader) value(i, from, to, rank int) api.Value {
	n := &r.nodes[i]
	v := api.Value{Kind: n.Kind}
	switch n.Kind {
	case api.Bytes:
		v.Byte = r.word[from]
	case api.Text:
		v.Text = n.Text
	case api.Seq:
		v, _ = r.nest(i, r.row(i, from, to, rank))
	case api.Or:
		v, _, _ = r.pick(i, from, to, rank)
	case api.Star:
		v.Kids = r.starKids(i, from, to, rank)
	case api.Rep:
		v.Kids = r.repKids(n, from, to, rank)
	case api.Frame, api.Wide:
		v.Kids = []api.Value{r.upTo(to).value(n.A, from+headLength(n.Kind), to, rank)}
	}
	return v
}

// pick is the value number rank of the node i, and true; or the rank without the node's ways, and false, if there are no more. Of an Or it counts each alternative once, however they nest.
func (r *reader) pick(i, from, to, rank int) (api.Value, int, bool) {
	n := &r.nodes[i]
	if n.Kind != api.Or {
		if ways := r.ways(i, from, to); rank >= ways {
			return api.Value{}, rank - ways, false
		}
		return r.value(i, from, to, rank), 0, true
	}
	for which, part := range [...]int{n.A, n.B} {
		v, left, is := r.pick(part, from, to, rank)
		if is {
			return api.Value{Kind: api.Or, Pick: which, Kids: []api.Value{v}}, 0, true
		}
		rank = left
	}
	return api.Value{}, rank, false
}

// row are the values of a row's members, in their order.
func (r *reader) row(i, from, to, rank int) []api.Value {
	list := r.members(nil, i)
	last := len(list) - 1
	starts := [][]reached{{{from, 1}}}
	for k, member := range list[:last] {
		starts = append(starts, r.read(member, starts[k]))
	}
	w := &walk{r: r, to: to, rank: rank}
	for k := last; k >= 0; k-- {
		w.part(list[k], starts[k])
	}
	return w.inOrder()
}

// members adds to the list what the node i is a row of, however that nests: to go through a row of rows one by one would take a square of its length.
func (r *reader) members(list []int, i int) []int {
	n := &r.nodes[i]
	if n.Kind != api.Seq {
		return append(list, i)
	}
	return r.members(r.members(list, n.A), n.B)
}

// nest is the value of the node i, whose members' values begin the list, and the list behind them.
func (r *reader) nest(i int, list []api.Value) (api.Value, []api.Value) {
	n := &r.nodes[i]
	if n.Kind != api.Seq {
		return list[0], list[1:]
	}
	a, list := r.nest(n.A, list)
	b, list := r.nest(n.B, list)
	return api.Value{Kind: api.Seq, Kids: []api.Value{a, b}}, list
}

// starKids are the Kids of the value number rank of the Star i.
func (r *reader) starKids(i, from, to, rank int) []api.Value {
	starts := r.ends(i, from)
	w := &walk{r: r, to: to, rank: rank}
	for w.to > from {
		w.kid(r.nodes[i].A, starts)
	}
	return w.inOrder()
}

// repKids are the Kids of the value number rank of the Rep.
func (r *reader) repKids(n *api.Node, from, to, rank int) []api.Value {
	list := []reached{{from, 1}}
	var starts [][]reached
	for k := 0; ; k++ {
		if k >= n.Lo {
			ways := waysTo(list, to)
			if rank < ways {
				break
			}
			rank -= ways
		}
		starts = append(starts, list)
		list = r.more(n.A, list)
	}
	w := &walk{r: r, to: to, rank: rank}
	for _, list := range slices.Backward(starts) {
		w.kid(n.A, list)
	}
	return w.inOrder()
}

// walk goes back through what was read, part by part.
type walk struct {
	r    *reader
	to   int         // where the part ends that is told next
	rank int         // which it is of the ways to come there
	told []api.Value // the parts' values, the last one first
}

// kid tells a Kid of the node a that begins at one of the places. The nearest one is tried first: so all Kids of a star are told in about as many steps as they have bytes.
func (w *walk) kid(a int, starts []reached) {
	k, _ := find(starts, w.to)
	for k--; k >= 0; k-- {
		own := w.r.ways(a, starts[k].at, w.to)
		all := starts[k].ways * own
		if w.rank < all {
			w.tell(a, starts[k].at, own)
			return
		}
		w.rank -= all
	}
}

// part tells a part of a row that begins at one of the places. They are halved till one is left: to read the part from each of them alone could take a square of the word's length.
func (w *walk) part(i int, starts []reached) {
	for len(starts) > 1 {
		half := starts[:len(starts)/2]
		if ways := waysTo(w.r.read(i, half), w.to); w.rank < ways {
			starts = half
		} else {
			starts = starts[len(half):]
			w.rank -= ways
		}
	}
	w.tell(i, starts[0].at, w.r.ways(i, starts[0].at, w.to))
}

// tell tells the node i from the place on, one of its own ways there, and goes back to the place.
func (w *walk) tell(i, from, own int) {
	w.told = append(w.told, w.r.value(i, from, w.to, w.rank%own))
	w.to, w.rank = from, w.rank/own
}

// inOrder are the values that were told, the first one first.
func (w *walk) inOrder() []api.Value {
	slices.Reverse(w.told)
	return w.told
}
