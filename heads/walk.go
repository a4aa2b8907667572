package heads

import (
	"slices"

	"scantling/api"
	"scantling/item"
)

// walk goes from a state through all that it opens to, an item at a time. What is still to be read behind an item is told once for all that the item opens to: so no node is gone through once more for each way in which one comes to it.
type walk struct {
	desc  api.Desc
	ahead []api.Item            // what is still to be read, the first item last
	left  int                   // how many items may still be opened
	heads map[string]api.Branch // what is found, by its key
}

// lay lays the items in front of what is still to be read.
func (w *walk) lay(items []api.Item) {
	for _, x := range slices.Backward(items) {
		w.ahead = append(w.ahead, x)
	}
}

// pass takes away the first item, to which one comes in so many ways, and answers in how many one comes to what stands behind it.
func (w *walk) pass(ways int) int {
	last := len(w.ahead) - 1
	x := w.ahead[last]
	if ways > 0 && ready(w.desc, x) {
		w.add(ways)
		ways = 0
	}
	w.ahead = w.ahead[:last]
	if ways == 0 || w.left == 0 {
		return 0
	}
	w.left--
	past := 0
	list := opens(w.desc, x)
	for _, r := range list.rows[:list.many] {
		past += w.through(r, ways)
	}
	return min(past, api.Sat)
}

// through lays the row in front, and passes each of its items.
func (w *walk) through(r row, ways int) int {
	w.lay(r.items[:r.many])
	for range r.many {
		ways = w.pass(ways)
	}
	return ways
}

// add counts the ways in which one comes to the head that is all that is still to be read.
func (w *walk) add(ways int) {
	to := api.State(slices.Clone(w.ahead))
	slices.Reverse(to)
	key := item.Key(to)
	many := min(w.heads[key].Many+ways, api.Sat)
	w.heads[key] = api.Branch{To: to, Many: many}
}
