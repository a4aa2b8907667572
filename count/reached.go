package count

import (
	"slices"

	"scantling/api"
)

// reached is a place of the word to which one comes, and in how many ways, 2 for 2 and more. Lists of them are sorted by their places, and not written into once they are answered.
type reached struct {
	at   int
	ways int
}

// find answers where in the list the place is, or would be.
func find(list []reached, at int) (int, bool) {
	return slices.BinarySearchFunc(list, at, func(p reached, at int) int { return p.at - at })
}

// waysTo is in how many ways one comes to the place.
func waysTo(list []reached, at int) int {
	if k, is := find(list, at); is {
		return list[k].ways
	}
	return 0
}

// times is the list, if there are so many ways to come to where it begins.
func times(list []reached, ways int) []reached {
	if ways == 1 {
		return list
	}
	all := slices.Clone(list)
	for k := range all {
		all[k].ways = most(all[k].ways * ways)
	}
	return all
}

// most is the number, or as much as is counted, if it is more.
func most(ways int) int { return min(ways, api.Sat) }

// tally gathers in how many ways one comes to each place from the first one on.
type tally struct {
	first int
	ways  []uint8
}

// add adds so many ways to come to the place.
func (t *tally) add(at, ways int) {
	if ways == 0 {
		return
	}
	if k := at - t.first; k >= len(t.ways) {
		t.ways = append(t.ways, make([]uint8, k+1-len(t.ways))...)
	}
	t.ways[at-t.first] = uint8(most(int(t.ways[at-t.first]) + ways))
}

// addAll adds all the ways of the list.
func (t *tally) addAll(list []reached) {
	for _, p := range list {
		t.add(p.at, p.ways)
	}
}

// places are the places to which one comes.
func (t *tally) places() []reached {
	var list []reached
	for k, ways := range t.ways {
		if ways > 0 {
			list = append(list, reached{t.first + k, int(ways)})
		}
	}
	return list
}

// either is where one comes by the one list or by the other one.
func either(a, b []reached) []reached {
	if len(a) == 0 {
		return b
	}
	if len(b) == 0 {
		return a
	}
	return sorted(slices.Concat(a, b))
}

// sorted is where one comes by the list, whose places may stand in any order, and more than once.
func sorted(list []reached) []reached {
	if len(list) <= 1 {
		return list
	}
	t := &tally{first: list[0].at}
	for _, p := range list {
		t.first = min(t.first, p.at)
	}
	t.addAll(list)
	return t.places()
}
