package item_test

import (
	"cmp"
	"math"
	"math/rand"
	"slices"
	"strings"
	"testing"

	"scantling/api"
	"scantling/class"
	"scantling/item"
	"scantling/null"
	"scantling/sample"
)

// What descriptions are built of.
var (
	empty, text            = sample.Empty, sample.Text
	seq, or                = sample.Seq, sample.Or
	star, rep, frame, wide = sample.Star, sample.Rep, sample.Frame, sample.Wide
)

// set is a Bytes of some of the first bytes.
func set(first uint64) api.Desc { return sample.Bytes(api.Class{first}) }

// The items of each kind.
func inNode(node int) api.Item        { return api.Item{Kind: api.InNode, Node: node} }
func inRep(node, lo, hi int) api.Item { return api.Item{Kind: api.InRep, Node: node, Lo: lo, Hi: hi} }
func inText(node, lo int) api.Item    { return api.Item{Kind: api.InText, Node: node, Lo: lo} }
func inHalf(node, lo int) api.Item    { return api.Item{Kind: api.InHalf, Node: node, Lo: lo} }
func stop(lo int) api.Item            { return api.Item{Kind: api.InStop, Lo: lo} }

// rightTo are all right descriptions of up to n nodes, of a few leaves and bounds.
func rightTo(n int) []api.Desc {
	leaves := []api.Desc{empty(), set(6), text("a"), text("\u00e9b")}
	list := sample.AllTo(n, leaves, [2]int{0, 0}, [2]int{0, 2}, [2]int{1, 1}, [2]int{3, 4})
	return slices.DeleteFunc(list, func(d api.Desc) bool { return !null.Right(d) })
}

// numbers are what is tried for an item's Lo.
var numbers = []int{-1, 0, 1, 2, 3, 4, 5, 255, 256, 65535, 65536}

// items are all items of these numbers that have their form, each told by the chapter's words.
func items(d api.Desc) []api.Item {
	var list []api.Item
	for _, lo := range numbers {
		if lo >= 0 && lo <= 65535 {
			list = append(list, stop(lo))
		}
	}
	for i, n := range d.Nodes {
		list = append(list, inNode(i))
		switch n.Kind {
		case api.Rep:
			for hi := 0; hi <= n.Hi; hi++ {
				for lo := 0; lo <= hi; lo++ {
					list = append(list, inRep(i, lo, hi))
				}
			}
		case api.Text:
			for lo := 0; lo < len(n.Text); lo++ {
				list = append(list, inText(i, lo))
			}
		case api.Wide:
			for _, lo := range numbers {
				if lo >= 0 && lo <= 255 {
					list = append(list, inHalf(i, lo))
				}
			}
		}
	}
	return list
}

// P13.1: Form of one item, written out.
func TestFormWrittenOut(t *testing.T) {
	// Nodes: 0 a text, 1 its repeat, 2 bytes, 3 their star, 4 its wide frame, 5 nothing, 6 to 8 rows and a choice.
	d := seq(rep(2, 3, text("abc")), or(wide(star(set(6))), empty()))
	kinds := []int{api.Text, api.Rep, api.Bytes, api.Star, api.Wide, api.Empty, api.Or, api.Seq}
	for i, n := range d.Nodes {
		if n.Kind != kinds[i] {
			t.Fatal(d)
		}
	}
	for _, x := range []struct {
		x    api.Item
		want bool
	}{
		{inNode(0), true},
		{inNode(1), true},
		{inNode(2), true},
		{inNode(3), true},
		{inNode(4), true},
		{inNode(5), true},
		{inNode(6), true},
		{inNode(7), true},
		{inNode(8), false},
		{inNode(-1), false},
		{inNode(math.MaxInt), false},
		{inNode(math.MinInt), false},
		{api.Item{Kind: api.InNode, Node: 1, Lo: 1}, false},
		{api.Item{Kind: api.InNode, Node: 1, Hi: 1}, false},
		{api.Item{Kind: api.InNode, Node: 1, Lo: -1}, false},
		{api.Item{Kind: api.InNode, Node: 1, Hi: -1}, false},
		{inRep(1, 0, 0), true},
		{inRep(1, 0, 3), true},
		{inRep(1, 2, 3), true},
		{inRep(1, 3, 3), true},
		{inRep(1, 1, 1), true},
		{inRep(1, 0, 1), true},
		{inRep(1, 0, 4), false},
		{inRep(1, 4, 4), false},
		{inRep(1, 4, 3), false},
		{inRep(1, 3, 2), false},
		{inRep(1, 1, 0), false},
		{inRep(1, -1, 3), false},
		{inRep(1, -1, -1), false},
		{inRep(1, 0, -1), false},
		{inRep(1, math.MinInt, 3), false},
		{inRep(1, 0, math.MaxInt), false},
		{inRep(0, 0, 0), false},
		{inRep(2, 0, 0), false},
		{inRep(3, 0, 0), false},
		{inRep(7, 0, 0), false},
		{inRep(8, 0, 0), false},
		{inRep(-1, 0, 0), false},
		{inText(0, 0), true},
		{inText(0, 1), true},
		{inText(0, 2), true},
		{inText(0, 3), false},
		{inText(0, -1), false},
		{inText(0, math.MaxInt), false},
		{inText(0, math.MinInt), false},
		{api.Item{Kind: api.InText, Lo: 1, Hi: 1}, false},
		{api.Item{Kind: api.InText, Lo: 1, Hi: 3}, false},
		{api.Item{Kind: api.InText, Hi: -1}, false},
		{inText(1, 0), false},
		{inText(2, 0), false},
		{inText(5, 0), false},
		{inText(8, 0), false},
		{inText(-1, 0), false},
		{inHalf(4, 0), true},
		{inHalf(4, 1), true},
		{inHalf(4, 128), true},
		{inHalf(4, 255), true},
		{inHalf(4, 256), false},
		{inHalf(4, -1), false},
		{inHalf(4, 65535), false},
		{api.Item{Kind: api.InHalf, Node: 4, Lo: 1, Hi: 1}, false},
		{api.Item{Kind: api.InHalf, Node: 4, Lo: 1, Hi: -1}, false},
		{inHalf(3, 0), false},
		{inHalf(0, 0), false},
		{inHalf(8, 0), false},
		{inHalf(-1, 0), false},
		{stop(0), true},
		{stop(1), true},
		{stop(255), true},
		{stop(256), true},
		{stop(65535), true},
		{stop(65536), false},
		{stop(-1), false},
		{stop(math.MaxInt), false},
		{stop(math.MinInt), false},
		{api.Item{Kind: api.InStop, Node: 1, Lo: 1}, false},
		{api.Item{Kind: api.InStop, Node: 4, Lo: 1}, false},
		{api.Item{Kind: api.InStop, Node: -1, Lo: 1}, false},
		{api.Item{Kind: api.InStop, Lo: 1, Hi: 1}, false},
		{api.Item{Kind: api.InStop, Lo: 1, Hi: -1}, false},
		{api.Item{}, false},
		{api.Item{Kind: 6}, false},
		{api.Item{Kind: -1}, false},
		{api.Item{Kind: math.MaxInt}, false},
	} {
		if got := item.Form(d, api.State{x.x}); got != x.want {
			t.Errorf("Form of %v = %v", x.x, got)
		}
	}
}

// P13.1: a Frame has no half, whatever its Lo; a repeat's bounds are the node's own.
func TestFormOfTheNodesOwn(t *testing.T) {
	for i, x := range []struct {
		d    api.Desc
		x    api.Item
		want bool
	}{
		{frame(set(6)), inHalf(1, 0), false},
		{frame(set(6)), inNode(1), true},
		{wide(set(6)), inHalf(1, 0), true},
		{rep(0, 0, set(6)), inRep(1, 0, 0), true},
		{rep(0, 0, set(6)), inRep(1, 0, 1), false},
		{rep(255, 255, set(6)), inRep(1, 0, 0), true},
		{rep(255, 255, set(6)), inRep(1, 255, 255), true},
		{rep(255, 255, set(6)), inRep(1, 255, 256), false},
		{rep(0, 1, rep(4, 5, set(6))), inRep(1, 5, 5), true},
		{rep(0, 1, rep(4, 5, set(6))), inRep(2, 0, 2), false},
		{text("\u00e9"), inText(0, 1), true},
		{text("\u00e9"), inText(0, 2), false},
		{text("a"), inText(0, 0), true},
		{text("a"), inText(0, 1), false},
		{text(strings.Repeat("a", 70000)), inText(0, 69999), true},
		{text(strings.Repeat("a", 70000)), inText(0, 70000), false},
	} {
		if got := item.Form(x.d, api.State{x.x}); got != x.want {
			t.Errorf("%d: Form of %v = %v", i, x.x, got)
		}
	}
}

// P13.1: all items of a few numbers, of all right descriptions of a few nodes: those that the chapter tells have their form, and no others.
func TestFormOfAll(t *testing.T) {
	seen := map[bool]int{}
	for _, d := range rightTo(4) {
		have := map[api.Item]bool{}
		for _, x := range items(d) {
			have[x] = true
		}
		for kind := -1; kind <= api.InStop+1; kind++ {
			for i := -1; i <= len(d.Nodes); i++ {
				for _, lo := range numbers {
					for _, hi := range numbers[:7] {
						x := api.Item{Kind: kind, Node: i, Lo: lo, Hi: hi}
						if got := item.Form(d, api.State{x}); got != have[x] {
							t.Fatalf("Form(%v, %v) = %v", d, x, got)
						}
						seen[have[x]]++
					}
				}
			}
		}
	}
	if seen[true] < 3000 || seen[false] < 100000 {
		t.Error(seen)
	}
}

// P13.1: a state has its form, if all its items have: none, one that hasn't at each place, and very many.
func TestFormOfStates(t *testing.T) {
	d := seq(rep(2, 3, text("abc")), or(wide(star(set(6))), frame(empty())))
	if !item.Form(d, nil) || !item.Form(d, api.State{}) {
		t.Error("a state without items")
	}
	all := items(d)
	if !item.Form(d, all) {
		t.Error("all items together")
	}
	for _, bad := range []api.Item{{}, inNode(9), inRep(1, 3, 2), inText(0, 3), inHalf(3, 0), stop(65536)} {
		for at := range len(all) + 1 {
			if item.Form(d, slices.Insert(slices.Clone(all), at, bad)) {
				t.Errorf("%v at %d", bad, at)
			}
		}
	}
	long := slices.Repeat(api.State{stop(65535)}, 1<<20)
	if !item.Form(d, long) || item.Form(d, append(long, stop(-1))) {
		t.Error("a long state")
	}
}

// P13.1: Start is the last node, whole; it has its form.
func TestStart(t *testing.T) {
	for _, d := range rightTo(4) {
		s := item.Start(d)
		if !slices.Equal(s, api.State{inNode(len(d.Nodes) - 1)}) || !item.Form(d, s) {
			t.Fatalf("Start(%v) = %v", d, s)
		}
	}
	long := sample.Chain(1<<16, api.Node{Kind: api.Bytes, Class: class.Of('a', 'a')}, api.Node{Kind: api.Star})
	if s := item.Start(long); !slices.Equal(s, api.State{inNode(1 << 16)}) {
		t.Error(s)
	}
}

// compared is Compare, by the chapter's words.
func compared(a, b api.State) int {
	if len(a) != len(b) {
		return cmp.Compare(len(a), len(b))
	}
	for i := range a {
		x := [4]int{a[i].Kind, a[i].Node, a[i].Lo, a[i].Hi}
		y := [4]int{b[i].Kind, b[i].Node, b[i].Lo, b[i].Hi}
		for k := range x {
			if x[k] < y[k] {
				return -1
			}
			if x[k] > y[k] {
				return 1
			}
		}
	}
	return 0
}

// statesTo are all states of up to n of these items.
func statesTo(n int, list []api.Item) []api.State {
	all := []api.State{nil}
	from := 0
	for range n {
		to := len(all)
		for _, s := range all[from:to] {
			for _, x := range list {
				all = append(all, append(slices.Clone(s), x))
			}
		}
		from = to
	}
	return all
}

// odd are items of all numbers that are odd: far ones, those about 0, and such that one takes for another one's, if one forgets where a number ends.
func odd() []api.Item {
	var list []api.Item
	for _, n := range []int{math.MinInt, math.MinInt + 1, -1 << 32, -65, -64, -33, -32, -1, 1, 10, 31, 32, 63, 64, 65, 111, 128, 255, 256, 4095, 4096, 65535, 1 << 31, 1 << 32, math.MaxInt - 1, math.MaxInt} {
		list = append(list, api.Item{Kind: n}, api.Item{Node: n}, api.Item{Lo: n}, api.Item{Hi: n}, stop(n), api.Item{Kind: n, Node: n, Lo: n, Hi: n})
	}
	return append(list, api.Item{}, api.Item{Kind: 1, Node: 11, Lo: 111}, api.Item{Kind: 11, Node: 1, Lo: 111}, api.Item{Kind: 111, Node: 11, Lo: 1})
}

// P13.1: Compare, written out in its order.
func TestCompareWrittenOut(t *testing.T) {
	order := []api.State{
		{},
		{{Kind: math.MinInt, Hi: 9}},
		{{Kind: -1}},
		{{}},
		{inNode(0)},
		{inNode(1)},
		{inNode(9)},
		{inNode(10)},
		{inRep(0, 5, 5)},
		{inRep(1, 0, 9)},
		{inRep(1, 1, 2)},
		{inRep(1, 1, 3)},
		{inRep(1, 2, 2)},
		{inText(0, 0)},
		{inText(0, 1)},
		{inText(1, 0)},
		{inHalf(0, 7)},
		{stop(0)},
		{stop(255)},
		{stop(65535)},
		{{Kind: api.InStop, Node: 1}},
		{{Kind: math.MaxInt, Node: math.MinInt}},
		{inNode(0), inNode(0)},
		{inNode(0), stop(3)},
		{inNode(1), inNode(0)},
		{inNode(1), stop(3)},
		{stop(0), inNode(0)},
		{inNode(0), inNode(0), inNode(0)},
		{inNode(0), inNode(0), stop(0)},
		{inNode(0), inRep(0, 0, 0), inNode(0)},
		{inRep(0, 0, 0), inNode(0), inNode(0)},
	}
	for i, a := range order {
		for k, b := range order {
			if got := item.Compare(a, b); got != cmp.Compare(i, k) {
				t.Errorf("Compare(%v, %v) = %d", a, b, got)
			}
			if (item.Key(a) == item.Key(b)) != (i == k) {
				t.Errorf("Key of %v and of %v", a, b)
			}
		}
	}
	if item.Compare(nil, api.State{}) != 0 || item.Key(nil) != item.Key(api.State{}) {
		t.Error("nil and empty")
	}
}

// P13.1, P13.2: Compare and Key of each two states of a few items, right ones and odd ones.
func TestCompareAndKeyOfAll(t *testing.T) {
	right := statesTo(2, items(seq(rep(0, 2, text("ab")), wide(set(6)))))
	small := statesTo(2, []api.Item{{}, {Kind: 1}, {Node: 1}, {Lo: 1}, {Hi: 1}, {Kind: -1}, {Node: -1}, {Lo: -1}, {Hi: -1}})
	small = append(small, statesTo(4, []api.Item{{Node: 1}, {Lo: 1}, {}})...)
	for _, list := range [][]api.State{right, small, statesTo(1, odd())} {
		for _, a := range list {
			for _, b := range list {
				want := compared(a, b)
				if got := item.Compare(a, b); got != want {
					t.Fatalf("Compare(%v, %v) = %d", a, b, got)
				}
				if (item.Key(a) == item.Key(b)) != (want == 0) {
					t.Fatalf("Key of %v and of %v", a, b)
				}
			}
		}
	}
}

// P13.2: Key of one item: all numbers about 0, and all of up to three bits, at each of its places.
func TestKeysOfNumbers(t *testing.T) {
	seen := map[int]bool{}
	for n := -10000; n <= 70000; n++ {
		seen[n] = true
	}
	for i := range 64 {
		for k := range 64 {
			for l := range 64 {
				n := int(uint64(1)<<i | 1<<k | 1<<l)
				seen[n], seen[-n] = true, true
			}
		}
	}
	keys := map[string]bool{item.Key(api.State{{}}): true}
	for n := range seen {
		for _, x := range []api.Item{{Kind: n}, {Node: n}, {Lo: n}, {Hi: n}} {
			key := item.Key(api.State{x})
			if n != 0 && keys[key] || key != item.Key(api.State{x}) {
				t.Fatalf("%q is the key of %v, and of another one", key, x)
			}
			keys[key] = true
		}
	}
}

// P13.2: Key of very many states: each text of one state alone.
func TestKeys(t *testing.T) {
	of := map[string]api.State{}
	for _, s := range slices.Concat(statesTo(2, odd()), statesTo(3, items(seq(rep(1, 2, text("ab")), wide(set(6)))))) {
		key := item.Key(slices.Clone(s))
		if was, is := of[key]; is && !slices.Equal(was, s) {
			t.Fatalf("%q is the key of %v, and of %v", key, was, s)
		}
		of[key] = s
	}
	r := rand.New(rand.NewSource(13))
	for range 100000 {
		s := make(api.State, r.Intn(4))
		for i := range s {
			far := func() int { return int(r.Uint64() >> r.Intn(64)) }
			s[i] = api.Item{Kind: far(), Node: far(), Lo: far(), Hi: far()}
		}
		key := item.Key(s)
		if was, is := of[key]; is && !slices.Equal(was, s) {
			t.Fatalf("%q is the key of %v, and of %v", key, was, s)
		}
		of[key] = s
	}
}

// P13.1, P13.2: long states, which differ at the end, or in how long they are, alone.
func TestLong(t *testing.T) {
	const n = 1 << 20
	long := slices.Repeat(api.State{inNode(7)}, n)
	last, first := slices.Clone(long), slices.Clone(long)
	last[n-1].Node++
	first[0].Node++
	order := []api.State{long[1:], long, last, first}
	for i, a := range order {
		for k, b := range order {
			if item.Compare(a, b) != cmp.Compare(i, k) || (item.Key(a) == item.Key(b)) != (i == k) {
				t.Errorf("long ones, %d and %d", i, k)
			}
		}
	}
	stops := slices.Repeat(api.State{stop(2), inHalf(1, 2)}, n)
	if got, ok := item.Lower(stops); !ok || !slices.Equal(got, slices.Repeat(api.State{stop(1), inHalf(1, 2)}, n)) {
		t.Error("a long one, lowered")
	}
	stops[len(stops)-2].Lo = 0
	if got, ok := item.Lower(stops); ok || got != nil {
		t.Error("a long one with an end at its end")
	}
}

// P13.2: Lower, written out.
func TestLowerWrittenOut(t *testing.T) {
	for _, x := range []struct {
		s, want api.State
		ok      bool
	}{
		{nil, nil, true},
		{api.State{}, nil, true},
		{api.State{stop(3)}, api.State{stop(2)}, true},
		{api.State{stop(1)}, api.State{stop(0)}, true},
		{api.State{stop(65535)}, api.State{stop(65534)}, true},
		{api.State{stop(65536)}, api.State{stop(65535)}, true},
		{api.State{stop(math.MaxInt)}, api.State{stop(math.MaxInt - 1)}, true},
		{api.State{stop(0)}, nil, false},
		{api.State{stop(-1)}, nil, false},
		{api.State{stop(math.MinInt)}, nil, false},
		{api.State{inNode(4)}, api.State{inNode(4)}, true},
		{api.State{inRep(1, 0, 0)}, api.State{inRep(1, 0, 0)}, true},
		{api.State{inRep(1, 2, 3)}, api.State{inRep(1, 2, 3)}, true},
		{api.State{inText(0, 0)}, api.State{inText(0, 0)}, true},
		{api.State{inText(0, 2)}, api.State{inText(0, 2)}, true},
		{api.State{inHalf(4, 0)}, api.State{inHalf(4, 0)}, true},
		{api.State{inHalf(4, 9)}, api.State{inHalf(4, 9)}, true},
		{api.State{{}}, api.State{{}}, true},
		{api.State{{Kind: 6, Lo: 7}}, api.State{{Kind: 6, Lo: 7}}, true},
		{api.State{{Kind: -5, Lo: -7}}, api.State{{Kind: -5, Lo: -7}}, true},
		{api.State{{Kind: api.InStop, Node: 5, Lo: 7, Hi: 9}}, api.State{{Kind: api.InStop, Node: 5, Lo: 6, Hi: 9}}, true},
		{api.State{{Kind: api.InStop, Node: -5, Lo: 1, Hi: -9}}, api.State{{Kind: api.InStop, Node: -5, Lo: 0, Hi: -9}}, true},
		{api.State{{Kind: api.InStop, Node: 1, Lo: 0, Hi: 1}}, nil, false},
		{api.State{stop(1), stop(2), stop(2), stop(9)}, api.State{stop(0), stop(1), stop(1), stop(8)}, true},
		{api.State{stop(0), stop(2), stop(9)}, nil, false},
		{api.State{stop(1), stop(0), stop(9)}, nil, false},
		{api.State{stop(1), stop(2), stop(0)}, nil, false},
		{api.State{stop(0), stop(0)}, nil, false},
		{api.State{inText(0, 1), stop(4), inNode(2), inNode(3), stop(7), inHalf(4, 4)}, api.State{inText(0, 1), stop(3), inNode(2), inNode(3), stop(6), inHalf(4, 4)}, true},
		{api.State{inText(0, 1), stop(4), inNode(2), stop(0), inNode(3)}, nil, false},
	} {
		got, ok := item.Lower(x.s)
		if ok != x.ok || !slices.Equal(got, x.want) || !ok && got != nil {
			t.Errorf("Lower(%v) = %v, %v", x.s, got, ok)
		}
	}
}

// lowered is Lower, by the chapter's words.
func lowered(s api.State) (api.State, bool) {
	if slices.ContainsFunc(s, func(x api.Item) bool { return x.Kind == api.InStop && x.Lo <= 0 }) {
		return nil, false
	}
	var list api.State
	for _, x := range s {
		if x.Kind == api.InStop {
			x = api.Item{Kind: x.Kind, Node: x.Node, Lo: x.Lo - 1, Hi: x.Hi}
		}
		list = append(list, x)
	}
	return list, true
}

// P13.2: Lower of all states of a few items, right ones and odd ones.
func TestLowerOfAll(t *testing.T) {
	seen := map[bool]int{}
	for _, s := range slices.Concat(statesTo(2, odd()), statesTo(3, items(seq(rep(1, 2, text("ab")), wide(set(6)))))) {
		want, is := lowered(s)
		got, ok := item.Lower(s)
		if ok != is || !slices.Equal(got, want) || !ok && got != nil {
			t.Fatalf("Lower(%v) = %v, %v", s, got, ok)
		}
		seen[ok]++
	}
	if seen[true] < 1000 || seen[false] < 1000 {
		t.Error(seen)
	}
}

// P13.3: less is an order: of each two one is less, or they are the same, and sorted, whatever stands ahead is less.
func TestLessIsAnOrder(t *testing.T) {
	list := slices.Concat(statesTo(1, odd()), statesTo(2, []api.Item{inNode(0), inRep(1, 0, 2), inText(2, 1), inHalf(3, 3), stop(0), stop(7)}))
	r := rand.New(rand.NewSource(1))
	r.Shuffle(len(list), func(i, k int) { list[i], list[k] = list[k], list[i] })
	slices.SortFunc(list, item.Compare)
	list = slices.CompactFunc(list, slices.Equal[api.State])
	for i, a := range list {
		for k, b := range list {
			if item.Compare(a, b) != cmp.Compare(i, k) || item.Compare(a, b) != -item.Compare(b, a) {
				t.Fatalf("Compare(%v, %v) = %d, sorted %d and %d", a, b, item.Compare(a, b), i, k)
			}
		}
	}
	if !slices.IsSortedFunc(list, func(a, b api.State) int { return cmp.Compare(len(a), len(b)) }) {
		t.Error("the shorter ones don't come first")
	}
}

// P13.3: what is lowered as often as an end is ahead can be lowered no more.
func TestLoweredToTheEnd(t *testing.T) {
	for _, x := range []struct {
		s    api.State
		most int
	}{
		{api.State{stop(0)}, 0},
		{api.State{stop(1), inNode(0)}, 1},
		{api.State{inNode(0), stop(5), stop(5)}, 5},
		{api.State{stop(9), stop(3), inHalf(0, 1), stop(4)}, 3},
		{api.State{inText(0, 1), stop(300), inNode(2), stop(65535)}, 300},
		{api.State{stop(65535)}, 65535},
	} {
		s, times := x.s, 0
		for next, ok := item.Lower(s); ok; next, ok = item.Lower(s) {
			s = next
			times++
		}
		if times != x.most {
			t.Errorf("%v: lowered %d times", x.s, times)
		}
		for i, e := range s {
			want := x.s[i]
			if want.Kind == api.InStop {
				want.Lo -= times
			}
			if e != want {
				t.Errorf("%v: lowered to %v", x.s, s)
			}
		}
	}
}

// P13.3: lowered states keep their order, and their form.
func TestLoweredAlike(t *testing.T) {
	d := seq(rep(1, 2, text("ab")), wide(set(6)))
	list := statesTo(2, items(d))
	for _, a := range list {
		low, ok := item.Lower(a)
		if !ok {
			continue
		}
		if !item.Form(d, low) {
			t.Fatalf("%v is lowered to %v", a, low)
		}
		for _, b := range list {
			if other, is := item.Lower(b); is && item.Compare(low, other) != item.Compare(a, b) {
				t.Fatalf("%v and %v, lowered", a, b)
			}
		}
	}
}

// P13.4: what is handed in stays, the room behind it included.
func TestWhatIsHandedInStays(t *testing.T) {
	d := seq(rep(1, 2, text("ab")), wide(set(6)))
	nodes := append(slices.Clone(d.Nodes), api.Node{Kind: api.Frame, Text: "room"}, api.Node{Kind: 77})
	wasNodes := slices.Clone(nodes)
	of := api.Desc{Nodes: nodes[:len(d.Nodes)]}
	for _, s := range append(statesTo(2, items(d)), statesTo(1, odd())...) {
		whole := append(slices.Clone(s), stop(7), stop(0), inNode(9))
		was := slices.Clone(whole)
		short := whole[:len(s)]
		low, ok := item.Lower(short)
		want, is := item.Lower(s)
		if ok != is || !slices.Equal(low, want) || item.Form(of, short) != item.Form(d, s) || item.Key(short) != item.Key(s) || item.Compare(short, s) != 0 {
			t.Fatalf("%v: another one with room", s)
		}
		start := item.Start(of)
		for _, list := range []api.State{low, start} {
			spoil(list)
		}
		if !slices.Equal(whole, was) || !slices.Equal(nodes, wasNodes) {
			t.Fatalf("%v: changed to %v, %v", s, whole, nodes)
		}
	}
}

// spoil writes into the whole of the list, the room behind it included.
func spoil(s api.State) {
	s = s[:cap(s)]
	for i := range s {
		s[i] = api.Item{Kind: -7, Node: -7, Lo: -7, Hi: -7}
	}
}

// P13.4: what is answered is new memory: it stays as it was, whatever is written into what was handed in, and into another answer.
func TestNewMemory(t *testing.T) {
	d := seq(rep(1, 2, text("ab")), wide(set(6)))
	first, second := item.Start(d), item.Start(d)
	spoil(second)
	if want := (api.State{inNode(len(d.Nodes) - 1)}); !slices.Equal(first, want) || !slices.Equal(item.Start(d), want) {
		t.Error("starts share memory")
	}
	for _, s := range statesTo(2, items(d)) {
		want, is := lowered(s)
		handed := slices.Clone(s)
		first, ok := item.Lower(handed)
		second, _ := item.Lower(handed)
		key := strings.Clone(item.Key(handed))
		got := item.Key(handed)
		spoil(second)
		spoil(handed)
		if ok != is || !slices.Equal(first, want) || got != key {
			t.Fatalf("%v: lowered to %v, spoilt", s, first)
		}
	}
}

// What is answered hangs on what is handed in alone.
func TestAlwaysTheSame(t *testing.T) {
	d := seq(rep(1, 2, text("ab")), wide(set(6)))
	list := append(statesTo(2, items(d)), statesTo(1, odd())...)
	type told struct {
		form, lowers bool
		key, low     string
		less         int
	}
	ask := func(s api.State) told {
		low, ok := item.Lower(s)
		return told{item.Form(d, s), ok, item.Key(s), item.Key(low), item.Compare(s, item.Start(d))}
	}
	var first []told
	for _, s := range list {
		first = append(first, ask(s))
	}
	slices.Reverse(list)
	slices.Reverse(first)
	for i, s := range list {
		if ask(slices.Clone(s)) != first[i] {
			t.Fatalf("%v isn't always told the same", s)
		}
	}
}

// Descriptions without their form, of which nothing is promised: all calls end, without a panic.
func TestNoForm(t *testing.T) {
	for _, d := range []api.Desc{
		{},
		{Nodes: []api.Node{}},
		{Nodes: []api.Node{{}}},
		{Nodes: []api.Node{{Kind: api.Text}, {Kind: api.Rep, Lo: math.MaxInt, Hi: math.MinInt}}},
		{Nodes: []api.Node{{Kind: api.Wide, A: 9}, {Kind: -1}, {Kind: api.Rep, Hi: math.MaxInt, Text: "\xff"}}},
	} {
		item.Form(d, item.Start(d))
		for _, s := range statesTo(1, odd()) {
			for i := range s {
				for s[i].Kind = range api.InStop + 2 {
					item.Form(d, s)
				}
			}
		}
	}
	if item.Form(api.Desc{}, api.State{inNode(0)}) || item.Form(api.Desc{}, api.State{inNode(-1)}) || !item.Form(api.Desc{}, api.State{stop(7)}) {
		t.Error("of no nodes")
	}
}

// The chapter's example.
func TestExample(t *testing.T) {
	if got, ok := item.Lower(api.State{stop(3)}); !ok || !slices.Equal(got, api.State{stop(2)}) {
		t.Error(got, ok)
	}
}
