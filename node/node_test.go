package node_test

import (
	"math"
	"slices"
	"strings"
	"testing"
	"unicode/utf8"
	"unsafe"

	"scantling/api"
	"scantling/node"
)

var (
	none  = api.Class{}
	all   = api.Class{1<<64 - 1, 1<<64 - 1, 1<<64 - 1, 1<<64 - 1}
	lower = api.Class{0, 1 << 33, 0, 1 << 63}
)

// tree is a description as the tests build it: what its last node holds, but A and B, and its parts.
type tree struct {
	node  api.Node
	parts []tree
}

// lay lays the tree's nodes behind those of list, parts ahead of wholes.
func (t tree) lay(list []api.Node) []api.Node {
	n := t.node
	for i, p := range t.parts {
		list = p.lay(list)
		if i == 0 {
			n.A = len(list) - 1
		} else {
			n.B = len(list) - 1
		}
	}
	return append(list, n)
}

func (t tree) desc() api.Desc {
	return api.Desc{Nodes: t.lay(nil)}
}

// wholes calls f with each of the tree's parts, theirs and so on, and the tree, with the places of its first node and of its last one.
func (t tree) wholes(start int, f func(p tree, first, last int)) int {
	end := start
	for _, p := range t.parts {
		end = p.wholes(end, f)
	}
	f(t, start, end)
	return end + 1
}

// Leaves, and nodes of one part and of two, of which trees are built.
var (
	leaves = []api.Node{{Kind: 1}, {Kind: 2, Class: lower}, {Kind: 3, Text: "h\u00e9"}}
	ones   = []api.Node{{Kind: 6}, {Kind: 7, Lo: 1, Hi: 255}, {Kind: 8}, {Kind: 9}}
	twos   = []api.Node{{Kind: 4}, {Kind: 5}}
)

// trees are all trees of just n nodes.
func trees(n int, leaves, ones, twos []api.Node) []tree {
	var list []tree
	if n == 1 {
		for _, x := range leaves {
			list = append(list, tree{node: x})
		}
		return list
	}
	for _, x := range ones {
		for _, p := range trees(n-1, leaves, ones, twos) {
			list = append(list, tree{x, []tree{p}})
		}
	}
	for k := 1; k < n-1; k++ {
		seconds := trees(n-1-k, leaves, ones, twos)
		for _, p := range trees(k, leaves, ones, twos) {
			for _, q := range seconds {
				for _, x := range twos {
					list = append(list, tree{x, []tree{p, q}})
				}
			}
		}
	}
	return list
}

// treesTo are all trees of up to n nodes.
func treesTo(n int) []tree {
	var list []tree
	for k := 1; k <= n; k++ {
		list = append(list, trees(k, leaves, ones, twos)...)
	}
	return list
}

// chain is a description of an Empty in so many nodes of the kind, each a part of the next one; a Seq's other part, ahead of it or behind it, is an Empty too.
func chain(steps int, kind int, right bool) api.Desc {
	list := []api.Node{{Kind: api.Empty}}
	if kind != api.Seq {
		for i := range steps {
			list = append(list, api.Node{Kind: kind, A: i})
		}
		return api.Desc{Nodes: list}
	}
	if right {
		for range steps {
			list = append(list, api.Node{Kind: api.Empty})
		}
		for i := range steps {
			list = append(list, api.Node{Kind: kind, A: steps - 1 - i, B: steps + i})
		}
		return api.Desc{Nodes: list}
	}
	for range steps {
		a := len(list) - 1
		list = append(list, api.Node{Kind: api.Empty}, api.Node{Kind: kind, A: a, B: a + 1})
	}
	return api.Desc{Nodes: list}
}

// partsOf are the numbers of a node's parts.
func partsOf(n api.Node) []int {
	switch n.Kind {
	case 6, 7, 8, 9:
		return []int{n.A}
	case 4, 5:
		return []int{n.A, n.B}
	}
	return nil
}

// modelFirst is the least number among the node, its parts, their parts, and so on; all parts stand ahead of their wholes.
func modelFirst(list []api.Node, i int) int {
	least := i
	for _, p := range partsOf(list[i]) {
		least = min(least, modelFirst(list, p))
	}
	return least
}

// modelAlone tells whether the node's fields are as they must be, but the numbers of its parts.
func modelAlone(n api.Node) bool {
	a, b, lo, hi, class, text := n.A != 0, n.B != 0, n.Lo != 0, n.Hi != 0, n.Class != none, n.Text != ""
	switch n.Kind {
	case 1:
		return !a && !b && !lo && !hi && !class && !text
	case 2:
		return !a && !b && !lo && !hi && !text
	case 3:
		return !a && !b && !lo && !hi && !class && text && utf8.ValidString(n.Text) && strings.IndexByte(n.Text, 0x22) < 0
	case 4, 5:
		return !lo && !hi && !class && !text
	case 6, 8, 9:
		return !b && !lo && !hi && !class && !text
	case 7:
		return !b && !class && !text && n.Lo >= 0 && n.Lo <= n.Hi && n.Hi <= 255
	}
	return false
}

// modelForm is what Form is to answer by the chapter's words.
func modelForm(list []api.Node) bool {
	part := make([]bool, len(list))
	for i, n := range list {
		parts := partsOf(n)
		if !modelAlone(n) || len(parts) > 0 && (i == 0 || parts[len(parts)-1] != i-1) {
			return false
		}
		if len(parts) == 2 {
			if first := modelFirst(list, n.B); first == 0 || n.A != first-1 {
				return false
			}
		}
		for _, p := range parts {
			part[p] = true
		}
	}
	for i := range list {
		if part[i] == (i == len(list)-1) {
			return false
		}
	}
	return len(list) > 0
}

// againstModel holds what Form answers against the model.
func againstModel(t *testing.T, list []api.Node) {
	t.Helper()
	if got, want := node.Form(api.Desc{Nodes: list}), modelForm(list); got != want {
		t.Fatalf("Form(%v) = %v", list, got)
	}
}

// lists calls f with each list of n of the nodes.
func lists(n int, nodes []api.Node, f func(list []api.Node)) {
	list := make([]api.Node, n)
	var at func(i int)
	at = func(i int) {
		if i == n {
			f(list)
			return
		}
		for _, x := range nodes {
			list[i] = x
			at(i + 1)
		}
	}
	at(0)
}

// P4.1: Form, of all trees of a few nodes.
func TestFormOfTrees(t *testing.T) {
	for _, x := range treesTo(6) {
		if d := x.desc(); !node.Form(d) {
			t.Fatalf("%v hasn't its form", d)
		}
	}
}

// P4.1: Form, written out: what has its form, and what hasn't.
func TestFormWrittenOut(t *testing.T) {
	e := api.Node{Kind: api.Empty}
	for i, x := range []struct {
		list []api.Node
		want bool
	}{
		{nil, false},
		{[]api.Node{}, false},
		{[]api.Node{{}}, false},
		{[]api.Node{e}, true},
		{[]api.Node{e, e}, false},
		{[]api.Node{{Kind: api.Bytes}}, true},
		{[]api.Node{{Kind: api.Bytes, Class: all}}, true},
		{[]api.Node{{Kind: api.Star}}, false},
		{[]api.Node{{Kind: api.Star, A: -1}}, false},
		{[]api.Node{{Kind: api.Seq, A: -1, B: -1}}, false},
		{[]api.Node{e, {Kind: api.Star}}, true},
		{[]api.Node{e, {Kind: api.Star, A: 1}}, false},
		{[]api.Node{e, e, {Kind: api.Star, A: 1}}, false},
		{[]api.Node{e, e, {Kind: api.Star}}, false},
		{[]api.Node{e, {Kind: api.Star}, e}, false},
		{[]api.Node{e, {Kind: api.Or}}, false},
		{[]api.Node{e, {Kind: api.Or, A: -1}}, false},
		{[]api.Node{e, e, {Kind: api.Or, B: 1}}, true},
		{[]api.Node{e, e, {Kind: api.Or, A: 1, B: 1}}, false},
		{[]api.Node{e, e, {Kind: api.Or, A: 1}}, false},
		{[]api.Node{e, e, {Kind: api.Or, B: 2}}, false},
		{[]api.Node{e, e, e, {Kind: api.Or, A: 1, B: 2}}, false},
		{[]api.Node{e, e, {Kind: api.Star, A: 1}, {Kind: api.Seq, B: 2}}, true},
		{[]api.Node{e, e, {Kind: api.Star, A: 1}, {Kind: api.Seq, A: 1, B: 2}}, false},
		{[]api.Node{e, {Kind: api.Star}, {Kind: api.Seq, B: 1}}, false},
		{[]api.Node{e, {Kind: api.Star}, e, {Kind: api.Seq, A: 1, B: 2}}, true},
		{[]api.Node{e, {Kind: api.Star}, e, {Kind: api.Seq, B: 2}}, false},
		{[]api.Node{e, e, e, {Kind: api.Seq, A: 1, B: 2}, {Kind: api.Seq, B: 3}}, true},
		{[]api.Node{e, e, {Kind: api.Seq, B: 1}, e, {Kind: api.Seq, A: 2, B: 3}}, true},
		{[]api.Node{{Kind: api.Star, A: math.MaxInt}}, false},
		{[]api.Node{e, {Kind: api.Star, A: math.MinInt}}, false},
		{[]api.Node{e, e, {Kind: api.Seq, A: math.MaxInt, B: 1}}, false},
		{[]api.Node{e, e, {Kind: api.Seq, B: math.MinInt}}, false},
	} {
		if node.Form(api.Desc{Nodes: x.list}) != x.want {
			t.Errorf("%d: Form(%v) = %v", i, x.list, !x.want)
		}
	}
}

// P4.1: Form, of each kind there is and of some that there aren't, alone and with a part or two ahead.
func TestFormOfEachKind(t *testing.T) {
	known := map[int]int{1: 0, 2: 0, 6: 1, 7: 1, 8: 1, 9: 1, 4: 2, 5: 2}
	for _, kind := range []int{math.MinInt, -1, 0, 1, 2, 3, 4, 5, 6, 7, 8, 9, 10, 11, 256 + 1, math.MaxInt} {
		parts, ok := known[kind]
		e := api.Node{Kind: api.Empty}
		for i, list := range [][]api.Node{{{Kind: kind}}, {e, {Kind: kind}}, {e, e, {Kind: kind, B: 1}}} {
			if got := node.Form(api.Desc{Nodes: list}); got != (ok && i == parts) {
				t.Errorf("the kind %d behind %d nodes: %v", kind, i, got)
			}
		}
	}
}

// P4.1: Form, of texts: at least a byte, valid UTF-8, without a byte 22.
func TestFormOfTexts(t *testing.T) {
	check := func(s string) {
		want := s != "" && utf8.ValidString(s) && !strings.Contains(s, "\x22")
		if node.Form(api.Desc{Nodes: []api.Node{{Kind: api.Text, Text: s}}}) != want {
			t.Errorf("the text %q: %v", s, !want)
		}
	}
	for _, s := range []string{"", "a", " ", "ab", "\x00", "\u00e9", "\u20ac", "\U0010ffff", "\ufffd", "\xc3", "\xed\xa0\x80", "\xf4\x90\x80\x80", "\"", "a\"", "\"a", "a\"b", "\u00e9\"", "'", "()|*<>{}bw.", "\u0122", strings.Repeat("a", 5000), strings.Repeat("a", 5000) + "\"", strings.Repeat("a", 5000) + "\xff"} {
		check(s)
	}
	for a := range 256 {
		check(string([]byte{byte(a)}))
		for b := range 256 {
			check(string([]byte{byte(a), byte(b)}))
			check(string([]byte{'a', byte(a), byte(b)}))
		}
	}
}

// P4.1: Form, of all bounds near the limits, and far from them.
func TestFormOfBounds(t *testing.T) {
	var bounds []int
	for i := -3; i < 260; i++ {
		bounds = append(bounds, i)
	}
	for _, lo := range append(bounds, math.MinInt, 1<<32, 1<<32+1, math.MaxInt) {
		for _, hi := range append(bounds, math.MinInt, 1<<32, 1<<32+1, math.MaxInt) {
			list := []api.Node{{Kind: api.Empty}, {Kind: api.Rep, Lo: lo, Hi: hi}}
			if got := node.Form(api.Desc{Nodes: list}); got != (0 <= lo && lo <= hi && hi <= 255) {
				t.Fatalf("the bounds %d and %d: %v", lo, hi, got)
			}
		}
	}
}

// P4.1: Form, where a field that the kind hasn't isn't zero.
func TestFormOfOtherFields(t *testing.T) {
	changes := []func(n *api.Node){
		func(n *api.Node) { n.A++ },
		func(n *api.Node) { n.A-- },
		func(n *api.Node) { n.B++ },
		func(n *api.Node) { n.B-- },
		func(n *api.Node) { n.Lo++ },
		func(n *api.Node) { n.Lo-- },
		func(n *api.Node) { n.Hi++ },
		func(n *api.Node) { n.Hi-- },
		func(n *api.Node) { n.Class[0] ^= 1 },
		func(n *api.Node) { n.Class[3] ^= 1 << 62 },
		func(n *api.Node) { n.Text += "a" },
		func(n *api.Node) { n.Text += "\x00" },
	}
	for _, x := range treesTo(4) {
		list := x.desc().Nodes
		for i := range list {
			for _, change := range changes {
				other := slices.Clone(list)
				change(&other[i])
				againstModel(t, other)
			}
		}
	}
}

// P4.1: Form, of all lists of a few nodes, their parts' numbers whatever: just trees have it.
func TestFormOfAllLists(t *testing.T) {
	kinds := func(least, most int) []api.Node {
		nodes := []api.Node{{Kind: api.Empty}}
		for a := least; a <= most; a++ {
			nodes = append(nodes, api.Node{Kind: api.Frame, A: a})
			for b := least; b <= most; b++ {
				nodes = append(nodes, api.Node{Kind: api.Or, A: a, B: b})
			}
		}
		return nodes
	}
	for n, nodes := range map[int][]api.Node{1: kinds(-2, 4), 2: kinds(-2, 4), 3: kinds(-2, 4), 4: kinds(-1, 3)} {
		whole := map[[4]api.Node]bool{}
		for _, x := range trees(n, []api.Node{{Kind: api.Empty}}, []api.Node{{Kind: api.Frame}}, []api.Node{{Kind: api.Or}}) {
			whole[key(x.desc().Nodes)] = true
		}
		lists(n, nodes, func(list []api.Node) {
			if got := node.Form(api.Desc{Nodes: list}); got != whole[key(list)] {
				t.Fatalf("Form(%v) = %v", list, got)
			}
		})
	}
}

// key is a list of up to four nodes, to be found in a map.
func key(list []api.Node) [4]api.Node {
	var k [4]api.Node
	copy(k[:], list)
	return k
}

// P4.1: Form, of trees of which a node is taken out, doubled, turned with the next one, of another kind, or has other parts.
func TestFormOfMarredTrees(t *testing.T) {
	for _, x := range treesTo(5) {
		list := x.desc().Nodes
		for i, n := range list {
			againstModel(t, slices.Delete(slices.Clone(list), i, i+1))
			againstModel(t, slices.Insert(slices.Clone(list), i, n))
			againstModel(t, list[:i])
			other := slices.Clone(list)
			for k := range 11 {
				other[i].Kind = k
				againstModel(t, other)
			}
			other[i] = n
			if i > 0 {
				other[i], other[i-1] = list[i-1], n
				againstModel(t, other)
				other[i], other[i-1] = n, list[i-1]
			}
			for a := range len(list) + 1 {
				other[i].A = a
				againstModel(t, other)
			}
			other[i] = n
			for b := range len(list) + 1 {
				other[i].B = b
				againstModel(t, other)
			}
		}
	}
}

// P4.1: Form and First, of descriptions that are long and deep, on either side, more than MaxNodes; Form says nothing of that.
func TestFormOfLongOnes(t *testing.T) {
	for i, d := range []api.Desc{chain(200000, api.Star, false), chain(200000, api.Wide, false), chain(100000, api.Seq, false), chain(100000, api.Seq, true)} {
		last := len(d.Nodes) - 1
		if !node.Form(d) || node.First(d, last) != 0 {
			t.Errorf("%d: a long one hasn't its form", i)
		}
		if node.Form(api.Desc{Nodes: d.Nodes[1:]}) || node.Form(api.Desc{Nodes: append(slices.Clone(d.Nodes), api.Node{Kind: api.Empty})}) {
			t.Errorf("%d: a long one has its form, without its first node, or with one more", i)
		}
	}
	right := chain(100000, api.Seq, true)
	if node.Form(api.Desc{Nodes: right.Nodes[:200000]}) || node.First(right, 150000) != 50000 {
		t.Error("a part on the right side")
	}
}

// P4.1: First and Sub, of each node of all trees of a few nodes.
func TestFirstAndSubOfTrees(t *testing.T) {
	for _, x := range treesTo(5) {
		d := x.desc()
		x.wholes(0, func(p tree, first, last int) {
			if got := node.First(d, last); got != first || got != modelFirst(d.Nodes, last) {
				t.Fatalf("First(%v, %d) = %d, want %d", d, last, got, first)
			}
			if got := node.Sub(d, last); !slices.Equal(got.Nodes, p.desc().Nodes) {
				t.Fatalf("Sub(%v, %d) = %v, want %v", d, last, got, p.desc())
			}
		})
	}
}

// P4.1: First and Sub, written out.
func TestFirstAndSubWrittenOut(t *testing.T) {
	a := api.Node{Kind: api.Bytes, Class: lower}
	s := api.Node{Kind: api.Text, Text: "a"}
	d := api.Desc{Nodes: []api.Node{s, a, s, {Kind: api.Or, A: 1, B: 2}, {Kind: api.Rep, A: 3, Lo: 2, Hi: 3}, {Kind: api.Seq, B: 4}}}
	for i, want := range []struct {
		first int
		sub   []api.Node
	}{
		{0, []api.Node{s}},
		{1, []api.Node{a}},
		{2, []api.Node{s}},
		{1, []api.Node{a, s, {Kind: api.Or, A: 0, B: 1}}},
		{1, []api.Node{a, s, {Kind: api.Or, A: 0, B: 1}, {Kind: api.Rep, A: 2, Lo: 2, Hi: 3}}},
		{0, d.Nodes},
	} {
		if node.First(d, i) != want.first || !slices.Equal(node.Sub(d, i).Nodes, want.sub) {
			t.Errorf("the node %d: %d and %v", i, node.First(d, i), node.Sub(d, i))
		}
	}
}

// What the language's rules ask of every call: it ends, and doesn't panic, at nodes that there aren't and descriptions without their form too.
func TestAnyArgumentsEnd(t *testing.T) {
	odd := []int{math.MinInt, -2, -1, 0, 1, 2, 3, math.MaxInt}
	var nodes []api.Node
	for _, kind := range []int{0, 1, 6, 4} {
		for _, a := range odd {
			nodes = append(nodes, api.Node{Kind: kind, A: a, B: 1 - a})
		}
	}
	for n := range 4 {
		lists(n, nodes, func(list []api.Node) {
			d := api.Desc{Nodes: list}
			for _, i := range odd {
				node.First(d, i)
				node.Sub(d, i)
			}
			node.Pair(n, node.Wrap(-n, 3, -7, d), d)
		})
	}
	node.Leaf(api.Node{})
}

// differ are changes of a node, each in one field.
var differ = []func(n *api.Node){
	func(n *api.Node) { n.Kind++ },
	func(n *api.Node) { n.A++ },
	func(n *api.Node) { n.B-- },
	func(n *api.Node) { n.Lo++ },
	func(n *api.Node) { n.Hi++ },
	func(n *api.Node) { n.Class[0] ^= 1 },
	func(n *api.Node) { n.Class[1] ^= 2 },
	func(n *api.Node) { n.Class[2] ^= 4 },
	func(n *api.Node) { n.Class[3] ^= 1 << 63 },
	func(n *api.Node) { n.Text += "a" },
}

// P4.1: Same, of any descriptions: of the same nodes, and of such as a field, the length, or the order tells apart.
func TestSame(t *testing.T) {
	if !node.Same(api.Desc{}, api.Desc{}) || !node.Same(api.Desc{}, api.Desc{Nodes: []api.Node{}}) || !node.Same(api.Desc{Nodes: []api.Node{}}, api.Desc{}) {
		t.Error("no nodes and no nodes aren't the same")
	}
	odd := []api.Node{{Kind: -5, A: -1}, {Kind: 77, Text: "\xff\""}, {}, {Kind: 4, A: math.MaxInt, B: math.MinInt}}
	for _, list := range [][]api.Node{odd, treesTo(5)[900].desc().Nodes, chain(40, api.Seq, true).Nodes} {
		d := api.Desc{Nodes: list}
		if !node.Same(d, d) || !node.Same(d, api.Desc{Nodes: slices.Clone(list)}) {
			t.Errorf("%v isn't the same as itself", d)
		}
		for i := range list {
			for k, change := range differ {
				other := slices.Clone(list)
				change(&other[i])
				if node.Same(d, api.Desc{Nodes: other}) || node.Same(api.Desc{Nodes: other}, d) {
					t.Errorf("%v, its node %d changed by %d, is the same", d, i, k)
				}
			}
			if node.Same(d, api.Desc{Nodes: list[:i]}) || node.Same(api.Desc{Nodes: list[:i]}, d) || node.Same(d, api.Desc{Nodes: list[i+1:]}) {
				t.Errorf("%v is the same as %d nodes of it", d, i)
			}
		}
		turned := slices.Clone(list)
		slices.Reverse(turned)
		if node.Same(d, api.Desc{Nodes: turned}) {
			t.Errorf("%v turned round is the same", d)
		}
	}
}

// P4.1: Same, of all trees of a few nodes: each is the same as itself alone.
func TestSameOfTrees(t *testing.T) {
	list := treesTo(4)
	for i, x := range list {
		for k, y := range list {
			if node.Same(x.desc(), y.desc()) != (i == k) {
				t.Fatalf("%v and %v", x.desc(), y.desc())
			}
		}
	}
}

// P4.2: Leaf, of each node that alone has its form.
func TestLeaf(t *testing.T) {
	for _, n := range []api.Node{{Kind: api.Empty}, {Kind: api.Bytes}, {Kind: api.Bytes, Class: all}, {Kind: api.Bytes, Class: lower}, {Kind: api.Text, Text: "a"}, {Kind: api.Text, Text: "\x00\u20ac\U0010ffff"}, {Kind: api.Text, Text: strings.Repeat("ab", 5000)}} {
		if d := node.Leaf(n); !slices.Equal(d.Nodes, []api.Node{n}) || !node.Form(d) {
			t.Errorf("Leaf(%v) = %v", n, d)
		}
	}
}

// P4.2, P4.3: Wrap, of each kind of one part, and all bounds: the nodes that are asked for, their form, and the part.
func TestWrap(t *testing.T) {
	check := func(x tree, n api.Node) {
		t.Helper()
		a := x.desc()
		d := node.Wrap(n.Kind, n.Lo, n.Hi, a)
		if want := (tree{n, []tree{x}}).desc(); !slices.Equal(d.Nodes, want.Nodes) {
			t.Fatalf("Wrap(%d, %d, %d, %v) = %v, want %v", n.Kind, n.Lo, n.Hi, a, d, want)
		}
		last := len(d.Nodes) - 1
		if !node.Form(d) || !node.Same(node.Sub(d, d.Nodes[last].A), a) || !node.Same(node.Sub(d, last), d) {
			t.Fatalf("Wrap(%d, %d, %d, %v): %v", n.Kind, n.Lo, n.Hi, a, d)
		}
	}
	for _, x := range treesTo(5) {
		for _, n := range ones {
			check(x, n)
		}
	}
	for lo := range 256 {
		for hi := lo; hi < 256; hi++ {
			check(tree{node: leaves[lo%3]}, api.Node{Kind: api.Rep, Lo: lo, Hi: hi})
		}
	}
}

// P4.2, P4.3: Pair, of both kinds: the nodes that are asked for, their form, and both parts.
func TestPair(t *testing.T) {
	list := treesTo(4)
	for _, x := range list {
		a := x.desc()
		for _, y := range list {
			b := y.desc()
			for _, n := range twos {
				d := node.Pair(n.Kind, a, b)
				if want := (tree{n, []tree{x, y}}).desc(); !slices.Equal(d.Nodes, want.Nodes) {
					t.Fatalf("Pair(%d, %v, %v) = %v, want %v", n.Kind, a, b, d, want)
				}
				last := d.Nodes[len(d.Nodes)-1]
				if !node.Form(d) || !node.Same(node.Sub(d, last.A), a) || !node.Same(node.Sub(d, last.B), b) {
					t.Fatalf("Pair(%d, %v, %v): %v", n.Kind, a, b, d)
				}
			}
		}
	}
}

// build is the tree's description, built by the package's calls alone.
func build(x tree) api.Desc {
	switch len(x.parts) {
	case 1:
		return node.Wrap(x.node.Kind, x.node.Lo, x.node.Hi, build(x.parts[0]))
	case 2:
		return node.Pair(x.node.Kind, build(x.parts[0]), build(x.parts[1]))
	}
	return node.Leaf(x.node)
}

// P4.2, P4.3: what is built of what was built.
func TestBuild(t *testing.T) {
	for _, x := range treesTo(6) {
		if d := build(x); !slices.Equal(d.Nodes, x.desc().Nodes) || !node.Form(d) {
			t.Fatalf("%v is built as %v", x.desc(), d)
		}
	}
}

// P4.2, P4.3: as many nodes as a description may have, built one by one.
func TestBuildLongOnes(t *testing.T) {
	left, right, star := node.Leaf(api.Node{Kind: api.Empty}), node.Leaf(api.Node{Kind: api.Empty}), node.Leaf(api.Node{Kind: api.Empty})
	for range 2047 {
		left = node.Pair(api.Seq, left, node.Leaf(api.Node{Kind: api.Empty}))
		right = node.Pair(api.Seq, node.Leaf(api.Node{Kind: api.Empty}), right)
		star = node.Wrap(api.Star, 0, 0, node.Wrap(api.Star, 0, 0, star))
	}
	if !node.Form(left) || !node.Same(left, chain(2047, api.Seq, false)) {
		t.Error("the chain on the left side")
	}
	if !node.Form(right) || len(right.Nodes) != 4095 || !node.Same(right, chain(2047, api.Seq, true)) {
		t.Error("the chain on the right side")
	}
	if !node.Form(star) || !node.Same(star, chain(4094, api.Star, false)) {
		t.Error("the chain of stars")
	}
}

// handed is the tree's description, within a list that has nodes behind it.
func handed(x tree) (api.Desc, []api.Node) {
	list := append(x.desc().Nodes, api.Node{Kind: -1}, api.Node{Kind: -2}, api.Node{Kind: -3})
	return api.Desc{Nodes: list[:len(list)-3]}, list
}

// P4.4: what is handed in stays, the room behind it included.
func TestHandedInStays(t *testing.T) {
	other := treesTo(3)[60]
	for _, x := range treesTo(4) {
		d, whole := handed(x)
		e, behind := handed(other)
		was, wasBehind := slices.Clone(whole), slices.Clone(behind)
		node.Form(d)
		node.Same(d, e)
		for i := range d.Nodes {
			node.First(d, i)
			node.Sub(d, i)
		}
		for _, n := range ones {
			node.Wrap(n.Kind, n.Lo, n.Hi, d)
		}
		node.Pair(api.Seq, d, e)
		node.Pair(api.Or, e, d)
		node.Pair(api.Or, d, d)
		if !slices.Equal(whole, was) || !slices.Equal(behind, wasBehind) {
			t.Fatalf("%v is changed to %v", was, whole)
		}
	}
}

// answers are what each call that answers a description answers for d and e.
func answers(d, e api.Desc) []api.Desc {
	list := []api.Desc{node.Leaf(d.Nodes[0]), node.Pair(api.Seq, d, e), node.Pair(api.Or, e, d), node.Pair(api.Seq, d, d)}
	for i := range d.Nodes {
		list = append(list, node.Sub(d, i))
	}
	for _, n := range ones {
		list = append(list, node.Wrap(n.Kind, n.Lo, n.Hi, d))
	}
	return list
}

// P4.4: what is answered is new memory: an answer written over, with the room behind it, what was handed in and all other answers are as ever.
func TestAnswersAnew(t *testing.T) {
	other := treesTo(3)[70]
	for _, x := range treesTo(4) {
		d, whole := handed(x)
		e, behind := handed(other)
		was, wasBehind := slices.Clone(whole), slices.Clone(behind)
		list := answers(d, e)
		want := answers(d, e)
		for i := range list {
			clear(list[i].Nodes[:cap(list[i].Nodes)])
			for k := i + 1; k < len(list); k++ {
				if !slices.Equal(list[k].Nodes, want[k].Nodes) {
					t.Fatalf("the answer %d is changed through the answer %d", k, i)
				}
			}
		}
		if !slices.Equal(whole, was) || !slices.Equal(behind, wasBehind) {
			t.Fatalf("%v is changed through an answer", was)
		}
		for i, a := range answers(d, e) {
			if !slices.Equal(a.Nodes, want[i].Nodes) {
				t.Fatalf("the answer %d is another one at another call", i)
			}
		}
	}
}

// P4.4: Texts are new memory too, not those that were handed in.
func TestTextsAnew(t *testing.T) {
	text := string([]byte("abc"))
	d := api.Desc{Nodes: []api.Node{{Kind: api.Text, Text: text}}}
	places := map[*byte]bool{unsafe.StringData(text): true}
	for i, a := range answers(d, d) {
		for _, n := range a.Nodes {
			if n.Kind != api.Text {
				continue
			}
			if p := unsafe.StringData(n.Text); n.Text != "abc" || places[p] {
				t.Errorf("the answer %d has a Text of old memory, or another one: %q", i, n.Text)
			} else {
				places[p] = true
			}
		}
	}
}
