package null_test

import (
	"math"
	"math/big"
	"slices"
	"testing"

	"scantling/api"
	"scantling/node"
	"scantling/null"
	"scantling/sample"
)

// What descriptions are built of.
var (
	empty, text            = sample.Empty, sample.Text
	seq, or                = sample.Seq, sample.Or
	star, rep, frame, wide = sample.Star, sample.Rep, sample.Frame, sample.Wide
)

// set is a Bytes of some of the first bytes.
func set(first uint64) api.Desc { return sample.Bytes(api.Class{first}) }

// both is what has two ways of nothing.
func both() api.Desc { return or(empty(), empty()) }

// descsTo are all descriptions of up to n nodes, of a few leaves and bounds.
func descsTo(n int) []api.Desc {
	leaves := []api.Desc{empty(), set(0), text("a")}
	return sample.AllTo(n, leaves, [2]int{0, 0}, [2]int{0, 1}, [2]int{1, 1}, [2]int{2, 255})
}

// modelWays are the ways of nothing of the description's last node, by the chapter's words; a repeat's powers are taken one by one, in numbers that have no end.
func modelWays(d api.Desc) int {
	n := d.Nodes[len(d.Nodes)-1]
	a := func() int64 { return int64(modelWays(node.Sub(d, n.A))) }
	b := func() int64 { return int64(modelWays(node.Sub(d, n.B))) }
	all := big.NewInt(0)
	switch n.Kind {
	case api.Empty:
		all.SetInt64(1)
	case api.Seq:
		all.SetInt64(a() * b())
	case api.Or:
		all.SetInt64(a() + b())
	case api.Star:
		all.SetInt64(2)
		if a() == 0 {
			all.SetInt64(1)
		}
	case api.Rep:
		part := big.NewInt(a())
		for k := n.Lo; k <= n.Hi; k++ {
			all.Add(all, new(big.Int).Exp(part, big.NewInt(int64(k)), nil))
		}
	}
	if all.Cmp(big.NewInt(2)) >= 0 {
		return 2
	}
	return int(all.Int64())
}

// modelFirst is the least number of a Star or a Rep of what may read nothing, by the model, and true; 0 and false.
func modelFirst(d api.Desc) (int, bool) {
	for i, n := range d.Nodes {
		if n.Kind != api.Star && n.Kind != api.Rep {
			continue
		}
		if modelWays(node.Sub(d, n.A)) != 0 {
			return i, true
		}
	}
	return 0, false
}

// againstModel holds what is answered of the description, and Ways of each node of it, against the model.
func againstModel(t *testing.T, d api.Desc) {
	t.Helper()
	for i := range d.Nodes {
		if got, want := null.Ways(d, i), modelWays(node.Sub(d, i)); got != want {
			t.Fatalf("Ways(%v, %d) = %d, want %d", d, i, got, want)
		}
	}
	want, wrong := modelFirst(d)
	if got, ok := null.First(d); got != want || ok != wrong {
		t.Fatalf("First(%v) = %d, %v, want %d, %v", d, got, ok, want, wrong)
	}
	if null.Right(d) == wrong {
		t.Fatalf("Right(%v) = %v", d, !wrong)
	}
}

// P8.1: Ways, written out.
func TestWaysWrittenOut(t *testing.T) {
	e, b, x, two := empty(), set(7), text("abc"), both()
	for i, y := range []struct {
		d    api.Desc
		want int // of the last node
	}{
		{e, 1},
		{b, 0},
		{set(0), 0},
		{x, 0},
		{seq(e, e), 1},
		{seq(e, x), 0},
		{seq(x, e), 0},
		{seq(two, e), 2},
		{seq(e, two), 2},
		{seq(two, two), 2},
		{seq(two, b), 0},
		{or(b, x), 0},
		{or(e, x), 1},
		{or(x, e), 1},
		{or(e, e), 2},
		{or(two, x), 2},
		{or(two, e), 2},
		{or(two, two), 2},
		{star(x), 1},
		{star(e), 2},
		{star(two), 2},
		{star(star(x)), 2},
		{rep(0, 0, x), 1},
		{rep(0, 0, e), 1},
		{rep(0, 0, two), 1},
		{rep(0, 1, x), 1},
		{rep(0, 1, e), 2},
		{rep(0, 1, two), 2},
		{rep(0, 255, x), 1},
		{rep(1, 1, x), 0},
		{rep(1, 1, e), 1},
		{rep(1, 1, two), 2},
		{rep(1, 2, x), 0},
		{rep(1, 2, e), 2},
		{rep(255, 255, x), 0},
		{rep(255, 255, e), 1},
		{rep(255, 255, two), 2},
		{rep(254, 255, e), 2},
		{frame(e), 0},
		{frame(two), 0},
		{wide(e), 0},
		{wide(star(x)), 0},
		{seq(star(x), rep(0, 3, b)), 1},
		{or(star(x), rep(0, 3, b)), 2},
		{star(frame(two)), 1},
		{seq(star(rep(0, 1, x)), star(e)), 2},
		{or(frame(e), seq(e, rep(0, 0, two))), 1},
	} {
		if got := null.Ways(y.d, len(y.d.Nodes)-1); got != y.want {
			t.Errorf("%d: Ways(%v) = %d, want %d", i, y.d, got, y.want)
		}
	}
}

// P8.1: the chapter's example.
func TestExample(t *testing.T) {
	if got := null.Ways(or(empty(), empty()), 2); got != 2 {
		t.Error(got)
	}
}

// P8.1: each node of a description has the ways of its own, whatever stands ahead of it or behind it.
func TestEachNode(t *testing.T) {
	d := seq(seq(or(text("ab"), empty()), star(set(1))), frame(or(both(), wide(empty()))))
	want := []int{0, 1, 1, 0, 1, 1, 1, 1, 2, 1, 0, 2, 0, 0}
	if len(want) != len(d.Nodes) {
		t.Fatal(len(d.Nodes))
	}
	for i := range d.Nodes {
		if got := null.Ways(d, i); got != want[i] {
			t.Errorf("Ways(d, %d) = %d, want %d", i, got, want[i])
		}
	}
}

// P8.1: First and Right, written out.
func TestFirstWrittenOut(t *testing.T) {
	e, b, x := empty(), set(7), text("abc")
	for i, y := range []struct {
		d     api.Desc
		first int // -1, where there is none
	}{
		{e, -1},
		{both(), -1},
		{b, -1},
		{star(x), -1},
		{star(set(0)), -1},
		{star(e), 1},
		{star(both()), 3},
		{star(star(x)), 2},
		{star(star(e)), 1},
		{star(frame(e)), -1},
		{star(wide(star(e))), 1},
		{rep(0, 0, x), -1},
		{rep(0, 0, e), 1},
		{rep(1, 1, e), 1},
		{rep(255, 255, both()), 3},
		{rep(1, 2, rep(1, 2, x)), -1},
		{rep(1, 2, rep(0, 2, x)), 2},
		{rep(1, 2, rep(0, 0, x)), 2},
		{rep(0, 1, seq(rep(1, 2, x), star(b))), -1},
		{seq(star(or(x, b)), rep(2, 2, frame(e))), -1},
		{seq(star(x), star(e)), 3},
		{seq(star(e), star(e)), 1},
		{or(rep(0, 5, or(e, x)), star(e)), 3},
		{or(star(x), seq(star(b), rep(1, 1, star(x)))), 6},
		{frame(wide(star(or(b, e)))), 3},
		{star(seq(e, x)), -1},
		{star(seq(e, star(x))), 4},
	} {
		want, wrong := max(y.first, 0), y.first >= 0
		if got, ok := null.First(y.d); got != want || ok != wrong {
			t.Errorf("%d: First(%v) = %d, %v", i, y.d, got, ok)
		}
		if null.Right(y.d) == wrong {
			t.Errorf("%d: Right(%v) = %v", i, y.d, !wrong)
		}
	}
}

// P8.1: all descriptions of a few nodes.
func TestAllDescs(t *testing.T) {
	for _, d := range descsTo(5) {
		againstModel(t, d)
	}
}

// P8.1: all bounds that there may be, of what has no way of nothing, one, and two.
func TestBounds(t *testing.T) {
	for _, a := range []api.Desc{text("abc"), empty(), both()} {
		for hi := range api.MaxTimes + 1 {
			for _, lo := range []int{0, 1, 2, hi / 2, hi - 2, hi - 1, hi} {
				if 0 <= lo && lo <= hi {
					againstModel(t, rep(lo, hi, a))
				}
			}
		}
	}
}

// P8.1: Right of descriptions that have no form, though no Star or Rep of them has a wrong part, and of such as would be right but for one field.
func TestRightNeedsForm(t *testing.T) {
	if null.Right(api.Desc{}) {
		t.Error("no nodes")
	}
	marred := 0
	for _, d := range descsTo(3) {
		for i := range d.Nodes {
			for _, mar := range []func(n *api.Node){
				func(n *api.Node) { n.Kind = 0 },
				func(n *api.Node) { n.Kind = api.Kinds + 1 },
				func(n *api.Node) { n.A++ },
				func(n *api.Node) { n.A-- },
				func(n *api.Node) { n.B++ },
				func(n *api.Node) { n.Lo = -1 },
				func(n *api.Node) { n.Hi = api.MaxTimes + 1 },
				func(n *api.Node) { n.Class[3] ^= 1 },
				func(n *api.Node) { n.Text = `"` },
				func(n *api.Node) { n.Text = "\xff" },
				func(n *api.Node) { n.Text = "" },
			} {
				nodes := slices.Clone(d.Nodes)
				mar(&nodes[i])
				e := api.Desc{Nodes: nodes}
				if node.Form(e) {
					continue
				}
				marred++
				if null.Right(e) {
					t.Fatalf("Right(%v)", e)
				}
			}
		}
		twice := slices.Concat(d.Nodes, d.Nodes)
		if null.Right(api.Desc{Nodes: twice}) {
			t.Fatalf("Right(%v)", twice)
		}
	}
	if marred < 1000 {
		t.Error(marred)
	}
}

// follows tells whether in the description a Star has one way of nothing, a Rep one, if Lo is 0, else none.
func follows(d api.Desc) bool {
	for i, n := range d.Nodes {
		ways := null.Ways(d, i)
		if n.Kind == api.Star && ways != 1 || n.Kind == api.Rep && n.Lo == 0 && ways != 1 || n.Kind == api.Rep && n.Lo > 0 && ways != 0 {
			return false
		}
	}
	return true
}

// P8.2: what follows, of all right descriptions of a few nodes.
func TestWhatFollows(t *testing.T) {
	rights := 0
	for _, d := range descsTo(5) {
		if !null.Right(d) {
			continue
		}
		rights++
		if !follows(d) {
			t.Fatalf("%v is right, and has a Star or a Rep of other ways", d)
		}
	}
	if rights < 1000 {
		t.Error(rights)
	}
}

// P8.1: descriptions that are long and deep, of more nodes than may be read.
func TestLongOnes(t *testing.T) {
	const steps = 1 << 18
	for i, x := range []struct {
		leaf, whole api.Node
		want, first int // of the last node; -1, where there is none
	}{
		{api.Node{Kind: api.Empty}, api.Node{Kind: api.Seq}, 1, -1},
		{api.Node{Kind: api.Empty}, api.Node{Kind: api.Or}, 2, -1},
		{api.Node{Kind: api.Empty}, api.Node{Kind: api.Frame}, 0, -1},
		{api.Node{Kind: api.Empty}, api.Node{Kind: api.Wide}, 0, -1},
		{api.Node{Kind: api.Empty}, api.Node{Kind: api.Star}, 2, 1},
		{api.Node{Kind: api.Empty}, api.Node{Kind: api.Rep, Lo: 9, Hi: 9}, 1, 1},
		{api.Node{Kind: api.Bytes}, api.Node{Kind: api.Seq}, 0, -1},
		{api.Node{Kind: api.Bytes}, api.Node{Kind: api.Or}, 0, -1},
		{api.Node{Kind: api.Bytes}, api.Node{Kind: api.Star}, 2, 2},
		{api.Node{Kind: api.Bytes}, api.Node{Kind: api.Rep, Lo: 1, Hi: 255}, 0, -1},
		{api.Node{Kind: api.Bytes}, api.Node{Kind: api.Rep, Hi: 255}, 2, 2},
		{api.Node{Kind: api.Bytes}, api.Node{Kind: api.Rep}, 1, 2},
	} {
		d := sample.Chain(steps, x.leaf, x.whole)
		if got := null.Ways(d, len(d.Nodes)-1); got != x.want {
			t.Errorf("%d: Ways = %d, want %d", i, got, x.want)
		}
		if got, wrong := null.First(d); got != max(x.first, 0) || wrong != (x.first >= 0) {
			t.Errorf("%d: First = %d, %v", i, got, wrong)
		}
		if null.Right(d) != (x.first < 0) {
			t.Errorf("%d: Right = %v", i, null.Right(d))
		}
	}
}

// What is handed in stays, the room behind it included, and nothing of it is read but the list; one description is told in one way.
func TestHandedInStays(t *testing.T) {
	for _, d := range descsTo(4) {
		whole := append(slices.Clone(d.Nodes), api.Node{Kind: api.Star}, api.Node{Kind: -2})
		was := slices.Clone(whole)
		handed := api.Desc{Nodes: whole[:len(d.Nodes)]}
		for range 2 {
			againstModel(t, handed)
		}
		if !slices.Equal(whole, was) {
			t.Fatalf("%v is changed to %v", was, whole)
		}
	}
}

// Descriptions without their form and nodes that there aren't, of which, Right aside, nothing is promised: all calls end, without a panic, and none of them is right.
func TestNoForm(t *testing.T) {
	odd := []int{math.MinInt, -1, 0, 1, 2, 3, math.MaxInt - 1, math.MaxInt}
	var nodes []api.Node
	for kind := -1; kind <= api.Kinds+1; kind++ {
		for _, a := range odd {
			for _, hi := range odd {
				nodes = append(nodes, api.Node{Kind: kind, A: a, B: 2 - a/2, Lo: hi - 1, Hi: hi, Text: "\xff\""})
			}
		}
	}
	for _, x := range nodes {
		for _, y := range nodes {
			d := api.Desc{Nodes: []api.Node{{Kind: api.Empty}, x, y}}
			null.Ways(d, 2)
			null.First(d)
			if null.Right(d) && !node.Form(d) {
				t.Fatalf("Right(%v)", d)
			}
		}
	}
	for _, i := range odd {
		null.Ways(star(text("ab")), i)
		null.Ways(api.Desc{}, i)
	}
	if i, wrong := null.First(api.Desc{}); i != 0 || wrong {
		t.Error(i, wrong)
	}
}
