package size_test

import (
	"math"
	"math/big"
	"slices"
	"strings"
	"testing"

	"scantling/api"
	"scantling/node"
	"scantling/sample"
	"scantling/size"
)

// What descriptions are built of.
var (
	empty, text            = sample.Empty, sample.Text
	seq, or                = sample.Seq, sample.Or
	star, rep, frame, wide = sample.Star, sample.Rep, sample.Frame, sample.Wide
)

// set is a Bytes of some of the first bytes.
func set(first uint64) api.Desc { return sample.Bytes(api.Class{first}) }

// long is a Text of n bytes.
func long(n int) api.Desc { return text(strings.Repeat("a", n)) }

// descsTo are all descriptions of up to n nodes, of a few leaves and bounds.
func descsTo(n int) []api.Desc {
	leaves := []api.Desc{empty(), set(0), set(1 << 9), text("a\u00e9\u20ac")}
	return sample.AllTo(n, leaves, [2]int{0, 0}, [2]int{0, 1}, [2]int{2, 255})
}

// sized is a description whose last node's size is n.
func sized(n int) api.Desc {
	switch {
	case n == 0:
		return empty()
	case n < 256:
		return long(n)
	case n%256 == 0:
		return frame(sized(n/256 - 1))
	}
	return seq(frame(sized(n/256-1)), long(n%256))
}

// modelSize is the size of the description's last node, by the chapter's words, in numbers that have no end.
func modelSize(d api.Desc) *big.Int {
	n := d.Nodes[len(d.Nodes)-1]
	number := func(n int) *big.Int { return big.NewInt(int64(n)) }
	plus := func(a, b *big.Int) *big.Int { return new(big.Int).Add(a, b) }
	by := func(n int, a *big.Int) *big.Int { return new(big.Int).Mul(number(n), a) }
	a := func() *big.Int { return modelSize(node.Sub(d, n.A)) }
	b := func() *big.Int { return modelSize(node.Sub(d, n.B)) }
	var all *big.Int
	switch n.Kind {
	case api.Empty:
		all = number(0)
	case api.Bytes:
		all = number(1)
	case api.Text:
		all = number(len([]byte(n.Text)))
	case api.Seq, api.Or:
		all = plus(a(), b())
	case api.Star:
		all = a()
	case api.Rep:
		all = by(n.Hi, a())
	case api.Frame:
		all = by(256, plus(a(), number(1)))
	case api.Wide:
		all = plus(number(256), by(65536, plus(a(), number(1))))
	}
	return least(all, number(api.MaxSize))
}

// least is the lesser one of two numbers.
func least(a, b *big.Int) *big.Int {
	if a.Cmp(b) < 0 {
		return a
	}
	return b
}

// againstModel holds what Node answers of each node, and what Of answers, against the model.
func againstModel(t *testing.T, d api.Desc) {
	t.Helper()
	for i := range d.Nodes {
		sub := node.Sub(d, i)
		want := int(modelSize(sub).Int64())
		if got := size.Node(d, i); got != want {
			t.Fatalf("Node(%v, %d) = %d, want %d", d, i, got, want)
		}
		if got := size.Of(sub); got != min(want+1, api.MaxSize) {
			t.Fatalf("Of(%v) = %d, want %d", sub, got, min(want+1, api.MaxSize))
		}
	}
}

// P7.1: sizes, written out.
func TestWrittenOut(t *testing.T) {
	e, b, x := empty(), set(7), text("abc")
	for i, y := range []struct {
		d    api.Desc
		want int // of the last node
	}{
		{e, 0},
		{b, 1},
		{set(0), 1},
		{text("ab"), 2},
		{text("\u20ac"), 3},
		{text("\U0010ffff\x00"), 5},
		{seq(x, b), 4},
		{seq(e, e), 0},
		{or(x, b), 4},
		{or(x, x), 6},
		{or(e, b), 1},
		{star(x), 3},
		{star(star(x)), 3},
		{rep(0, 0, x), 0},
		{rep(0, 1, x), 3},
		{rep(1, 1, x), 3},
		{rep(2, 5, x), 15},
		{rep(5, 5, e), 0},
		{rep(0, 255, rep(255, 255, x)), 255 * 255 * 3},
		{frame(e), 256},
		{frame(b), 512},
		{frame(x), 1024},
		{frame(rep(0, 0, x)), 256},
		{frame(frame(b)), 256 * 513},
		{wide(e), 65792},
		{wide(b), 256 + 65536*2},
		{wide(x), 256 + 65536*4},
		{wide(frame(e)), 256 + 65536*257},
		{frame(wide(e)), 256 * 65793},
		{wide(wide(e)), 256 + 65536*65793},
		{wide(wide(b)), 256 + 65536*131329},
		{frame(frame(frame(frame(frame(e))))), 1 << 40},
		{frame(frame(frame(frame(e)))), 256 + 256*256 + 256*256*256 + 1<<32},
		{wide(wide(frame(e))), api.MaxSize},
		{frame(wide(wide(e))), api.MaxSize},
		{wide(wide(wide(e))), api.MaxSize},
		{star(wide(wide(wide(e)))), api.MaxSize},
		{rep(0, 0, wide(wide(wide(e)))), 0},
		{rep(0, 1, wide(wide(wide(e)))), api.MaxSize},
		{seq(rep(0, 0, wide(wide(wide(e)))), frame(x)), 1024},
		{seq(frame(x), star(or(b, rep(1, 9, x)))), 1024 + 1 + 27},
	} {
		if got := size.Node(y.d, len(y.d.Nodes)-1); got != y.want {
			t.Errorf("%d: Node = %d, want %d", i, got, y.want)
		}
		if got, want := size.Of(y.d), min(y.want+1, api.MaxSize); got != want {
			t.Errorf("%d: Of = %d, want %d", i, got, want)
		}
	}
}

// P7.1: the chapter's examples.
func TestExamples(t *testing.T) {
	if size.Of(text("ab")) != 3 || size.Of(frame(set(1))) != 256*2+1 {
		t.Error(size.Of(text("ab")), size.Of(frame(set(1))))
	}
}

// P7.1: each node of a description has the size of its own, whatever stands ahead of it or behind it.
func TestEachNode(t *testing.T) {
	d := seq(seq(frame(text("ab")), wide(empty())), rep(1, 3, or(set(1), star(long(20)))))
	want := []int{2, 768, 0, 65792, 66560, 1, 20, 20, 21, 63, 66623}
	for i := range d.Nodes {
		if got := size.Node(d, i); got != want[i] {
			t.Errorf("Node(d, %d) = %d, want %d", i, got, want[i])
		}
	}
	if got := size.Of(d); len(want) != len(d.Nodes) || got != 66624 {
		t.Error(got)
	}
}

// P7.1: all descriptions of a few nodes.
func TestAllDescs(t *testing.T) {
	for _, d := range descsTo(5) {
		againstModel(t, d)
	}
}

// P7.1: all bounds that there may be: a repeat's size hangs on Hi alone.
func TestBounds(t *testing.T) {
	for hi := range api.MaxTimes + 1 {
		for lo := range hi + 1 {
			d := rep(lo, hi, text("abc"))
			if got := size.Of(d); got != 3*hi+1 {
				t.Fatalf("Of({%d,%d}) = %d", lo, hi, got)
			}
		}
	}
}

// P7.1: texts of all lengths up to 300, and longer ones; a text's size is how many bytes it has, not signs.
func TestTexts(t *testing.T) {
	for n := 1; n <= 300; n++ {
		if size.Of(long(n)) != n+1 || size.Of(text(strings.Repeat("\u00e9", n))) != 2*n+1 {
			t.Fatal(n)
		}
	}
	for _, n := range []int{1 << 16, 1<<16 + 1, 1 << 24} {
		againstModel(t, frame(long(n)))
	}
}

// P7.1: what comes to MaxSize, to a little less, and to a little more, in each kind that makes a size of others'.
func TestMaxSizeEdge(t *testing.T) {
	var near []int
	for by := -3; by <= 3; by++ {
		near = append(near, api.MaxSize+by, api.MaxSize/2+by)
		near = append(near, api.MaxSize/256-1+by, api.MaxSize/65536-1+by)
	}
	for hi := 1; hi <= api.MaxTimes; hi++ {
		near = append(near, api.MaxSize/hi, api.MaxSize/hi+1)
	}
	for _, n := range near {
		d := sized(n)
		if got := size.Node(d, len(d.Nodes)-1); got != min(n, api.MaxSize) {
			t.Fatalf("sized(%d) has %d", n, got)
		}
		half := sized(api.MaxSize / 2)
		for _, whole := range []api.Desc{star(d), seq(d, half), or(half, d), seq(d, d), or(d, text("ab")), seq(set(1), d), frame(d), wide(d), rep(0, 255, d)} {
			againstModel(t, whole)
		}
	}
	for hi := 1; hi <= api.MaxTimes; hi++ {
		for by := range 3 {
			againstModel(t, rep(0, hi, sized(api.MaxSize/hi-1+by)))
		}
	}
}

// P7.1: Of stops at MaxSize, as the sizes of nodes do.
func TestOfStops(t *testing.T) {
	for n, want := range map[int]int{
		api.MaxSize - 3: api.MaxSize - 2,
		api.MaxSize - 2: api.MaxSize - 1,
		api.MaxSize - 1: api.MaxSize,
		api.MaxSize:     api.MaxSize,
		api.MaxSize + 1: api.MaxSize,
	} {
		if got := size.Of(sized(n)); got != want {
			t.Errorf("Of(a size of %d) = %d, want %d", n, got, want)
		}
	}
}

// P7.1: Bound, of all numbers up to many, and at the edges.
func TestBound(t *testing.T) {
	numbers := []int{api.MaxSize - 1, api.MaxSize, api.MaxSize + 1, 2*api.MaxSize - 1, 2 * api.MaxSize, 1<<31 - 1, 1 << 31, 1 << 32, 1<<32 + 1, 1<<32 + 31}
	for n := range 1000 {
		numbers = append(numbers, n)
	}
	top := new(big.Int).Lsh(big.NewInt(1), 62)
	for _, n := range numbers {
		power := new(big.Int).Exp(big.NewInt(4), big.NewInt(int64(min(n, 1000))), nil)
		if want := int(least(power, top).Int64()); size.Bound(n) != want {
			t.Errorf("Bound(%d) = %d, want %d", n, size.Bound(n), want)
		}
	}
	for n, want := range map[int]int{0: 1, 1: 4, 2: 16, 3: 64, 10: 1 << 20, 29: 1 << 58, 30: 1 << 60, 31: 1 << 62, 32: 1 << 62, 64: 1 << 62} {
		if size.Bound(n) != want {
			t.Errorf("Bound(%d) = %d, want %d", n, size.Bound(n), want)
		}
	}
}

// P7.1: Bound of the sum of two descriptions' sizes.
func TestBoundOfTwo(t *testing.T) {
	great := wide(wide(wide(empty())))
	for _, x := range []struct {
		a, b api.Desc
		want int
	}{
		{empty(), empty(), 16},
		{text("ab"), set(1), 1 << 10},
		{long(14), long(14), 1 << 60},
		{long(14), long(15), 1 << 62},
		{long(15), long(15), 1 << 62},
		{great, great, 1 << 62},
	} {
		if got := size.Bound(size.Of(x.a) + size.Of(x.b)); got != x.want {
			t.Errorf("Bound = %d, want %d", got, x.want)
		}
	}
}

// notLess tells whether no size in the description is less than a part's, but a repeat's whose Hi is 0, and all are from 0 to MaxSize.
func notLess(d api.Desc) bool {
	for i, n := range d.Nodes {
		own := size.Node(d, i)
		if own < 0 || own > api.MaxSize {
			return false
		}
		if n.Kind <= api.Text || n.Kind == api.Rep && n.Hi == 0 {
			continue
		}
		if own < size.Node(d, n.A) {
			return false
		}
		if (n.Kind == api.Seq || n.Kind == api.Or) && own < size.Node(d, n.B) {
			return false
		}
	}
	return true
}

// P7.2: what follows, of all descriptions of a few nodes, and of great ones.
func TestNoLessThanParts(t *testing.T) {
	list := descsTo(5)
	for _, n := range []int{api.MaxSize/256 - 1, api.MaxSize - 1, api.MaxSize} {
		d := sized(n)
		list = append(list, star(d), rep(0, 1, d), rep(0, 0, d), rep(0, 255, d), frame(d), wide(d), seq(d, empty()), or(empty(), d), or(d, d), frame(frame(wide(d))))
	}
	for _, d := range list {
		if !notLess(d) {
			t.Fatalf("%v: a size is less than a part's, or none", d)
		}
		if of := size.Of(d); of < 1 || of > api.MaxSize {
			t.Fatalf("Of(%v) = %d", d, of)
		}
	}
}

// P7.1: descriptions that are long and deep, of more nodes than may be read.
func TestLongOnes(t *testing.T) {
	const steps = 1 << 18
	for _, x := range []struct {
		whole api.Node
		want  int
	}{
		{api.Node{Kind: api.Seq}, steps + 2},
		{api.Node{Kind: api.Or}, steps + 2},
		{api.Node{Kind: api.Star}, 2},
		{api.Node{Kind: api.Rep, Lo: 1, Hi: 1}, 2},
		{api.Node{Kind: api.Rep}, 1},
		{api.Node{Kind: api.Rep, Lo: 1, Hi: 2}, api.MaxSize},
		{api.Node{Kind: api.Frame}, api.MaxSize},
		{api.Node{Kind: api.Wide}, api.MaxSize},
	} {
		d := sample.Chain(steps, api.Node{Kind: api.Bytes}, x.whole)
		if got := size.Of(d); !node.Form(d) || got != x.want {
			t.Errorf("%v: Of = %d, want %d", x.whole, got, x.want)
		}
	}
	doubled := set(1)
	for range 11 {
		doubled = or(doubled, doubled)
	}
	if len(doubled.Nodes) != api.MaxNodes-1 || size.Of(doubled) != 1<<11+1 {
		t.Error(len(doubled.Nodes), size.Of(doubled))
	}
}

// What is handed in stays, the room behind it included, and one description has one size.
func TestHandedInStays(t *testing.T) {
	for _, d := range descsTo(4) {
		whole := append(slices.Clone(d.Nodes), api.Node{Kind: -1}, api.Node{Kind: -2})
		was := slices.Clone(whole)
		handed := api.Desc{Nodes: whole[:len(d.Nodes)]}
		if size.Of(handed) != size.Of(d) || size.Of(handed) != size.Of(d) {
			t.Fatalf("%v has two sizes", d)
		}
		for i := range d.Nodes {
			size.Node(handed, i)
		}
		if !slices.Equal(whole, was) {
			t.Fatalf("%v is changed to %v", was, whole)
		}
	}
}

// Descriptions without their form, nodes that there aren't, and numbers beyond the bounds', of which nothing is promised: all calls end, without a panic.
func TestNoForm(t *testing.T) {
	odd := []int{math.MinInt, -1, 0, 1, 2, 3, math.MaxInt}
	var nodes []api.Node
	for kind := -1; kind <= api.Kinds+1; kind++ {
		for _, a := range odd {
			for _, hi := range odd {
				nodes = append(nodes, api.Node{Kind: kind, A: a, B: 2 - a/2, Hi: hi, Text: "\xff\""})
			}
		}
	}
	great := sized(api.MaxSize).Nodes
	for _, x := range nodes {
		for _, y := range nodes {
			size.Of(api.Desc{Nodes: []api.Node{{Kind: api.Wide, A: 0}, x, y}})
		}
		x.A, x.B = len(great)-1, len(great)-1
		size.Of(api.Desc{Nodes: append(slices.Clone(great), x)})
	}
	d := frame(text("ab"))
	for _, i := range odd {
		size.Node(d, i)
		size.Node(api.Desc{}, i)
		size.Bound(i)
	}
	size.Of(api.Desc{})
}
