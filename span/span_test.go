package span_test

import (
	"math"
	"math/big"
	"slices"
	"strings"
	"testing"

	"scantling/api"
	"scantling/class"
	"scantling/node"
	"scantling/null"
	"scantling/sample"
	"scantling/span"
)

// What descriptions are built of.
var (
	empty, text            = sample.Empty, sample.Text
	seq, or                = sample.Seq, sample.Or
	star, rep, frame, wide = sample.Star, sample.Rep, sample.Frame, sample.Wide
)

// set is a Bytes of some of the first bytes.
func set(first uint64) api.Desc { return sample.Bytes(api.Class{first}) }

// long is a Text of n bytes.
func long(n int) api.Desc { return text(strings.Repeat("a", n)) }

// exact is a description whose words all have n bytes.
func exact(n int) api.Desc {
	switch {
	case n == 0:
		return empty()
	case n < 255:
		return long(n)
	case n%255 == 0:
		return rep(255, 255, exact(n/255))
	}
	return seq(rep(255, 255, exact(n/255)), long(n%255))
}

// endless is a description whose words have n bytes or more.
func endless(n int) api.Desc { return seq(exact(n), star(set(1))) }

// descsTo are all descriptions of up to n nodes, of a few leaves and bounds.
func descsTo(n int) []api.Desc {
	leaves := []api.Desc{empty(), set(0), set(3), text("a\u00e9")}
	return sample.AllTo(n, leaves, [2]int{0, 0}, [2]int{0, 2}, [2]int{1, 1}, [2]int{2, 255})
}

// rightOnes are those of the descriptions that are right.
func rightOnes(list []api.Desc) []api.Desc {
	return slices.DeleteFunc(list, func(d api.Desc) bool { return !null.Right(d) })
}

// pair is a span that is answered.
type pair [2]int

// nothing is the span of nothing at all.
func nothing() pair { return pair{-1, -1} }

// of is what Of answers.
func of(d api.Desc) pair {
	lo, hi := span.Of(d)
	return pair{lo, hi}
}

// at is what Node answers.
func at(d api.Desc, i int) pair {
	lo, hi := span.Node(d, i)
	return pair{lo, hi}
}

// wanted tells it, if the description's span isn't that.
func wanted(t *testing.T, d api.Desc, want pair) {
	t.Helper()
	if got := of(d); got != want {
		t.Errorf("Of(%v) = %v, want %v", d, got, want)
	}
}

// exactly is a span in numbers that have no end: lo nil is that of nothing, hi nil no bound.
type exactly struct{ lo, hi *big.Int }

// number is n as a number that has no end.
func number(n int) *big.Int { return big.NewInt(int64(n)) }

// plus is the sum of two numbers; nil, if either is.
func plus(a, b *big.Int) *big.Int {
	if a == nil || b == nil {
		return nil
	}
	return new(big.Int).Add(a, b)
}

// by is n times the number; nil, if it is.
func by(n int, a *big.Int) *big.Int {
	if a == nil {
		return nil
	}
	return new(big.Int).Mul(number(n), a)
}

// model is the span of the description's last node, by the chapter's words.
func model(d api.Desc) exactly {
	n := d.Nodes[len(d.Nodes)-1]
	a := func() exactly { return model(node.Sub(d, n.A)) }
	b := func() exactly { return model(node.Sub(d, n.B)) }
	switch n.Kind {
	case api.Empty:
		return exactly{number(0), number(0)}
	case api.Bytes:
		if class.Count(n.Class) == 0 {
			return exactly{}
		}
		return exactly{number(1), number(1)}
	case api.Text:
		return exactly{number(len([]byte(n.Text))), number(len([]byte(n.Text)))}
	case api.Seq:
		return modelSeq(a(), b())
	case api.Or:
		return modelOr(a(), b())
	case api.Star:
		return modelStar(a())
	case api.Rep:
		return modelRep(n.Lo, n.Hi, a())
	case api.Frame:
		return modelFrame(1, 255, a())
	}
	return modelFrame(2, 65535, a())
}

func modelSeq(a, b exactly) exactly {
	if a.lo == nil || b.lo == nil {
		return exactly{}
	}
	return exactly{plus(a.lo, b.lo), plus(a.hi, b.hi)}
}

func modelOr(a, b exactly) exactly {
	switch {
	case a.lo == nil:
		return b
	case b.lo == nil:
		return a
	}
	both := a
	if b.lo.Cmp(a.lo) < 0 {
		both.lo = b.lo
	}
	if a.hi == nil || b.hi == nil {
		both.hi = nil
	} else if b.hi.Cmp(a.hi) > 0 {
		both.hi = b.hi
	}
	return both
}

func modelStar(a exactly) exactly {
	if a.lo == nil || a.hi != nil && a.hi.Sign() == 0 {
		return exactly{number(0), number(0)}
	}
	return exactly{number(0), nil}
}

func modelRep(lo, hi int, a exactly) exactly {
	switch {
	case a.lo == nil && lo == 0:
		return exactly{number(0), number(0)}
	case a.lo == nil:
		return exactly{}
	case hi == 0:
		return exactly{by(lo, a.lo), number(0)}
	}
	return exactly{by(lo, a.lo), by(hi, a.hi)}
}

func modelFrame(head, most int, a exactly) exactly {
	if a.lo == nil || a.lo.Cmp(number(most)) > 0 {
		return exactly{}
	}
	if a.hi == nil || a.hi.Cmp(number(most)) > 0 {
		a.hi = number(most)
	}
	return exactly{plus(a.lo, number(head)), plus(a.hi, number(head))}
}

// told is the span as it is answered: held to MaxSize.
func (e exactly) told() pair {
	if e.lo == nil {
		return nothing()
	}
	got := pair{api.MaxSize, -1}
	if e.lo.Cmp(number(api.MaxSize)) < 0 {
		got[0] = int(e.lo.Int64())
	}
	if e.hi != nil && e.hi.Cmp(number(api.MaxSize)) <= 0 {
		got[1] = int(e.hi.Int64())
	}
	return got
}

// againstModel holds what Node answers of each node, and what Of answers, against the model.
func againstModel(t *testing.T, d api.Desc) {
	t.Helper()
	for i := range d.Nodes {
		sub := node.Sub(d, i)
		want := model(sub).told()
		if got := at(d, i); got != want {
			t.Fatalf("Node(%v, %d) = %v, want %v", d, i, got, want)
		}
		if got := of(sub); got != want {
			t.Fatalf("Of(%v) = %v, want %v", sub, got, want)
		}
	}
}

// P10.1: spans, written out.
func TestWrittenOut(t *testing.T) {
	e, no, b, x := empty(), set(0), set(7), text("abc")
	some := star(b)         // 0, no bound
	more := seq(x, star(b)) // 3, no bound
	for i, y := range []struct {
		d    api.Desc
		want pair
	}{
		{e, pair{0, 0}},
		{b, pair{1, 1}},
		{no, nothing()},
		{text("ab"), pair{2, 2}},
		{text("\u20ac"), pair{3, 3}},
		{text("\U0010ffff\x00"), pair{5, 5}},
		{seq(x, b), pair{4, 4}},
		{seq(or(b, x), or(x, e)), pair{1, 6}},
		{seq(no, x), nothing()},
		{seq(x, no), nothing()},
		{seq(no, no), nothing()},
		{seq(some, no), nothing()},
		{seq(no, some), nothing()},
		{seq(some, x), pair{3, -1}},
		{seq(x, some), pair{3, -1}},
		{seq(more, more), pair{6, -1}},
		{or(b, x), pair{1, 3}},
		{or(x, b), pair{1, 3}},
		{or(e, x), pair{0, 3}},
		{or(x, x), pair{3, 3}},
		{or(or(e, x), seq(b, b)), pair{0, 3}},
		{or(no, x), pair{3, 3}},
		{or(x, no), pair{3, 3}},
		{or(no, no), nothing()},
		{or(no, some), pair{0, -1}},
		{or(more, no), pair{3, -1}},
		{or(more, b), pair{1, -1}},
		{or(b, more), pair{1, -1}},
		{or(more, text("abcd")), pair{3, -1}},
		{star(x), pair{0, -1}},
		{star(more), pair{0, -1}},
		{star(no), pair{0, 0}},
		{star(seq(no, x)), pair{0, 0}},
		{rep(2, 5, x), pair{6, 15}},
		{rep(2, 5, or(x, b)), pair{2, 15}},
		{rep(0, 5, x), pair{0, 15}},
		{rep(1, 1, x), pair{3, 3}},
		{rep(0, 0, x), pair{0, 0}},
		{rep(0, 0, no), pair{0, 0}},
		{rep(0, 0, more), pair{0, 0}},
		{rep(0, 1, no), pair{0, 0}},
		{rep(0, 255, no), pair{0, 0}},
		{rep(1, 1, no), nothing()},
		{rep(1, 255, no), nothing()},
		{rep(255, 255, no), nothing()},
		{rep(0, 3, more), pair{0, -1}},
		{rep(2, 3, more), pair{6, -1}},
		{rep(255, 255, x), pair{765, 765}},
		{frame(e), pair{1, 1}},
		{frame(b), pair{2, 2}},
		{frame(no), nothing()},
		{frame(star(no)), pair{1, 1}},
		{frame(some), pair{1, 256}},
		{frame(more), pair{4, 256}},
		{frame(or(x, b)), pair{2, 4}},
		{wide(e), pair{2, 2}},
		{wide(b), pair{3, 3}},
		{wide(no), nothing()},
		{wide(some), pair{2, 65537}},
		{wide(more), pair{5, 65537}},
		{wide(or(x, b)), pair{3, 5}},
		{frame(wide(some)), pair{3, 256}},
		{wide(frame(some)), pair{3, 258}},
		{wide(wide(some)), pair{4, 65537}},
		{frame(frame(some)), pair{2, 256}},
		{star(frame(no)), pair{0, 0}},
		{seq(frame(some), wide(some)), pair{3, 256 + 65537}},
	} {
		if got := of(y.d); got != y.want {
			t.Errorf("%d: Of = %v, want %v", i, got, y.want)
		}
		if got := at(y.d, len(y.d.Nodes)-1); got != y.want {
			t.Errorf("%d: Node = %v, want %v", i, got, y.want)
		}
	}
}

// P10.1: the chapter's example.
func TestExample(t *testing.T) {
	dot := sample.Bytes(class.Of(0, 255))
	wanted(t, frame(star(dot)), pair{1, 256})
}

// P10.1: each node of a description has the span of its own, whatever stands ahead of it or behind it.
func TestEachNode(t *testing.T) {
	d := seq(seq(frame(text("ab")), or(set(0), empty())), wide(rep(1, 3, or(set(1), seq(text("abcd"), star(set(6)))))))
	want := []pair{{2, 2}, {3, 3}, nothing(), {0, 0}, {0, 0}, {3, 3}, {1, 1}, {4, 4}, {1, 1}, {0, -1}, {4, -1}, {1, -1}, {1, -1}, {3, 65537}, {6, 65540}}
	if len(want) != len(d.Nodes) {
		t.Fatal(len(d.Nodes))
	}
	for i := range d.Nodes {
		if got := at(d, i); got != want[i] {
			t.Errorf("Node(d, %d) = %v, want %v", i, got, want[i])
		}
	}
	wanted(t, d, pair{6, 65540})
}

// P10.1: all descriptions of a few nodes.
func TestAllDescs(t *testing.T) {
	for _, d := range descsTo(5) {
		againstModel(t, d)
	}
}

// P10.1: a Bytes of each byte alone, of all, of a word's, and of none.
func TestClasses(t *testing.T) {
	for c := range 256 {
		wanted(t, sample.Bytes(class.Of(byte(c), byte(c))), pair{1, 1})
		wanted(t, sample.Bytes(class.Not(class.Of(byte(c), byte(c)))), pair{1, 1})
		wanted(t, sample.Bytes(class.Of(0, byte(c))), pair{1, 1})
	}
	for i := range 4 {
		var a api.Class
		a[i] = math.MaxUint64
		wanted(t, sample.Bytes(a), pair{1, 1})
	}
	wanted(t, sample.Bytes(api.Class{}), nothing())
}

// P10.1: texts of all lengths up to 300, and longer ones; their bytes count, not their signs.
func TestTexts(t *testing.T) {
	for n := 1; n <= 300; n++ {
		wanted(t, long(n), pair{n, n})
		wanted(t, text(strings.Repeat("\u00e9", n)), pair{2 * n, 2 * n})
		wanted(t, text(strings.Repeat("\U0001f600", n)), pair{4 * n, 4 * n})
	}
	for _, n := range []int{1<<16 - 1, 1 << 16, 1 << 24} {
		wanted(t, long(n), pair{n, n})
	}
}

// P10.1: all bounds that there may be, of parts with one length, with two, without a bound, and of nothing.
func TestBounds(t *testing.T) {
	parts := []api.Desc{text("abc"), or(set(1), text("abcde")), endless(2), set(0)}
	for hi := range api.MaxTimes + 1 {
		for lo := range hi + 1 {
			for _, a := range parts {
				d := rep(lo, hi, a)
				if got, want := of(d), model(d).told(); got != want {
					t.Fatalf("Of(%v) = %v, want %v", d, got, want)
				}
			}
		}
	}
}

// P10.1: frames of what is just as long as they may tell, shorter, longer, and about it.
func TestFrameEdges(t *testing.T) {
	for _, x := range []struct {
		whole      func(a api.Desc) api.Desc
		head, most int
	}{{frame, 1, 255}, {wide, 2, 65535}} {
		h, m := x.head, x.most
		for _, y := range []struct {
			a    api.Desc
			want pair
		}{
			{exact(m - 1), pair{h + m - 1, h + m - 1}},
			{exact(m), pair{h + m, h + m}},
			{exact(m + 1), nothing()},
			{exact(2 * m), nothing()},
			{exact(api.MaxSize), nothing()},
			{exact(api.MaxSize + 1), nothing()},
			{or(exact(m-1), exact(m)), pair{h + m - 1, h + m}},
			{or(exact(m), exact(m+1)), pair{h + m, h + m}},
			{or(exact(m+1), exact(m-2)), pair{h + m - 2, h + m}},
			{or(exact(m+1), exact(m+2)), nothing()},
			{or(empty(), exact(m-1)), pair{h, h + m - 1}},
			{or(empty(), exact(m)), pair{h, h + m}},
			{or(empty(), exact(m+1)), pair{h, h + m}},
			{or(set(1), exact(api.MaxSize)), pair{h + 1, h + m}},
			{or(set(1), exact(api.MaxSize+1)), pair{h + 1, h + m}},
			{endless(m - 1), pair{h + m - 1, h + m}},
			{endless(m), pair{h + m, h + m}},
			{endless(m + 1), nothing()},
			{endless(api.MaxSize), nothing()},
			{rep(0, 1, exact(m+1)), pair{h, h + m}},
			{rep(0, 2, x.whole(exact(m+1))), pair{h, h}},
			{rep(1, 2, x.whole(exact(m+1))), nothing()},
		} {
			wanted(t, x.whole(y.a), y.want)
			againstModel(t, x.whole(y.a))
		}
	}
}

// P10.1: lengths that come to MaxSize, to a little less, and to a little more: Lo stays at it, Hi has no bound.
func TestMaxSizeWrittenOut(t *testing.T) {
	const m = api.MaxSize
	e, b := empty(), set(1)
	for i, x := range []struct {
		d    api.Desc
		want pair
	}{
		{exact(m - 1), pair{m - 1, m - 1}},
		{exact(m), pair{m, m}},
		{exact(m + 1), pair{m, -1}},
		{seq(exact(m-1), e), pair{m - 1, m - 1}},
		{seq(exact(m-1), b), pair{m, m}},
		{seq(b, exact(m-1)), pair{m, m}},
		{seq(exact(m), e), pair{m, m}},
		{seq(exact(m), b), pair{m, -1}},
		{seq(b, exact(m)), pair{m, -1}},
		{seq(exact(m), exact(m)), pair{m, -1}},
		{seq(exact(m/2), exact(m/2)), pair{m, m}},
		{seq(rep(0, 1, b), exact(m)), pair{m, -1}},
		{seq(rep(0, 1, b), exact(m-1)), pair{m - 1, m}},
		{seq(exact(m+1), set(0)), nothing()},
		{or(exact(m), exact(m+1)), pair{m, -1}},
		{or(exact(m+1), exact(m)), pair{m, -1}},
		{or(exact(m), b), pair{1, m}},
		{or(b, exact(m+1)), pair{1, -1}},
		{or(exact(m+1), set(0)), pair{m, -1}},
		{star(exact(m)), pair{0, -1}},
		{star(exact(m + 1)), pair{0, -1}},
		{rep(0, 0, exact(m)), pair{0, 0}},
		{rep(0, 0, exact(m+1)), pair{0, 0}},
		{rep(0, 1, exact(m)), pair{0, m}},
		{rep(0, 1, exact(m+1)), pair{0, -1}},
		{rep(1, 1, exact(m)), pair{m, m}},
		{rep(1, 2, exact(m)), pair{m, -1}},
		{rep(255, 255, exact(m)), pair{m, -1}},
		{rep(1, 2, exact(m/2)), pair{m / 2, m}},
		{rep(2, 2, exact(m/2)), pair{m, m}},
		{rep(1, 2, exact(m/2+1)), pair{m/2 + 1, -1}},
		{rep(2, 3, exact(m/2)), pair{m, -1}},
	} {
		if got := of(x.d); got != x.want {
			t.Errorf("%d: Of = %v, want %v", i, got, x.want)
		}
	}
}

// P10.1: lengths near MaxSize, and near its parts, in each kind that makes a length of others'.
func TestMaxSizeEdge(t *testing.T) {
	var near []int
	for off := -2; off <= 2; off++ {
		near = append(near, api.MaxSize+off, api.MaxSize/2+off)
	}
	for hi := 2; hi <= api.MaxTimes; hi++ {
		near = append(near, api.MaxSize/hi, api.MaxSize/hi+1)
	}
	half := exact(api.MaxSize / 2)
	for _, n := range near {
		d := exact(n)
		for _, whole := range []api.Desc{d, star(d), seq(d, half), seq(half, d), seq(d, d), seq(endless(n), set(1)), or(half, d), or(d, endless(9)), rep(0, 255, d), rep(1, 2, d), frame(d), wide(d)} {
			againstModel(t, whole)
		}
	}
	for times := 1; times <= api.MaxTimes; times++ {
		for off := range 3 {
			d := exact(api.MaxSize/times - 1 + off)
			againstModel(t, rep(times, times, d))
			againstModel(t, rep(times-1, times, d))
		}
	}
}

// words are all words of the description of at most so many bytes, by chapter 11's words.
func words(d api.Desc, most int) map[string]bool {
	n := d.Nodes[len(d.Nodes)-1]
	a := func(most int) map[string]bool { return words(node.Sub(d, n.A), most) }
	all := map[string]bool{}
	switch n.Kind {
	case api.Empty:
		all[""] = true
	case api.Bytes:
		for c := range 256 {
			if class.Has(n.Class, byte(c)) {
				all[string([]byte{byte(c)})] = true
			}
		}
	case api.Text:
		all[n.Text] = true
	case api.Seq:
		all = behind(a(most), words(node.Sub(d, n.B), most), most)
	case api.Or:
		all = a(most)
		for w := range words(node.Sub(d, n.B), most) {
			all[w] = true
		}
	case api.Star:
		all = powers(a(most), 0, most, most) // each has at least a byte
	case api.Rep:
		all = powers(a(most), n.Lo, n.Hi, most)
	case api.Frame:
		for w := range a(min(most, 255)) {
			all[string([]byte{byte(len(w))})+w] = true
		}
	case api.Wide:
		for w := range a(min(most, 65535)) {
			all[string([]byte{byte(len(w) / 256), byte(len(w) % 256)})+w] = true
		}
	}
	for w := range all {
		if len(w) > most {
			delete(all, w)
		}
	}
	return all
}

// behind are the words of a with one of b behind, of at most so many bytes.
func behind(a, b map[string]bool, most int) map[string]bool {
	all := map[string]bool{}
	for v := range a {
		for w := range b {
			if len(v)+len(w) <= most {
				all[v+w] = true
			}
		}
	}
	return all
}

// powers are lo to hi words of a, one behind the other, of at most so many bytes.
func powers(a map[string]bool, lo, hi, most int) map[string]bool {
	all, power := map[string]bool{}, map[string]bool{"": true}
	for k := 0; k <= hi && len(power) > 0; k++ {
		if k >= lo {
			for w := range power {
				all[w] = true
			}
		}
		power = behind(power, a, most)
	}
	return all
}

// againstWords holds the description's span against its words of at most so many bytes: none is shorter or longer than it says, and there is one as short, and one as long.
func againstWords(t *testing.T, d api.Desc, most int) {
	t.Helper()
	got := of(d)
	short, tall := got[0] > most, got[1] > most || got[1] == -1
	for w := range words(d, most) {
		if got[0] == -1 || len(w) < got[0] || got[1] != -1 && len(w) > got[1] {
			t.Fatalf("Of(%v) = %v, but it has a word of %d bytes", d, got, len(w))
		}
		short, tall = short || len(w) == got[0], tall || len(w) == got[1]
	}
	if got[0] != -1 && !(short && tall) {
		t.Fatalf("Of(%v) = %v, but it has no word of Lo, or of Hi, bytes", d, got)
	}
}

// P10.2: the words of all right descriptions of a few nodes.
func TestWords(t *testing.T) {
	list := rightOnes(descsTo(5))
	for _, d := range list {
		againstWords(t, d, 7)
	}
	if len(list) < 1000 {
		t.Error(len(list))
	}
}

// P10.2: words about as long as a frame, or a wide one, may tell.
func TestLongWords(t *testing.T) {
	b := set(1)
	for _, a := range []api.Desc{exact(254), exact(255), exact(256), endless(0), endless(253), endless(255), endless(256), rep(250, 254, b), rep(254, 255, b), seq(b, rep(250, 255, b)), rep(100, 129, rep(1, 2, b))} {
		for _, d := range []api.Desc{a, frame(a), wide(a), wide(frame(a)), seq(frame(a), b), or(frame(a), frame(frame(a)))} {
			againstWords(t, d, 300)
		}
	}
	for off := -2; off <= 2; off++ {
		d := wide(seq(rep(0, 2, b), exact(65535+off)))
		againstWords(t, d, 65550)
	}
}

// P10.2: a frame whose part has words too short and too long alone: no word is longer than Hi, though none has so many bytes.
func TestBoundNotMet(t *testing.T) {
	d := frame(or(empty(), exact(300)))
	wanted(t, d, pair{1, 256})
	if got := words(d, 400); len(got) != 1 || !got["\x00"] {
		t.Error(got)
	}
}

// P10.1: the spans of right descriptions are that of nothing, or a Lo from 0 to MaxSize and a Hi no less, or none.
func TestWhatSpansMayBe(t *testing.T) {
	list := rightOnes(descsTo(5))
	for _, n := range []int{api.MaxSize - 1, api.MaxSize, api.MaxSize + 1} {
		d := exact(n)
		list = append(list, d, star(d), rep(0, 1, d), rep(2, 3, d), frame(d), wide(d), seq(d, d), or(empty(), d))
	}
	for _, d := range list {
		for i := range d.Nodes {
			got := at(d, i)
			if got == nothing() {
				continue
			}
			if got[0] < 0 || got[0] > api.MaxSize || got[1] != -1 && (got[1] < got[0] || got[1] > api.MaxSize) {
				t.Fatalf("Node(%v, %d) = %v", d, i, got)
			}
		}
	}
}

// P10.1: descriptions that are long and deep, of more nodes than may be read.
func TestLongOnes(t *testing.T) {
	const steps = 1 << 18
	b := api.Node{Kind: api.Bytes, Class: api.Class{7}}
	for i, x := range []struct {
		steps       int
		leaf, whole api.Node
		want        pair
	}{
		{steps, b, api.Node{Kind: api.Seq}, pair{steps + 1, steps + 1}},
		{steps, b, api.Node{Kind: api.Or}, pair{1, 1}},
		{steps, api.Node{Kind: api.Empty}, api.Node{Kind: api.Seq}, pair{0, 0}},
		{steps, api.Node{Kind: api.Bytes}, api.Node{Kind: api.Seq}, nothing()},
		{steps, api.Node{Kind: api.Bytes}, api.Node{Kind: api.Or}, nothing()},
		{steps, b, api.Node{Kind: api.Rep, Lo: 1, Hi: 1}, pair{1, 1}},
		{steps, b, api.Node{Kind: api.Rep, Lo: 1, Hi: 2}, pair{1, -1}},
		{40, b, api.Node{Kind: api.Rep, Lo: 1, Hi: 2}, pair{1, 1 << 40}},
		{41, b, api.Node{Kind: api.Rep, Lo: 1, Hi: 2}, pair{1, -1}},
		{40, b, api.Node{Kind: api.Rep, Lo: 2, Hi: 2}, pair{1 << 40, 1 << 40}},
		{41, b, api.Node{Kind: api.Rep, Lo: 2, Hi: 2}, pair{1 << 40, -1}},
		{steps, b, api.Node{Kind: api.Rep, Lo: 255, Hi: 255}, pair{1 << 40, -1}},
		{255, b, api.Node{Kind: api.Frame}, pair{256, 256}},
		{256, b, api.Node{Kind: api.Frame}, nothing()},
		{steps, b, api.Node{Kind: api.Frame}, nothing()},
		{32768, b, api.Node{Kind: api.Wide}, pair{65537, 65537}},
		{32769, b, api.Node{Kind: api.Wide}, nothing()},
		{steps, b, api.Node{Kind: api.Wide}, nothing()},
	} {
		d := sample.Chain(x.steps, x.leaf, x.whole)
		if got := of(d); !null.Right(d) || got != x.want {
			t.Errorf("%d: Of = %v, want %v", i, got, x.want)
		}
	}
}

// What is handed in stays, the room behind it included, and one description has one span.
func TestHandedInStays(t *testing.T) {
	for _, d := range descsTo(4) {
		whole := append(slices.Clone(d.Nodes), api.Node{Kind: -1}, api.Node{Kind: -2})
		was := slices.Clone(whole)
		handed := api.Desc{Nodes: whole[:len(d.Nodes)]}
		if of(handed) != of(d) || of(handed) != of(d) {
			t.Fatalf("%v has two spans", d)
		}
		for i := range d.Nodes {
			if at(handed, i) != at(d, i) {
				t.Fatalf("%v has two spans at %d", d, i)
			}
		}
		if !slices.Equal(whole, was) {
			t.Fatalf("%v is changed to %v", was, whole)
		}
	}
}

// Descriptions without their form, nodes that there aren't, and numbers beyond the bounds', of which nothing is promised: all calls end, without a panic.
func TestNoForm(t *testing.T) {
	odd := []int{math.MinInt, -1, 0, 1, 2, 3, math.MaxInt}
	var nodes []api.Node
	for kind := -1; kind <= api.Kinds+1; kind++ {
		for _, a := range odd {
			for _, hi := range odd {
				nodes = append(nodes, api.Node{Kind: kind, A: a, B: 2 - a/2, Lo: -a, Hi: hi, Text: "\xff\""})
			}
		}
	}
	great := exact(api.MaxSize).Nodes
	for _, x := range nodes {
		for _, y := range nodes {
			span.Of(api.Desc{Nodes: []api.Node{{Kind: api.Text, Text: "ab"}, x, y}})
		}
		x.A, x.B = len(great)-1, len(great)-1
		span.Of(api.Desc{Nodes: append(slices.Clone(great), x)})
	}
	d := frame(text("ab"))
	for _, i := range odd {
		span.Node(d, i)
		span.Node(api.Desc{}, i)
	}
	span.Of(api.Desc{})
}
