package count_test

import (
	"bytes"
	"math"
	"math/rand"
	"reflect"
	"slices"
	"strings"
	"testing"

	"scantling/api"
	"scantling/class"
	"scantling/count"
	"scantling/node"
	"scantling/null"
	"scantling/sample"
	"scantling/value"
)

// What descriptions are built of.
var (
	empty, text            = sample.Empty, sample.Text
	seq, or                = sample.Seq, sample.Or
	star, rep, frame, wide = sample.Star, sample.Rep, sample.Frame, sample.Wide
)

// set is a Bytes of some of the first bytes.
func set(first uint64) api.Desc { return sample.Bytes(api.Class{first}) }

// dot is a Bytes of all bytes.
func dot() api.Desc { return sample.Bytes(class.Of(0, 255)) }

// only is a Bytes of one byte.
func only(c byte) api.Desc { return sample.Bytes(class.Of(c, c)) }

// row is one description behind the other.
func row(list ...api.Desc) api.Desc {
	d := list[0]
	for _, next := range list[1:] {
		d = seq(d, next)
	}
	return d
}

// rightTo are all right descriptions of up to n nodes, of these leaves and a few bounds.
func rightTo(n int, leaves ...api.Desc) []api.Desc {
	list := sample.AllTo(n, leaves, [2]int{0, 0}, [2]int{0, 2}, [2]int{1, 1}, [2]int{1, 3}, [2]int{2, 255})
	return slices.DeleteFunc(list, func(d api.Desc) bool { return !null.Right(d) })
}

// words are all words of up to n bytes of these.
func words(n int, bytes string) []string {
	list := []string{""}
	from := 0
	for range n {
		to := len(list)
		for _, w := range list[from:to] {
			for i := range len(bytes) {
				list = append(list, w+bytes[i:i+1])
			}
		}
		from = to
	}
	return list
}

// model are all values of the node i that write the word, by the words of chapter 11.
func model(d api.Desc, i int, w string) []api.Value {
	n := d.Nodes[i]
	var list []api.Value
	switch n.Kind {
	case api.Empty:
		if w == "" {
			list = append(list, api.Value{Kind: n.Kind})
		}
	case api.Bytes:
		if len(w) == 1 && class.Has(n.Class, w[0]) {
			list = append(list, api.Value{Kind: n.Kind, Byte: w[0]})
		}
	case api.Text:
		if w == n.Text {
			list = append(list, api.Value{Kind: n.Kind, Text: w})
		}
	case api.Seq:
		for k := range len(w) + 1 {
			for _, a := range model(d, n.A, w[:k]) {
				for _, b := range model(d, n.B, w[k:]) {
					list = append(list, api.Value{Kind: n.Kind, Kids: []api.Value{a, b}})
				}
			}
		}
	case api.Or:
		for pick, part := range []int{n.A, n.B} {
			for _, v := range model(d, part, w) {
				list = append(list, api.Value{Kind: n.Kind, Pick: pick, Kids: []api.Value{v}})
			}
		}
	case api.Star, api.Rep:
		for _, kids := range modelKids(d, n.A, w) {
			if n.Kind == api.Star || n.Lo <= len(kids) && len(kids) <= n.Hi {
				list = append(list, api.Value{Kind: n.Kind, Kids: kids})
			}
		}
	case api.Frame, api.Wide:
		if inside, is := inFrame(n.Kind, w); is {
			for _, v := range model(d, n.A, inside) {
				list = append(list, api.Value{Kind: n.Kind, Kids: []api.Value{v}})
			}
		}
	}
	return list
}

// modelKids are all rows of values of the node a whose words have at least a byte each, and are the word together.
func modelKids(d api.Desc, a int, w string) [][]api.Value {
	if w == "" {
		return [][]api.Value{nil}
	}
	var list [][]api.Value
	for k := 1; k <= len(w); k++ {
		for _, v := range model(d, a, w[:k]) {
			for _, kids := range modelKids(d, a, w[k:]) {
				list = append(list, append([]api.Value{v}, kids...))
			}
		}
	}
	return list
}

// inFrame is what stands in the frame that is the word, and whether it is one.
func inFrame(kind int, w string) (string, bool) {
	if kind == api.Frame {
		return strings.TrimPrefix(w, w[:min(1, len(w))]), len(w) >= 1 && int(w[0]) == len(w)-1
	}
	return w[min(2, len(w)):], len(w) >= 2 && int(w[0])*256+int(w[1]) == len(w)-2
}

// holds holds what is told of the word against the number of its ways.
func holds(t *testing.T, d api.Desc, w string, want int) {
	t.Helper()
	if got := count.Ways(d, []byte(w)); got != want {
		t.Fatalf("Ways(%v, %q) = %d, want %d", d, w, got, want)
	}
	if got := count.Has(d, []byte(w)); got != (want > 0) {
		t.Fatalf("Has(%v, %q) = %v", d, w, got)
	}
	list := count.Values(d, []byte(w))
	if len(list) != want || want == 2 && value.Same(list[0], list[1]) {
		t.Fatalf("Values(%v, %q) = %v, want %d", d, w, list, want)
	}
	for _, v := range list {
		if got, ok := value.Write(d, v); !ok || string(got) != w {
			t.Fatalf("Values(%v, %q): %v writes %q, %v", d, w, v, got, ok)
		}
	}
}

// P12.1, P12.2: words and their ways, written out.
func TestWrittenOut(t *testing.T) {
	a, b, any := only('a'), only('b'), dot()
	some := set(0x0e) // the bytes 1, 2 and 3
	for i, x := range []struct {
		d    api.Desc
		w    string
		want int
	}{
		{empty(), "", 1},
		{empty(), "a", 0},
		{a, "a", 1},
		{a, "b", 0},
		{a, "", 0},
		{a, "aa", 0},
		{set(0), "", 0},
		{set(0), "\x00", 0},
		{any, "\x00", 1},
		{any, "\xff", 1},
		{text("ab"), "ab", 1},
		{text("ab"), "a", 0},
		{text("ab"), "abc", 0},
		{text("ab"), "ac", 0},
		{text("ab"), "", 0},
		{text("\u00e9"), "\xc3\xa9", 1},
		{seq(a, b), "ab", 1},
		{seq(a, b), "ba", 0},
		{seq(a, b), "a", 0},
		{seq(a, b), "b", 0},
		{seq(a, b), "abb", 0},
		{seq(empty(), empty()), "", 1},
		{seq(empty(), a), "a", 1},
		{seq(a, empty()), "a", 1},
		{seq(or(empty(), a), or(empty(), a)), "", 1},
		{seq(or(empty(), a), or(empty(), a)), "a", 2},
		{seq(or(empty(), a), or(empty(), a)), "aa", 1},
		{seq(or(a, a), b), "ab", 2},
		{seq(a, or(b, b)), "ab", 2},
		{seq(or(a, a), or(b, b)), "ab", 2},
		{seq(or(a, a), set(0)), "a", 0},
		{or(a, b), "a", 1},
		{or(a, b), "b", 1},
		{or(a, b), "c", 0},
		{or(a, b), "ab", 0},
		{or(any, a), "a", 2},
		{or(any, a), "b", 1},
		{or(a, any), "b", 1},
		{or(or(a, a), a), "a", 2},
		{or(a, or(a, a)), "a", 2},
		{or(empty(), empty()), "", 2},
		{or(empty(), a), "", 1},
		{star(a), "", 1},
		{star(a), "a", 1},
		{star(a), "aaaa", 1},
		{star(a), "aaba", 0},
		{star(a), "b", 0},
		{star(set(0)), "", 1},
		{star(set(0)), "a", 0},
		{star(or(a, a)), "", 1},
		{star(or(a, a)), "a", 2},
		{star(or(a, seq(a, a))), "a", 1},
		{star(or(a, seq(a, a))), "aa", 2},
		{star(or(a, or(text("ab"), text("ba")))), "aba", 2},
		{star(or(a, text("ab"))), "aab", 1},
		{star(or(text("aab"), or(text("a"), text("b")))), "aab", 2},
		{star(or(text("ab"), text("c"))), "abcab", 1},
		{star(or(text("ab"), text("c"))), "abca", 0},
		{seq(star(a), star(a)), "", 1},
		{seq(star(a), star(a)), "a", 2},
		{seq(star(a), seq(b, star(a))), "aabaa", 1},
		{seq(star(a), seq(b, star(a))), "aabab", 0},
		{rep(0, 0, a), "", 1},
		{rep(0, 0, a), "a", 0},
		{rep(0, 0, or(a, a)), "", 1},
		{rep(0, 1, a), "", 1},
		{rep(0, 1, a), "a", 1},
		{rep(0, 1, a), "aa", 0},
		{rep(1, 1, a), "", 0},
		{rep(1, 1, a), "a", 1},
		{rep(1, 1, or(a, a)), "a", 2},
		{rep(2, 4, a), "a", 0},
		{rep(2, 4, a), "aa", 1},
		{rep(2, 4, a), "aaaa", 1},
		{rep(2, 4, a), "aaaaa", 0},
		{rep(2, 4, a), "aaba", 0},
		{rep(0, 1, set(0)), "", 1},
		{rep(1, 1, set(0)), "", 0},
		{rep(2, 3, or(a, seq(a, a))), "aa", 1},
		{rep(2, 3, or(a, seq(a, a))), "aaa", 2},
		{rep(2, 2, or(a, seq(a, a))), "aaa", 2},
		{rep(2, 2, or(a, seq(a, a))), "aaaa", 1},
		{rep(3, 3, or(a, seq(a, a))), "aaa", 1},
		{rep(3, 3, or(a, seq(a, a))), "aa", 0},
		{rep(1, 2, rep(1, 2, a)), "a", 1},
		{rep(1, 2, rep(1, 2, a)), "aa", 2},
		{rep(1, 2, rep(1, 2, a)), "aaa", 2},
		{rep(1, 2, rep(1, 2, a)), "aaaa", 1},
		{rep(1, 2, rep(1, 2, a)), "aaaaa", 0},
		{frame(empty()), "\x00", 1},
		{frame(empty()), "", 0},
		{frame(empty()), "\x01", 0},
		{frame(empty()), "\x00\x00", 0},
		{frame(a), "\x01a", 1},
		{frame(a), "\x01b", 0},
		{frame(a), "\x02a", 0},
		{frame(a), "\x00a", 0},
		{frame(a), "\x01", 0},
		{frame(a), "a", 0},
		{frame(a), "\x00\x01a", 0},
		{frame(or(a, a)), "\x01a", 2},
		{frame(star(a)), "\x02aa", 1},
		{frame(star(a)), "\x02aaa", 0},
		{frame(star(a)), "\x03aa", 0},
		{frame(seq(star(a), star(a))), "\x01a", 2},
		{wide(empty()), "\x00\x00", 1},
		{wide(empty()), "\x00", 0},
		{wide(empty()), "", 0},
		{wide(a), "\x00\x01a", 1},
		{wide(a), "\x01\x00a", 0},
		{wide(a), "\x01a", 0},
		{wide(or(a, a)), "\x00\x01a", 2},
		{star(frame(star(any))), "\x00\x02ab\x01\x00", 1},
		{star(frame(star(any))), "\x00\x02ab\x02\x00", 0},
		{star(or(any, frame(any))), "\x01\x01", 2},
		{star(or(any, frame(any))), "\x02\x01", 1},
		{frame(frame(a)), "\x02\x01a", 1},
		{frame(frame(a)), "\x03\x01a", 0},
		{frame(wide(a)), "\x03\x00\x01a", 1},
		{seq(or(frame(some), any), star(any)), "\x01\x02", 2},
		{seq(frame(star(any)), star(any)), "\x01ab", 1},
		{seq(frame(star(any)), star(any)), "\x04ab", 0},
		{seq(star(any), frame(star(any))), "\x01\x01\x00", 2},
		{or(any, only('a')), "a", 2},
	} {
		if got := count.Ways(x.d, []byte(x.w)); got != x.want {
			t.Errorf("%d: Ways = %d, want %d", i, got, x.want)
		}
		holds(t, x.d, x.w, x.want)
		if got := len(model(x.d, len(x.d.Nodes)-1, x.w)); min(got, api.Sat) != x.want {
			t.Errorf("%d: the model counts %d", i, got)
		}
	}
}

// P12.1: a word may be nil.
func TestNothing(t *testing.T) {
	for i, x := range []struct {
		d    api.Desc
		want int
	}{{empty(), 1}, {or(empty(), empty()), 2}, {dot(), 0}, {star(dot()), 1}} {
		if got := count.Ways(x.d, nil); got != x.want || count.Has(x.d, nil) != (got > 0) || len(count.Values(x.d, nil)) != got {
			t.Errorf("%d: %d", i, got)
		}
	}
}

// P12.1, P12.2: all right descriptions of a few nodes, and all short words.
func TestAllShort(t *testing.T) {
	leaves := []api.Desc{empty(), set(0), set(3), set(6), text("\x01\x00")}
	list := words(4, "\x00\x01\x02")
	seen := [api.Sat + 1]int{}
	for _, d := range rightTo(4, leaves...) {
		for _, w := range list {
			want := min(len(model(d, len(d.Nodes)-1, w)), api.Sat)
			holds(t, d, w, want)
			seen[want]++
		}
	}
	for _, d := range rightTo(5, set(7), text("\x01\x00")) {
		for _, w := range words(4, "\x00\x01") {
			want := min(len(model(d, len(d.Nodes)-1, w)), api.Sat)
			holds(t, d, w, want)
			seen[want]++
		}
	}
	if slices.Min(seen[:]) < 10000 {
		t.Error(seen)
	}
}

// maker makes descriptions and values, always the same ones.
type maker struct{ *rand.Rand }

// desc is a right description of about n nodes.
func (m maker) desc(n int) api.Desc {
	if n <= 1 {
		return []api.Desc{empty(), set(1), set(3), set(7), set(14), text("\x01"), text("\x01\x02"), text("\x00\x01")}[m.Intn(8)]
	}
	var d api.Desc
	switch m.Intn(10) {
	case 0, 1, 2, 3:
		k := 1 + m.Intn(n)
		d = seq(m.desc(k), m.desc(n-k))
	case 4, 5:
		k := 1 + m.Intn(n)
		d = or(m.desc(k), m.desc(n-k))
	case 6:
		d = star(m.desc(n - 1))
	case 7:
		lo := m.Intn(3)
		d = rep(lo, lo+m.Intn(3), m.desc(n-1))
	case 8:
		d = frame(m.desc(n - 1))
	case 9:
		d = wide(m.desc(n - 1))
	}
	if !null.Right(d) {
		return m.desc(n)
	}
	return d
}

// value is a value of the node i, if it comes to one.
func (m maker) value(d api.Desc, i int) api.Value {
	n := d.Nodes[i]
	v := api.Value{Kind: n.Kind}
	parts := []int{n.A}
	switch n.Kind {
	case api.Empty:
		return v
	case api.Bytes:
		for v.Byte = byte(m.Intn(8)); n.Class != (api.Class{}) && !class.Has(n.Class, v.Byte); {
			v.Byte = byte(m.Intn(8))
		}
		return v
	case api.Text:
		v.Text = n.Text
		return v
	case api.Seq:
		parts = []int{n.A, n.B}
	case api.Or:
		v.Pick = m.Intn(2)
		parts = []int{[]int{n.A, n.B}[v.Pick]}
	case api.Star:
		parts = slices.Repeat(parts, m.Intn(4))
	case api.Rep:
		parts = slices.Repeat(parts, n.Lo+m.Intn(n.Hi-n.Lo+1))
	}
	for _, part := range parts {
		v.Kids = append(v.Kids, m.value(d, part))
	}
	return v
}

// marred is the word, or what it becomes by a small change.
func (m maker) marred(w []byte) string {
	w = bytes.Clone(w)
	at := m.Intn(len(w) + 1)
	switch m.Intn(5) {
	case 0:
		w = slices.Insert(w, at, byte(m.Intn(4)))
	case 1:
		if at < len(w) {
			w = slices.Delete(w, at, at+1)
		}
	case 2:
		if at < len(w) {
			w[at] = byte(m.Intn(4))
		}
	}
	return string(w)
}

// tally counts by the words of chapter 11, each place against each, without an end to its numbers.
type tally struct {
	d     api.Desc
	w     string
	known map[[4]int]float64
}

// ways is how many values of the node i write what stands between the places; of a Star, or a Rep, those of so many Kids more.
func (c *tally) ways(i, from, to int) float64 {
	n := c.d.Nodes[i]
	all := 0.0
	switch n.Kind {
	case api.Seq:
		for k := from; k <= to; k++ {
			all += c.ways(n.A, from, k) * c.ways(n.B, k, to)
		}
	case api.Or:
		all = c.ways(n.A, from, to) + c.ways(n.B, from, to)
	case api.Star:
		for k := range to - from + 1 {
			all += c.kids(n.A, k, from, to)
		}
	case api.Rep:
		for k := n.Lo; k <= n.Hi; k++ {
			all += c.kids(n.A, k, from, to)
		}
	case api.Frame, api.Wide:
		if _, is := inFrame(n.Kind, c.w[from:to]); is {
			all = c.ways(n.A, from+n.Kind-api.Frame+1, to)
		}
	default:
		all = float64(len(model(c.d, i, c.w[from:to])))
	}
	return all
}

// kids is in how many ways just so many Kids of the node a write what stands between the places.
func (c *tally) kids(a, many, from, to int) float64 {
	if many == 0 || many > to-from {
		if many == 0 && from == to {
			return 1
		}
		return 0
	}
	key := [4]int{a, many, from, to}
	all, is := c.known[key]
	if !is {
		for k := from + 1; k <= to; k++ {
			if behind := c.kids(a, many-1, k, to); behind > 0 {
				all += c.ways(a, from, k) * behind
			}
		}
		c.known[key] = all
	}
	return all
}

// P12.1, P12.2: greater descriptions, with words that their values write, and such words marred.
func TestGreater(t *testing.T) {
	m := maker{rand.New(rand.NewSource(12))}
	seen := [api.Sat + 1]int{}
	for range 2000 {
		d := m.desc(3 + m.Intn(12))
		for range 10 {
			w, ok := value.Write(d, m.value(d, len(d.Nodes)-1))
			if !ok || len(w) > 14 {
				continue
			}
			for range 3 {
				word := m.marred(w)
				c := tally{d, word, map[[4]int]float64{}}
				want := int(min(c.ways(len(d.Nodes)-1, 0, len(word)), api.Sat))
				holds(t, d, word, want)
				seen[want]++
			}
		}
	}
	if slices.Min(seen[:]) < 3000 {
		t.Error(seen)
	}
}

// P12.3: what a value writes has at least a way; what two write, two.
func TestWhatValuesWrite(t *testing.T) {
	m := maker{rand.New(rand.NewSource(3))}
	ones, twos := 0, 0
	for range 2000 {
		d := m.desc(3 + m.Intn(30))
		first := map[string]api.Value{}
		for range 20 {
			v := m.value(d, len(d.Nodes)-1)
			w, ok := value.Write(d, v)
			if !ok {
				continue
			}
			least := 1
			if other, is := first[string(w)]; is && !value.Same(v, other) {
				least = 2
			}
			first[string(w)] = v
			got := count.Ways(d, w)
			if got < least || got > api.Sat || !count.Has(d, w) {
				t.Fatalf("Ways(%v, %q) = %d, want %d or more", d, w, got, least)
			}
			holds(t, d, string(w), got)
			if least == 2 {
				twos++
			} else {
				ones++
			}
		}
	}
	if ones < 5000 || twos < 500 {
		t.Error(ones, twos)
	}
}

// P12.1: frames as long as they may be, longer, and of lengths that are told falsely.
func TestFrameEdges(t *testing.T) {
	b := star(only('b'))
	for _, n := range []int{0, 1, 2, 127, 128, 254, 255, 256, 257, 511, 512, 65534, 65535, 65536, 65537} {
		inside := strings.Repeat("b", n)
		for _, told := range []int{n, n + 1, n - 1, n % 256 * 256} {
			short, long := string([]byte{byte(told)}), string([]byte{byte(told >> 8), byte(told)})
			holds(t, frame(b), short+inside, boolTo(n <= 255 && byte(told) == byte(n)))
			holds(t, wide(b), long+inside, boolTo(n <= 65535 && told&65535 == n))
		}
	}
}

// boolTo is 1 of true, and 0 of false.
func boolTo(is bool) int {
	if is {
		return 1
	}
	return 0
}

// P12.1, P12.2: all bounds, with just as many Kids, one fewer, and one more.
func TestBounds(t *testing.T) {
	for hi := range api.MaxTimes + 1 {
		for lo := 0; lo <= hi; lo += 1 + lo/5 {
			d := rep(lo, hi, set(6))
			for _, n := range []int{lo - 1, lo, hi, hi + 1} {
				if n >= 0 {
					holds(t, d, strings.Repeat("\x02", n), boolTo(n >= lo && n <= hi))
				}
			}
		}
	}
	some := or(set(2), text("\x01\x01"))
	for _, n := range []int{254, 255, 256, 508, 509, 510, 511} {
		want := 2
		switch {
		case n < 255 || n > 510:
			want = 0
		case n == 255 || n == 510:
			want = 1
		}
		holds(t, rep(255, 255, some), strings.Repeat("\x01", n), want)
	}
}

// P12.1, P12.2: long words, by descriptions that may end at many of their places.
func TestLongWords(t *testing.T) {
	const n = 1<<16 - 1
	a, b, any := only('a'), only('b'), dot()
	as := strings.Repeat("a", n)
	half := strings.Repeat("a", n/2) + strings.Repeat("b", n-n/2)
	for _, x := range []struct {
		d    api.Desc
		w    string
		want int
	}{
		{star(any), as, 1},
		{star(a), as + "b", 0},
		{seq(star(any), star(any)), as, 2},
		{row(star(any), star(any), star(any), star(any)), as, 2},
		{seq(star(a), star(b)), half, 1},
		{seq(star(a), seq(star(b), only('c'))), half, 0},
		{star(or(any, seq(any, any))), as, 2},
		{star(or(a, seq(b, b))), half, 1},
		{star(or(a, seq(b, b))), half + "b", 0},
		{row(star(any), rep(255, 255, any), star(any)), as[:255], 1},
		{row(star(any), rep(255, 255, any)), as[:3000], 1},
		{row(star(any), or(star(a), seq(only('z'), star(any)))), "z" + as + "x", 2},
		{row(star(any), or(seq(a, star(a)), seq(only('z'), star(any)))), "z" + as + "x", 1},
		{star(seq(star(a), b)), as + "b", 1},
		{star(seq(star(a), b)), as, 0},
		{star(seq(star(a), b)), strings.Repeat("aaab", n/4), 1},
		{wide(star(any)), "\xff\xff" + as, 1},
		{wide(seq(star(any), star(any))), "\xff\xff" + as, 2},
		{wide(star(frame(star(any)))), "\xfe\xff" + strings.Repeat("\xfe"+as[:254], 255) + as[:254], 0},
		{wide(star(frame(star(any)))), "\xff\x00" + strings.Repeat("\xff"+as[:255], 255), 1},
		{star(text("abc")), strings.Repeat("abc", n), 1},
	} {
		holds(t, x.d, x.w, x.want)
	}
}

// P12.1, P12.2: as many Kids as there may be, of as many bytes, in as many ways as there may be.
func TestManyWays(t *testing.T) {
	a := only('a')
	for n, want := range map[int]int{0: 0, 1: 1, 2: 2, 300: 2, 600: 2, 899: 2, 900: 1, 901: 0} {
		holds(t, rep(1, 30, rep(1, 30, a)), strings.Repeat("a", n), want)
	}
	for n, want := range map[int]int{0: 0, 1: 1, 2: 2, 300: 2, 1000: 2} {
		holds(t, rep(1, 255, rep(1, 255, a)), strings.Repeat("a", n), want)
	}
	holds(t, rep(255, 255, rep(255, 255, a)), strings.Repeat("a", 255*255), 1)
	holds(t, rep(255, 255, rep(255, 255, a)), strings.Repeat("a", 255*255-1), 0)
	d := or(a, text("aa"))
	for range 9 {
		d = seq(d, d)
	}
	for n, want := range map[int]int{511: 0, 512: 1, 513: 2, 1023: 2, 1024: 1, 1025: 0} {
		holds(t, d, strings.Repeat("a", n), want)
	}
}

// P12.1, P12.2: descriptions of many nodes, as deep as they may be.
func TestDeepOnes(t *testing.T) {
	const steps = 1<<16 - 1
	leaf := api.Node{Kind: api.Bytes, Class: class.Of('a', 'a')}
	long := strings.Repeat("a", steps+1)
	for _, x := range []struct {
		whole api.Node
		w     string
		want  int
	}{
		{api.Node{Kind: api.Seq}, long, 1},
		{api.Node{Kind: api.Seq}, long[1:], 0},
		{api.Node{Kind: api.Seq}, long + "a", 0},
		{api.Node{Kind: api.Or}, "a", 2},
		{api.Node{Kind: api.Or}, "b", 0},
		{api.Node{Kind: api.Rep, Lo: 1, Hi: 1}, "a", 1},
		{api.Node{Kind: api.Rep, Lo: 1, Hi: 255}, "a", 1},
		{api.Node{Kind: api.Rep, Lo: 1, Hi: 255}, "aa", 2},
		{api.Node{Kind: api.Rep, Lo: 2, Hi: 255}, "aa", 0},
		{api.Node{Kind: api.Frame}, "\x01a", 0},
		{api.Node{Kind: api.Wide}, "\x00\x01a", 0},
	} {
		holds(t, sample.Chain(steps, leaf, x.whole), x.w, x.want)
	}
	var frames, wides []byte
	for k := 255; k > 0; k-- {
		frames = append(frames, byte(k))
	}
	for k := 1<<16 - 1; k > 0; k -= 2 {
		wides = append(wides, byte(k>>8), byte(k))
	}
	holds(t, sample.Chain(255, leaf, api.Node{Kind: api.Frame}), string(frames)+"a", 1)
	holds(t, sample.Chain(255, leaf, api.Node{Kind: api.Frame}), string(frames)+"b", 0)
	holds(t, sample.Chain(1<<15, leaf, api.Node{Kind: api.Wide}), string(wides)+"a", 1)
	holds(t, sample.Chain(1<<15, leaf, api.Node{Kind: api.Wide}), string(wides[2:])+"a", 0)
}

// P12.1, P12.2: rows and alternatives that nest the other way than chains do, and both in turn.
func TestNests(t *testing.T) {
	const steps = 1<<16 - 1
	leaf := api.Node{Kind: api.Bytes, Class: class.Of('a', 'a')}
	rows, others := []api.Node{leaf}, []api.Node{leaf}
	for i := range steps {
		rows = append(rows, leaf, api.Node{Kind: api.Seq, A: 2 * i, B: 2*i + 1})
		others = append(others, leaf, api.Node{Kind: api.Or, A: 2 * i, B: 2*i + 1})
	}
	holds(t, api.Desc{Nodes: rows}, strings.Repeat("a", steps+1), 1)
	holds(t, api.Desc{Nodes: rows}, strings.Repeat("a", steps), 0)
	holds(t, api.Desc{Nodes: others}, "a", 2)
	holds(t, api.Desc{Nodes: others}, "aa", 0)
	turns := []api.Node{leaf}
	for k := range 1 << 10 {
		turns = append(turns, leaf, api.Node{Kind: api.Or, A: 4 * k, B: 4*k + 1}, leaf, api.Node{Kind: api.Seq, A: 4*k + 2, B: 4*k + 3})
	}
	for n, want := range map[int]int{1: 0, 2: 1, 3: 1, 1024: 1, 1025: 2, 1026: 0} {
		holds(t, api.Desc{Nodes: turns}, strings.Repeat("a", n), want)
	}
}

// P12.4: what is handed in stays, the room behind it included.
func TestHandedInStays(t *testing.T) {
	for _, d := range rightTo(3, empty(), set(3), text("\x01\x00")) {
		nodes := append(slices.Clone(d.Nodes), api.Node{Kind: -1}, api.Node{Kind: -2})
		wasNodes := slices.Clone(nodes)
		for _, w := range words(3, "\x00\x01") {
			word := append([]byte(w), "room"...)
			handed, of := word[:len(w)], api.Desc{Nodes: nodes[:len(d.Nodes)]}
			got, list := count.Ways(of, handed), count.Values(of, handed)
			if got != count.Ways(d, []byte(w)) || len(list) != got || count.Has(of, handed) != (got > 0) {
				t.Fatalf("%v, %q: another one with room", d, w)
			}
			if string(word) != w+"room" || !slices.Equal(nodes, wasNodes) {
				t.Fatalf("%v, %q: changed to %v, %q", d, w, nodes, word)
			}
		}
	}
}

// spoil writes into all lists of the values, the room behind each included.
func spoil(list []api.Value) {
	list = list[:cap(list)]
	for i := range list {
		kids := list[i].Kids
		list[i] = api.Value{Kind: -7, Byte: 7, Text: "spoilt", Pick: 7}
		spoil(kids)
	}
}

// copied are the values, in memory of their own.
func copied(list []api.Value) []api.Value {
	var all []api.Value
	for _, v := range list {
		v.Kids = copied(v.Kids)
		all = append(all, v)
	}
	return all
}

// P12.4: what is answered is new memory, in which no two lists share any.
func TestNewMemory(t *testing.T) {
	m := maker{rand.New(rand.NewSource(4))}
	twos := 0
	for range 4000 {
		d := m.desc(3 + m.Intn(12))
		w, ok := value.Write(d, m.value(d, len(d.Nodes)-1))
		if !ok {
			continue
		}
		first, second := count.Values(d, w), count.Values(d, w)
		was := copied(first)
		spoil(second)
		if third := count.Values(d, w); !reflect.DeepEqual(copied(first), was) || !reflect.DeepEqual(copied(third), was) {
			t.Fatalf("%v, %q: spoilt by another answer", d, w)
		}
		apart(t, first)
		if len(first) == 2 {
			twos++
			spoil(first[0].Kids)
			if !reflect.DeepEqual(copied(first[1:]), was[1:]) {
				t.Fatalf("%v, %q: spoilt by the other value", d, w)
			}
		}
	}
	if twos < 100 {
		t.Error(twos)
	}
}

// apart holds that no two lists of the values have a place in common, the room behind them included.
func apart(t *testing.T, list []api.Value) {
	t.Helper()
	seen := map[*api.Value]bool{}
	var look func(list []api.Value)
	look = func(list []api.Value) {
		whole := list[:cap(list)]
		for i := range whole {
			if seen[&whole[i]] {
				t.Fatal("two lists share memory")
			}
			seen[&whole[i]] = true
		}
		for _, v := range list {
			look(v.Kids)
		}
	}
	look(list)
}

// What is answered hangs on what is handed in alone.
func TestAlwaysTheSame(t *testing.T) {
	m := maker{rand.New(rand.NewSource(5))}
	for range 300 {
		d := m.desc(3 + m.Intn(20))
		w, _ := value.Write(d, m.value(d, len(d.Nodes)-1))
		want := count.Values(d, w)
		for range 5 {
			if !reflect.DeepEqual(count.Values(d, w), want) {
				t.Fatalf("Values(%v, %q) isn't always the same", d, w)
			}
		}
	}
}

// Where a description has its form, but isn't right, a Kid has still at least a byte.
func TestNotRight(t *testing.T) {
	for _, d := range sample.AllTo(4, []api.Desc{empty(), set(3)}, [2]int{0, 2}, [2]int{1, 1}) {
		for _, w := range words(3, "\x00\x01") {
			if node.Form(d) && !null.Right(d) {
				holds(t, d, w, min(len(model(d, len(d.Nodes)-1, w)), api.Sat))
			}
		}
	}
}

// Descriptions without their form, of which nothing is promised: all calls end, without a panic.
func TestNoForm(t *testing.T) {
	try := func(d api.Desc) {
		for _, w := range []string{"", "a", "ab", "abab", "\x00", "\x01a", "\x00\x01a"} {
			if got := len(count.Values(d, []byte(w))); got != count.Ways(d, []byte(w)) || count.Has(d, []byte(w)) != (got > 0) {
				t.Fatalf("%v, %q: %d", d, w, got)
			}
		}
	}
	try(api.Desc{})
	odd := []int{math.MinInt, -1, 0, 1, 2, 3, math.MaxInt}
	for kind := -1; kind <= api.Kinds+1; kind++ {
		try(api.Desc{Nodes: []api.Node{{Kind: kind}}})
		for _, a := range odd {
			for _, b := range odd {
				for _, hi := range odd {
					x := api.Node{Kind: kind, A: a, B: b, Lo: -a, Hi: hi, Text: "\xff\""}
					y := x
					y.A, y.B = 1, 0
					try(api.Desc{Nodes: []api.Node{{Kind: api.Text, Text: "ab"}, x, x}})
					try(api.Desc{Nodes: []api.Node{{Kind: api.Text, Text: "ab"}, {Kind: api.Text}, x}})
					try(api.Desc{Nodes: []api.Node{{Kind: api.Empty}, {Kind: api.Text, Text: "a"}, y}})
				}
			}
		}
	}
	// Nodes that are parts of each next one twice.
	twice := []api.Node{{Kind: api.Empty}, {Kind: api.Text, Text: "a"}, {Kind: api.Or, A: 0, B: 1}}
	for i := range 100 {
		twice = append(twice, api.Node{Kind: api.Seq + i%2, A: i + 2, B: i + 2})
	}
	try(api.Desc{Nodes: twice})
}

// The chapter's example.
func TestExample(t *testing.T) {
	d := or(dot(), text("a"))
	holds(t, d, "a", 2)
	holds(t, d, "b", 1)
}
