package value_test

import (
	"bytes"
	"math"
	"reflect"
	"slices"
	"strings"
	"testing"

	"scantling/api"
	"scantling/class"
	"scantling/node"
	"scantling/null"
	"scantling/sample"
	"scantling/value"
)

// What descriptions are built of.
var (
	empty, text            = sample.Empty, sample.Text
	seq, or                = sample.Seq, sample.Or
	star, rep, frame, wide = sample.Star, sample.Rep, sample.Frame, sample.Wide
)

// set is a Bytes of some of the first bytes.
func set(first uint64) api.Desc { return sample.Bytes(api.Class{first}) }

// dot is a Bytes of all bytes.
func dot() api.Desc { return sample.Bytes(class.Of(0, 255)) }

// rightTo are all right descriptions of up to n nodes, of a few leaves and bounds.
func rightTo(n int) []api.Desc {
	leaves := []api.Desc{empty(), set(0), set(6), text("a\u00e9")}
	list := sample.AllTo(n, leaves, [2]int{0, 0}, [2]int{0, 2}, [2]int{1, 1}, [2]int{2, 255})
	return slices.DeleteFunc(list, func(d api.Desc) bool { return !null.Right(d) })
}

// What values are built of.
func nothing() api.Value             { return api.Value{Kind: api.Empty} }
func one(b byte) api.Value           { return api.Value{Kind: api.Bytes, Byte: b} }
func said(s string) api.Value        { return api.Value{Kind: api.Text, Text: s} }
func row(a, b api.Value) api.Value   { return of(api.Seq, a, b) }
func stars(k ...api.Value) api.Value { return of(api.Star, k...) }
func reps(k ...api.Value) api.Value  { return of(api.Rep, k...) }
func framed(a api.Value) api.Value   { return of(api.Frame, a) }
func widely(a api.Value) api.Value   { return of(api.Wide, a) }

// of is a value of the kind with these Kids.
func of(kind int, kids ...api.Value) api.Value { return api.Value{Kind: kind, Kids: kids} }

// pick is a value of an Or.
func pick(which int, a api.Value) api.Value {
	return api.Value{Kind: api.Or, Pick: which, Kids: []api.Value{a}}
}

// times is the value so many times.
func times(n int, v api.Value) []api.Value { return slices.Repeat([]api.Value{v}, n) }

// model is the word of a value of the description's last node, by the chapter's words, and whether it is one.
func model(d api.Desc, v api.Value) (string, bool) {
	n := d.Nodes[len(d.Nodes)-1]
	told := api.Value{Kind: n.Kind}
	a := func() api.Desc { return node.Sub(d, n.A) }
	var parts []api.Desc
	var own []byte
	switch n.Kind {
	case api.Bytes:
		if !class.Has(n.Class, v.Byte) {
			return "", false
		}
		told.Byte, own = v.Byte, []byte{v.Byte}
	case api.Text:
		told.Text, own = n.Text, []byte(n.Text)
	case api.Seq:
		parts = []api.Desc{a(), node.Sub(d, n.B)}
	case api.Or:
		if v.Pick != 0 && v.Pick != 1 {
			return "", false
		}
		told.Pick, parts = v.Pick, []api.Desc{node.Sub(d, []int{n.A, n.B}[v.Pick])}
	case api.Star:
		parts = slices.Repeat([]api.Desc{a()}, len(v.Kids))
	case api.Rep:
		parts = slices.Repeat([]api.Desc{a()}, max(n.Lo, min(n.Hi, len(v.Kids))))
	case api.Frame, api.Wide:
		parts = []api.Desc{a()}
	}
	kids := v.Kids
	v.Kids = nil
	if len(kids) != len(parts) || !reflect.DeepEqual(v, told) {
		return "", false
	}
	for k, kid := range kids {
		w, ok := model(parts[k], kid)
		if !ok || w == "" && (n.Kind == api.Star || n.Kind == api.Rep) {
			return "", false
		}
		own = append(own, w...)
	}
	switch {
	case n.Kind == api.Frame:
		return string([]byte{byte(len(own))}) + string(own), len(own) <= 255
	case n.Kind == api.Wide:
		return string([]byte{byte(len(own) / 256), byte(len(own) % 256)}) + string(own), len(own) <= 65535
	}
	return string(own), true
}

// againstModel holds what Write answers against the model; it answers whether it is a value.
func againstModel(t *testing.T, d api.Desc, v api.Value) bool {
	t.Helper()
	want, is := model(d, v)
	got, ok := value.Write(d, v)
	if ok != is || is && string(got) != want || !is && got != nil {
		t.Fatalf("Write(%v, %v) = %x, %v, want %x, %v", d, v, got, ok, want, is)
	}
	return is
}

// values are all values of the description whose words have at most so many bytes.
func values(d api.Desc, most int) []api.Value {
	var list []api.Value
	if most < 0 {
		return nil
	}
	n := d.Nodes[len(d.Nodes)-1]
	a := func(most int) []api.Value { return values(node.Sub(d, n.A), most) }
	b := func(most int) []api.Value { return values(node.Sub(d, n.B), most) }
	switch n.Kind {
	case api.Empty:
		list = append(list, nothing())
	case api.Bytes:
		for c := range 256 {
			if class.Has(n.Class, byte(c)) {
				list = append(list, one(byte(c)))
			}
		}
	case api.Text:
		list = append(list, said(n.Text))
	case api.Seq:
		for _, v := range a(most) {
			for _, w := range b(most) {
				list = append(list, row(v, w))
			}
		}
	case api.Or:
		for _, v := range a(most) {
			list = append(list, pick(0, v))
		}
		for _, v := range b(most) {
			list = append(list, pick(1, v))
		}
	case api.Star, api.Rep:
		lo, hi := n.Lo, n.Hi
		if n.Kind == api.Star {
			lo, hi = 0, most
		}
		for _, kids := range rows(a(most), hi, node.Sub(d, n.A), most) {
			if len(kids) >= lo {
				list = append(list, of(n.Kind, kids...))
			}
		}
	case api.Frame:
		for _, v := range a(most - 1) {
			list = append(list, framed(v))
		}
	case api.Wide:
		for _, v := range a(most - 2) {
			list = append(list, widely(v))
		}
	}
	return slices.DeleteFunc(list, func(v api.Value) bool {
		w, _ := model(d, v)
		return len(w) > most
	})
}

// rows are all rows of up to hi of the values of the description whose words have at most so many bytes together.
func rows(list []api.Value, hi int, d api.Desc, most int) [][]api.Value {
	all := [][]api.Value{nil}
	if hi == 0 {
		return all
	}
	for _, v := range list {
		w, _ := model(d, v)
		if len(w) > most {
			continue
		}
		for _, behind := range rows(list, hi-1, d, most-len(w)) {
			all = append(all, append([]api.Value{v}, behind...))
		}
	}
	return all
}

// marred are values that are the value but for one thing in one place.
func marred(v api.Value) []api.Value {
	list := []api.Value{}
	own := func(change func(m *api.Value)) {
		m := v
		m.Kids = slices.Clone(v.Kids)
		change(&m)
		list = append(list, m)
	}
	for kind := -1; kind <= api.Kinds+1; kind++ {
		if kind != v.Kind {
			own(func(m *api.Value) { m.Kind = kind })
		}
	}
	for _, c := range []byte{1, 2, 4, 255} {
		own(func(m *api.Value) { m.Byte ^= c })
	}
	for _, p := range []int{math.MinInt, -1, 0, 1, 2, math.MaxInt} {
		if p != v.Pick {
			own(func(m *api.Value) { m.Pick = p })
		}
	}
	for _, s := range []string{"", "a", "a\u00e9", "a\u00e9b", "a\u00e8", "\xff"} {
		if s != v.Text {
			own(func(m *api.Value) { m.Text = s })
		}
	}
	for _, kid := range []api.Value{{}, nothing(), one(1), one(9), said("a\u00e9"), stars()} {
		own(func(m *api.Value) { m.Kids = append(m.Kids, kid) })
		own(func(m *api.Value) { m.Kids = slices.Insert(m.Kids, 0, kid) })
	}
	for k := range v.Kids {
		own(func(m *api.Value) { m.Kids = slices.Delete(m.Kids, k, k+1) })
		own(func(m *api.Value) { m.Kids = append(m.Kids, m.Kids[k]) })
		for _, kid := range marred(v.Kids[k]) {
			own(func(m *api.Value) { m.Kids[k] = kid })
		}
	}
	return list
}

// P11.1: values of each kind, and such as are none, written out.
func TestWrittenOut(t *testing.T) {
	b, x := set(6), text("abc") // the bytes 1 and 2; a text
	n, v, w := nothing(), one(1), one(2)
	s := said("abc")
	for i, y := range []struct {
		d    api.Desc
		v    api.Value
		want string
		ok   bool
	}{
		{empty(), n, "", true},
		{empty(), api.Value{}, "", false},
		{empty(), v, "", false},
		{empty(), of(api.Empty, n), "", false},
		{empty(), api.Value{Kind: api.Empty, Byte: 1}, "", false},
		{empty(), api.Value{Kind: api.Empty, Pick: 1}, "", false},
		{empty(), api.Value{Kind: api.Empty, Text: "a"}, "", false},
		{b, v, "\x01", true},
		{b, w, "\x02", true},
		{b, one(0), "", false},
		{b, one(3), "", false},
		{b, one(65), "", false},
		{b, n, "", false},
		{b, said("\x01"), "", false},
		{b, api.Value{Kind: api.Bytes, Byte: 1, Text: "\x01"}, "", false},
		{b, api.Value{Kind: api.Bytes, Byte: 1, Pick: 1}, "", false},
		{b, of(api.Bytes, v), "", false},
		{b, api.Value{Kind: api.Bytes, Byte: 1, Kids: []api.Value{v}}, "", false},
		{set(1), one(0), "\x00", true},
		{set(0), one(0), "", false},
		{dot(), one(255), "\xff", true},
		{x, s, "abc", true},
		{x, said("ab"), "", false},
		{x, said("abcd"), "", false},
		{x, said("abd"), "", false},
		{x, said(""), "", false},
		{x, api.Value{Kind: api.Text, Text: "abc", Byte: 'a'}, "", false},
		{x, api.Value{Kind: api.Text, Text: "abc", Pick: 1}, "", false},
		{x, api.Value{Kind: api.Text, Text: "abc", Kids: []api.Value{n}}, "", false},
		{text("\u20ac\x00"), said("\u20ac\x00"), "\xe2\x82\xac\x00", true},
		{seq(b, x), row(v, s), "\x01abc", true},
		{seq(x, b), row(s, v), "abc\x01", true},
		{seq(b, x), row(s, v), "", false},
		{seq(b, b), row(v, w), "\x01\x02", true},
		{seq(b, b), row(v, one(3)), "", false},
		{seq(b, b), row(one(3), v), "", false},
		{seq(b, b), of(api.Seq), "", false},
		{seq(b, b), of(api.Seq, v), "", false},
		{seq(b, b), of(api.Seq, v, v, v), "", false},
		{seq(b, b), api.Value{Kind: api.Seq, Pick: 1, Kids: []api.Value{v, v}}, "", false},
		{seq(b, b), stars(v, v), "", false},
		{seq(empty(), empty()), row(n, n), "", true},
		{seq(b, empty()), row(v, n), "\x01", true},
		{or(b, x), pick(0, v), "\x01", true},
		{or(b, x), pick(1, s), "abc", true},
		{or(b, x), pick(1, v), "", false},
		{or(b, x), pick(0, s), "", false},
		{or(b, b), pick(0, v), "\x01", true},
		{or(b, b), pick(1, v), "\x01", true},
		{or(b, b), pick(2, v), "", false},
		{or(b, b), pick(-1, v), "", false},
		{or(b, b), of(api.Or), "", false},
		{or(b, b), of(api.Or, v, v), "", false},
		{or(b, b), v, "", false},
		{or(b, b), api.Value{Kind: api.Or, Byte: 1, Kids: []api.Value{v}}, "", false},
		{or(empty(), b), pick(0, n), "", true},
		{star(b), stars(), "", true},
		{star(b), stars(v), "\x01", true},
		{star(b), stars(v, w, v), "\x01\x02\x01", true},
		{star(b), stars(times(300, v)...), strings.Repeat("\x01", 300), true},
		{star(b), stars(v, one(3), v), "", false},
		{star(b), stars(n), "", false},
		{star(b), reps(v), "", false},
		{star(b), api.Value{Kind: api.Star, Byte: 1}, "", false},
		{star(set(0)), stars(), "", true},
		{star(or(b, x)), stars(pick(1, s), pick(0, w)), "abc\x02", true},
		{rep(1, 3, b), reps(), "", false},
		{rep(1, 3, b), reps(v), "\x01", true},
		{rep(1, 3, b), reps(v, w), "\x01\x02", true},
		{rep(1, 3, b), reps(v, w, w), "\x01\x02\x02", true},
		{rep(1, 3, b), reps(v, w, w, w), "", false},
		{rep(1, 3, b), stars(v), "", false},
		{rep(1, 3, b), reps(v, n), "", false},
		{rep(1, 3, b), reps(v, one(3)), "", false},
		{rep(0, 0, b), reps(), "", true},
		{rep(0, 0, b), reps(v), "", false},
		{rep(0, 1, set(0)), reps(), "", true},
		{rep(1, 1, set(0)), reps(), "", false},
		{frame(b), framed(v), "\x01\x01", true},
		{frame(b), widely(v), "", false},
		{frame(b), v, "", false},
		{frame(b), of(api.Frame), "", false},
		{frame(b), of(api.Frame, v, v), "", false},
		{frame(b), api.Value{Kind: api.Frame, Byte: 1, Kids: []api.Value{v}}, "", false},
		{frame(b), framed(one(3)), "", false},
		{frame(empty()), framed(n), "\x00", true},
		{frame(x), framed(s), "\x03abc", true},
		{wide(b), widely(v), "\x00\x01\x01", true},
		{wide(b), framed(v), "", false},
		{wide(b), of(api.Wide), "", false},
		{wide(b), of(api.Wide, v, v), "", false},
		{wide(empty()), widely(n), "\x00\x00", true},
		{frame(frame(b)), framed(framed(v)), "\x02\x01\x01", true},
		{frame(wide(x)), framed(widely(s)), "\x05\x00\x03abc", true},
		{wide(frame(x)), widely(framed(s)), "\x00\x04\x03abc", true},
		{seq(x, frame(b)), row(s, framed(v)), "abc\x01\x01", true},
		{seq(frame(x), wide(b)), row(framed(s), widely(v)), "\x03abc\x00\x01\x01", true},
		{star(frame(star(b))), stars(framed(stars()), framed(stars(v, w))), "\x00\x02\x01\x02", true},
	} {
		got, ok := value.Write(y.d, y.v)
		if string(got) != y.want || ok != y.ok {
			t.Errorf("%d: Write = %q, %v, want %q, %v", i, got, ok, y.want, y.ok)
		}
		againstModel(t, y.d, y.v)
	}
}

// P11.1: the chapter's example.
func TestExample(t *testing.T) {
	got, ok := value.Write(frame(dot()), framed(one(7)))
	if !bytes.Equal(got, []byte{1, 7}) || !ok {
		t.Error(got, ok)
	}
}

// P11.1: a Bytes writes each byte that its class has, and no other one.
func TestClasses(t *testing.T) {
	for _, a := range []api.Class{{}, class.Of(0, 255), class.Of('a', 'z'), class.Not(class.Of(63, 64)), class.Add(api.Class{}, 0, 127, 128, 255)} {
		for c := range 256 {
			got, ok := value.Write(sample.Bytes(a), one(byte(c)))
			if ok != class.Has(a, byte(c)) || ok && !bytes.Equal(got, []byte{byte(c)}) || !ok && got != nil {
				t.Errorf("Write of %v, %d = %v, %v", a, c, got, ok)
			}
		}
	}
}

// P11.1: all short values of all right descriptions of a few nodes, and those that are marred in one place.
func TestAllValues(t *testing.T) {
	were, weren := 0, 0
	for _, d := range rightTo(4) {
		for _, v := range values(d, 4) {
			if !againstModel(t, d, v) {
				t.Fatalf("%v is no value of %v", v, d)
			}
			for _, m := range marred(v) {
				if againstModel(t, d, m) {
					were++
				} else {
					weren++
				}
			}
		}
	}
	if were < 1000 || weren < 100000 {
		t.Error(were, weren)
	}
}

// P11.1: the values of each description of a few nodes, held against each other one.
func TestOthersValues(t *testing.T) {
	list := rightTo(3)
	for _, d := range list {
		for _, v := range values(d, 3) {
			for _, e := range list {
				againstModel(t, e, v)
			}
		}
	}
}

// P11.1: all bounds that a repeat may have, with just as many Kids, one fewer, and one more.
func TestBounds(t *testing.T) {
	b := set(6)
	for hi := range api.MaxTimes + 1 {
		for lo := range hi + 1 {
			d := rep(lo, hi, b)
			for _, n := range []int{lo - 1, lo, hi, hi + 1} {
				if n < 0 {
					continue
				}
				got, ok := value.Write(d, reps(times(n, one(2))...))
				if ok != (n >= lo && n <= hi) || ok && !bytes.Equal(got, bytes.Repeat([]byte{2}, n)) || !ok && got != nil {
					t.Fatalf("%d to %d, %d times: %v, %v", lo, hi, n, got, ok)
				}
			}
		}
	}
}

// P11.1: frames of words that are just as long as they may tell, shorter, longer, and about it.
func TestFrameEdges(t *testing.T) {
	b := set(6)
	for _, n := range []int{0, 1, 2, 127, 128, 254, 255, 256, 257, 511, 512, 513, 32768, 65280, 65534, 65535, 65536, 65537, 1 << 17, 1<<17 + 1} {
		many := stars(times(n, one(2))...)
		word := bytes.Repeat([]byte{2}, n)
		got, ok := value.Write(frame(star(b)), framed(many))
		if ok != (n <= 255) || ok && !bytes.Equal(got, append([]byte{byte(n)}, word...)) || !ok && got != nil {
			t.Errorf("a frame of %d bytes: %d, %v", n, len(got), ok)
		}
		got, ok = value.Write(wide(star(b)), widely(many))
		if ok != (n <= 65535) || ok && !bytes.Equal(got, append([]byte{byte(n >> 8), byte(n)}, word...)) || !ok && got != nil {
			t.Errorf("a wide frame of %d bytes: %d, %v", n, len(got), ok)
		}
		got, ok = value.Write(star(b), many)
		if !ok || !bytes.Equal(got, word) {
			t.Errorf("a star of %d bytes: %d, %v", n, len(got), ok)
		}
	}
}

// P11.1: what stands ahead of a frame, or behind it, doesn't count, the lengths of frames within it do.
func TestFramesInFrames(t *testing.T) {
	b := set(6)
	for _, n := range []int{250, 251, 252, 253, 254, 255, 256} {
		many := stars(times(n, one(1))...)
		againstModel(t, frame(frame(star(b))), framed(framed(many)))
		againstModel(t, frame(wide(star(b))), framed(widely(many)))
		againstModel(t, wide(frame(star(b))), widely(framed(many)))
		againstModel(t, frame(seq(b, star(b))), framed(row(one(1), many)))
		againstModel(t, seq(star(b), frame(star(b))), row(many, framed(many)))
		againstModel(t, seq(frame(star(b)), star(b)), row(framed(many), many))
	}
	for _, n := range []int{65532, 65533, 65534, 65535, 65536} {
		many := stars(times(n, one(1))...)
		againstModel(t, wide(wide(star(b))), widely(widely(many)))
		againstModel(t, seq(wide(star(b)), wide(star(b))), row(widely(many), widely(many)))
	}
}

// P11.1: a star's, or a repeat's, Kids have at least a byte each, also where the description isn't right.
func TestKidsOfNothing(t *testing.T) {
	e, n := or(empty(), set(6)), nothing()
	for i, x := range []struct {
		d  api.Desc
		v  api.Value
		ok bool
	}{
		{star(e), stars(pick(1, one(1))), true},
		{star(e), stars(pick(0, n)), false},
		{star(e), stars(pick(1, one(1)), pick(0, n)), false},
		{star(e), stars(pick(0, n), pick(1, one(1))), false},
		{rep(1, 2, e), reps(pick(1, one(1))), true},
		{rep(1, 2, e), reps(pick(0, n)), false},
		{rep(1, 2, e), reps(pick(1, one(1)), pick(0, n)), false},
		{star(star(set(6))), stars(stars()), false},
		{star(star(set(6))), stars(stars(one(1))), true},
	} {
		if _, ok := value.Write(x.d, x.v); ok != x.ok {
			t.Errorf("%d: %v", i, ok)
		}
		againstModel(t, x.d, x.v)
	}
}

// plain is the value, its lists without Kids nil, all the way down.
func plain(v api.Value) api.Value {
	var kids []api.Value
	for _, kid := range v.Kids {
		kids = append(kids, plain(kid))
	}
	v.Kids = kids
	return v
}

// number is how many values it is of, counted one by one.
func number(v api.Value) int {
	n := 1
	for _, kid := range v.Kids {
		n += number(kid)
	}
	return n
}

// some are values of a few descriptions, marred ones, and values of none.
func some() []api.Value {
	list := []api.Value{{}, {Kids: []api.Value{{}}}, {Kids: []api.Value{{}, {}}}, {Kids: []api.Value{{Kids: []api.Value{{}}}}}}
	for _, d := range []api.Desc{empty(), set(6), text("ab"), seq(set(6), or(empty(), set(2))), frame(star(set(2))), rep(0, 2, or(set(2), text("ab")))} {
		for _, v := range values(d, 3) {
			list = append(append(list, v), marred(v)...)
		}
	}
	return list
}

// P11.2: Same of all pairs of many values, those of no description among them.
func TestSame(t *testing.T) {
	list := some()
	var plains []api.Value
	for _, v := range list {
		plains = append(plains, plain(v))
	}
	for i, a := range list {
		for j, b := range list {
			if got, want := value.Same(a, b), reflect.DeepEqual(plains[i], plains[j]); got != want {
				t.Fatalf("Same(%v, %v) = %v", a, b, got)
			}
		}
	}
	if len(list) < 1000 {
		t.Error(len(list))
	}
}

// P11.2: Same, written out: each field, and each Kid, in its place.
func TestSameWrittenOut(t *testing.T) {
	whole := api.Value{Kind: 5, Byte: 7, Text: "ab", Pick: 1, Kids: []api.Value{one(1), row(one(2), said("x"))}}
	if !value.Same(whole, whole) || !value.Same(whole, plain(whole)) || !value.Same(api.Value{}, api.Value{}) {
		t.Error("the same")
	}
	for i, m := range append(marred(whole), row(one(1), row(one(2), said("x"))), api.Value{}) {
		if value.Same(whole, m) || value.Same(m, whole) {
			t.Errorf("%d: %v is the same", i, m)
		}
	}
	if !value.Same(of(api.Star), of(api.Star, []api.Value{}...)) || !value.Same(api.Value{Kids: []api.Value{}}, api.Value{}) {
		t.Error("no Kids")
	}
	if value.Same(row(one(1), one(2)), row(one(2), one(1))) || value.Same(row(one(1), one(2)), row(one(1), one(1))) {
		t.Error("Kids in other places")
	}
	if value.Same(stars(stars(one(1)), stars()), stars(stars(), stars(one(1)))) {
		t.Error("Kids' Kids in other places")
	}
}

// P11.2: Many of many values, those of no description among them.
func TestMany(t *testing.T) {
	for _, v := range some() {
		if got, want := value.Many(v), number(v); got != want {
			t.Fatalf("Many(%v) = %d, want %d", v, got, want)
		}
	}
	for i, x := range []struct {
		v    api.Value
		want int
	}{
		{api.Value{}, 1},
		{one(1), 1},
		{stars(), 1},
		{framed(one(1)), 2},
		{row(one(1), pick(1, one(2))), 4},
		{stars(times(1000, row(one(1), one(2)))...), 3001},
	} {
		if got := value.Many(x.v); got != x.want {
			t.Errorf("%d: Many = %d, want %d", i, got, x.want)
		}
	}
}

// P11.3: a value writes one word, each time, and in new memory.
func TestOneWord(t *testing.T) {
	for _, d := range rightTo(4) {
		for _, v := range values(d, 3) {
			first, ok := value.Write(d, v)
			was := bytes.Clone(first)
			second, okToo := value.Write(d, v)
			for i := range second[:cap(second)] {
				second[:cap(second)][i] ^= 255
			}
			third, okStill := value.Write(d, v)
			if !ok || !okToo || !okStill || !bytes.Equal(first, was) || !bytes.Equal(third, was) {
				t.Fatalf("%v of %v writes %x, %x, %x", v, d, was, first, third)
			}
		}
	}
}

// chain is the value of a chain of so many nodes (sample.Chain) of the kind, over leaves of that value.
func chain(steps int, leaf api.Value, kind int) api.Value {
	v := leaf
	for range steps {
		switch kind {
		case api.Seq:
			v = row(leaf, v)
		case api.Or:
			v = pick(1, v)
		default:
			v = of(kind, v)
		}
	}
	return v
}

// P11.1: descriptions and values that are long and deep, of more nodes than may be read.
func TestLongOnes(t *testing.T) {
	const steps = 1<<16 - 1
	b := api.Node{Kind: api.Bytes, Class: api.Class{6}}
	for i, x := range []struct {
		steps int
		whole api.Node
		want  int
		ok    bool
	}{
		{steps, api.Node{Kind: api.Seq}, steps + 1, true},
		{steps, api.Node{Kind: api.Or}, 1, true},
		{steps, api.Node{Kind: api.Rep, Lo: 1, Hi: 1}, 1, true},
		{steps, api.Node{Kind: api.Rep, Lo: 1, Hi: 255}, 1, true},
		{steps, api.Node{Kind: api.Rep, Lo: 2, Hi: 255}, 0, false},
		{255, api.Node{Kind: api.Frame}, 256, true},
		{256, api.Node{Kind: api.Frame}, 0, false},
		{32768, api.Node{Kind: api.Wide}, 65537, true},
		{32769, api.Node{Kind: api.Wide}, 0, false},
	} {
		d := sample.Chain(x.steps, b, x.whole)
		v := chain(x.steps, one(2), x.whole.Kind)
		got, ok := value.Write(d, v)
		if len(got) != x.want || ok != x.ok || !null.Right(d) {
			t.Errorf("%d: Write = %d bytes, %v", i, len(got), ok)
		}
		if got, ok := value.Write(d, chain(x.steps, one(3), x.whole.Kind)); got != nil || ok {
			t.Errorf("%d: Write = %d bytes, %v, of what is no value", i, len(got), ok)
		}
	}
	many := 1 << 20
	got, ok := value.Write(star(seq(set(6), text("abc"))), stars(times(many, row(one(1), said("abc")))...))
	if !ok || !bytes.Equal(got, bytes.Repeat([]byte("\x01abc"), many)) {
		t.Error(len(got), ok)
	}
}

// P11.2: values that are deeper, and longer, than those of any description.
func TestLongValues(t *testing.T) {
	const steps = 1 << 20
	deep := chain(steps, one(1), api.Seq)
	other := chain(steps, one(2), api.Seq)
	if !value.Same(deep, deep) || value.Same(deep, other) || value.Same(deep, chain(steps-1, one(1), api.Seq)) || value.Many(deep) != 2*steps+1 {
		t.Error("deep")
	}
	long := stars(times(steps, framed(one(1)))...)
	last := stars(append(times(steps-1, framed(one(1))), framed(one(2)))...)
	if !value.Same(long, long) || value.Same(long, last) || value.Many(long) != 2*steps+1 {
		t.Error("long")
	}
}

// roomy is the value, with room behind each list of Kids, which holds something.
func roomy(v api.Value) api.Value {
	kids := make([]api.Value, 0, len(v.Kids)+2)
	for _, kid := range v.Kids {
		kids = append(kids, roomy(kid))
	}
	v.Kids = append(kids, api.Value{Kind: -1}, api.Value{Kind: -2})[:len(kids)]
	return v
}

// room is whether the room behind all lists of Kids holds what roomy laid there.
func room(v api.Value) bool {
	n := len(v.Kids)
	whole := v.Kids[:n+2]
	for _, kid := range v.Kids {
		if !room(kid) {
			return false
		}
	}
	return whole[n].Kind == -1 && whole[n+1].Kind == -2
}

// What is handed in stays, the room behind it included.
func TestHandedInStays(t *testing.T) {
	for _, d := range rightTo(4) {
		whole := append(slices.Clone(d.Nodes), api.Node{Kind: -1}, api.Node{Kind: -2})
		was := slices.Clone(whole)
		handed := api.Desc{Nodes: whole[:len(d.Nodes)]}
		for _, v := range values(d, 3) {
			r := roomy(v)
			got, ok := value.Write(handed, r)
			want, is := value.Write(d, v)
			if !bytes.Equal(got, want) || ok != is || !value.Same(r, v) || !value.Same(v, r) || value.Many(r) != value.Many(v) {
				t.Fatalf("%v is another one with room", v)
			}
			if !room(r) || !reflect.DeepEqual(plain(r), plain(v)) {
				t.Fatalf("%v is changed to %v", v, r)
			}
		}
		if !slices.Equal(whole, was) {
			t.Fatalf("%v is changed to %v", was, whole)
		}
	}
}

// Descriptions without their form, of which nothing is promised: all calls end, without a panic.
func TestNoForm(t *testing.T) {
	if got, ok := value.Write(api.Desc{}, nothing()); got != nil || ok {
		t.Error(got, ok)
	}
	if got, ok := value.Write(api.Desc{}, api.Value{}); got != nil || ok {
		t.Error(got, ok)
	}
	for _, kind := range []int{-1, 0, api.Kinds + 1} {
		if got, ok := value.Write(api.Desc{Nodes: []api.Node{{Kind: kind}}}, of(kind)); got != nil || ok {
			t.Error(kind, got, ok)
		}
	}
	odd := []int{math.MinInt, -1, 0, 1, 2, 3, math.MaxInt}
	vs := []api.Value{{}, nothing(), said("ab"), row(said("ab"), said("ab")), pick(1, said("ab")), pick(0, framed(said("ab"))), stars(said("ab"), one(1)), reps(said("ab")), widely(framed(one(1)))}
	for kind := -1; kind <= api.Kinds+1; kind++ {
		for _, a := range odd {
			for _, b := range odd {
				for _, hi := range odd {
					x := api.Node{Kind: kind, A: a, B: b, Lo: -a, Hi: hi, Text: "\xff\""}
					d := api.Desc{Nodes: []api.Node{{Kind: api.Text, Text: "ab"}, x, x}}
					for _, v := range vs {
						value.Write(d, v)
						value.Write(d, of(kind, v))
					}
				}
			}
		}
	}
	// A node that is its own part, and a value that is its own Kid.
	kids := []api.Value{{Kind: api.Frame}}
	kids[0].Kids = kids
	if got, ok := value.Write(api.Desc{Nodes: []api.Node{{Kind: api.Frame}}}, kids[0]); got != nil || ok {
		t.Error(got, ok)
	}
}
