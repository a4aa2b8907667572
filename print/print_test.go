package print_test

import (
	"fmt"
	"math"
	"slices"
	"strings"
	"testing"
	"unicode/utf8"
	"unsafe"

	"scantling/api"
	"scantling/class"
	"scantling/lex"
	"scantling/node"
	"scantling/parse"
	"scantling/print"
	"scantling/sample"
)

var (
	none = api.Class{}
	all  = api.Class{1<<64 - 1, 1<<64 - 1, 1<<64 - 1, 1<<64 - 1}
	some = api.Class{0, 7 << 33, 0, 1 << 63} // a to c, and ff
)

// What descriptions are built of.
var (
	empty, set, text       = sample.Empty, sample.Bytes, sample.Text
	seq, or                = sample.Seq, sample.Or
	star, rep, frame, wide = sample.Star, sample.Rep, sample.Frame, sample.Wide
)

// nested is the description in so many of those of f.
func nested(n int, d api.Desc, f func(d api.Desc) api.Desc) api.Desc {
	for range n {
		d = f(d)
	}
	return d
}

// descsTo are all descriptions of up to n nodes, of a few leaves and bounds.
func descsTo(n int) []api.Desc {
	return sample.AllTo(n, []api.Desc{empty(), set(some), text(`)|(é`)}, [2]int{1, 255})
}

// samples are descriptions that have much in them.
func samples() []api.Desc {
	a, b, e := text("a"), set(all), empty()
	return []api.Desc{
		seq(seq(seq(a, b), or(a, e)), star(rep(2, 3, b))),
		or(or(a, seq(b, star(e))), or(star(or(a, b)), frame(or(a, wide(seq(b, seq(a, b))))))),
		star(star(star(seq(a, star(or(e, rep(0, 0, frame(e)))))))),
		rep(0, 255, rep(255, 255, or(wide(star(a)), seq(frame(b), set(none))))),
		seq(text(`(((<61>`), seq(text(`)b(w*|{1,2}.`), or(text("\u20ac\U0010ffff"), text("\x00 \n'")))),
		frame(wide(frame(wide(seq(or(a, b), or(b, a)))))),
	}
}

// levels are the levels of the kinds 1 to 9.
var levels = [...]int{api.Empty: 3, api.Bytes: 3, api.Text: 3, api.Seq: 1, api.Or: 0, api.Star: 2, api.Rep: 2, api.Frame: 3, api.Wide: 3}

// modelText is the text of the description's last node at the level, by the chapter's words.
func modelText(d api.Desc, level int) string {
	n := d.Nodes[len(d.Nodes)-1]
	if levels[n.Kind] < level {
		return "(" + modelText(d, 0) + ")"
	}
	part := func(i, level int) string { return modelText(node.Sub(d, i), level) }
	switch n.Kind {
	case api.Empty:
		return "()"
	case api.Bytes:
		return modelClass(n.Class)
	case api.Text:
		return "\"" + n.Text + "\""
	case api.Seq:
		return part(n.A, 1) + part(n.B, 2)
	case api.Or:
		return part(n.A, 0) + "|" + part(n.B, 1)
	case api.Star:
		return part(n.A, 2) + "*"
	case api.Rep:
		return part(n.A, 2) + fmt.Sprintf("{%d,%d}", n.Lo, n.Hi)
	case api.Frame:
		return "b(" + part(n.A, 0) + ")"
	}
	return "w(" + part(n.A, 0) + ")"
}

// modelClass is the text of a class, byte by byte: a row begins where the byte ahead isn't in the class, and ends where the next one isn't.
func modelClass(a api.Class) string {
	in := func(c int) bool { return c >= 0 && c < 256 && a[c/64]&(uint64(1)<<(c%64)) != 0 }
	s, bytes := "", 0
	for c := range 256 {
		if !in(c) {
			continue
		}
		bytes++
		if !in(c-1) && s != "" {
			s += ","
		}
		if !in(c - 1) {
			s += fmt.Sprintf("%02x", c)
		}
		if in(c-1) && !in(c+1) {
			s += fmt.Sprintf("-%02x", c)
		}
	}
	if bytes == 256 {
		return "."
	}
	return "<" + s + ">"
}

// opened are the places of the ( of a text, each with that of its ), those within a " and the next one left out; and how many stand open together at most.
func opened(s string) (places [][2]int, most int) {
	var open []int
	quoted := false
	for i := range len(s) {
		switch {
		case s[i] == '"':
			quoted = !quoted
		case s[i] == '(' && !quoted:
			open = append(open, i)
			most = max(most, len(open))
		case s[i] == ')' && !quoted:
			places = append(places, [2]int{open[len(open)-1], i})
			open = open[:len(open)-1]
		}
	}
	return places, most
}

// againstModel holds what Text and Deep answer against the model.
func againstModel(t *testing.T, d api.Desc) {
	t.Helper()
	s := modelText(d, 0)
	_, most := opened(s)
	if got := print.Text(d); got != s {
		t.Fatalf("Text(%v) = %q, want %q", d, got, s)
	}
	if got := print.Deep(d); got != most {
		t.Fatalf("Deep(%q) = %d, want %d", s, got, most)
	}
}

// read is what the text is read and parsed to.
func read(s string) (api.Desc, api.Errno) {
	tokens, fault, _ := lex.Read(s)
	if fault != api.OK {
		return api.Desc{}, fault
	}
	d, _, fault, _ := parse.Parse(tokens)
	return d, fault
}

// isRead holds the description that its text is read to against it.
func isRead(t *testing.T, d api.Desc) {
	t.Helper()
	s := print.Text(d)
	if got, fault := read(s); fault != api.OK || !node.Same(got, d) {
		t.Fatalf("%q is read to %v, %d", s, got, fault)
	}
}

// P6.1: Text and Deep, written out.
func TestTextWrittenOut(t *testing.T) {
	a, b, c, e := text("a"), set(all), set(class.Of('b', 'd')), empty()
	for _, x := range []struct {
		d    api.Desc
		want string
		deep int
	}{
		{e, `()`, 1},
		{a, `"a"`, 0},
		{b, `.`, 0},
		{c, `<62-64>`, 0},
		{set(none), `<>`, 0},
		{seq(a, b), `"a".`, 0},
		{seq(seq(a, b), c), `"a".<62-64>`, 0},
		{seq(a, seq(b, c)), `"a"(.<62-64>)`, 1},
		{seq(seq(a, b), seq(b, c)), `"a".(.<62-64>)`, 1},
		{seq(a, seq(b, seq(c, b))), `"a"(.(<62-64>.))`, 2},
		{or(a, b), `"a"|.`, 0},
		{or(or(a, b), c), `"a"|.|<62-64>`, 0},
		{or(a, or(b, c)), `"a"|(.|<62-64>)`, 1},
		{or(a, or(b, or(c, b))), `"a"|(.|(<62-64>|.))`, 2},
		{or(seq(a, b), seq(b, c)), `"a".|.<62-64>`, 0},
		{seq(or(a, b), c), `("a"|.)<62-64>`, 1},
		{seq(a, or(b, c)), `"a"(.|<62-64>)`, 1},
		{seq(star(a), star(b)), `"a"*.*`, 0},
		{or(star(a), rep(2, 3, b)), `"a"*|.{2,3}`, 0},
		{star(a), `"a"*`, 0},
		{star(e), `()*`, 1},
		{star(star(a)), `"a"**`, 0},
		{star(seq(a, b)), `("a".)*`, 1},
		{star(or(b, b)), `(.|.)*`, 1},
		{star(frame(a)), `b("a")*`, 1},
		{star(rep(0, 0, a)), `"a"{0,0}*`, 0},
		{rep(10, 255, a), `"a"{10,255}`, 0},
		{rep(3, 3, star(a)), `"a"*{3,3}`, 0},
		{rep(0, 1, rep(1, 2, a)), `"a"{1,2}{0,1}`, 0},
		{rep(0, 1, seq(a, b)), `("a".){0,1}`, 1},
		{rep(0, 1, or(a, b)), `("a"|.){0,1}`, 1},
		{rep(0, 1, wide(a)), `w("a"){0,1}`, 1},
		{frame(a), `b("a")`, 1},
		{frame(e), `b(())`, 2},
		{frame(seq(a, b)), `b("a".)`, 1},
		{frame(or(a, b)), `b("a"|.)`, 1},
		{frame(star(or(a, b))), `b(("a"|.)*)`, 2},
		{wide(b), `w(.)`, 1},
		{wide(e), `w(())`, 2},
		{wide(or(a, seq(b, or(a, c)))), `w("a"|.("a"|<62-64>))`, 2},
		{frame(wide(frame(a))), `b(w(b("a")))`, 3},
		{seq(frame(a), wide(b)), `b("a")w(.)`, 1},
		{seq(seq(e, e), frame(e)), `()()b(())`, 2},
		{or(frame(frame(e)), star(seq(a, e))), `b(b(()))|("a"())*`, 3},
	} {
		if got := print.Text(x.d); got != x.want {
			t.Errorf("Text = %q, want %q", got, x.want)
		}
		if got := print.Deep(x.d); got != x.deep {
			t.Errorf("Deep(%q) = %d, want %d", x.want, got, x.deep)
		}
	}
}

// P6.1, P6.2: all descriptions of a few nodes: their texts, how deep they are, and that each is read to its description.
func TestTextOfAllDescs(t *testing.T) {
	for _, d := range append(descsTo(6), samples()...) {
		againstModel(t, d)
		isRead(t, d)
	}
}

// P6.1, P6.2: no two descriptions have one text.
func TestTextsDiffer(t *testing.T) {
	seen := map[string]bool{}
	for _, d := range descsTo(5) {
		s := print.Text(d)
		if seen[s] {
			t.Fatalf("%q is the text of two", s)
		}
		seen[s] = true
	}
}

// P6.1: no ( and ) stand that the text could do without: without them it is read to another description, or not at all; those of an Empty, a Frame and a Wide stand always.
func TestNoBracketTooMany(t *testing.T) {
	for _, d := range append(descsTo(5), samples()...) {
		s := print.Text(d)
		places, _ := opened(s)
		for _, p := range places {
			from, to := p[0], p[1]
			if to == from+1 || from > 0 && (s[from-1] == 'b' || s[from-1] == 'w') {
				continue
			}
			less := s[:from] + s[from+1:to] + s[to+1:]
			if got, fault := read(less); fault == api.OK && node.Same(got, d) {
				t.Fatalf("%q is as good as %q", less, s)
			}
		}
	}
}

// P6.1, P6.2: Texts stand as they are, whatever signs are in them, and say nothing of how deep a description is.
func TestTextOfTexts(t *testing.T) {
	list := []string{"a", " ", "(", ")", "((((", ")(", "()", "<61>", "<", ">", "{1,2}", "b(", "w(.)", "|", "*", ".", `\`, "'", "\x00", "\n", "\u00e9", "\u20ac", "\ufffd", "\U0010ffff", strings.Repeat("(", 200), strings.Repeat("\u00e9)", 5000)}
	for r := range rune(0x400) {
		if r != '"' {
			list = append(list, string(r), "a"+string(r)+"(")
		}
	}
	for _, s := range list {
		if !utf8.ValidString(s) {
			t.Fatalf("%q is no Text", s)
		}
		d := text(s)
		if got := print.Text(d); got != "\""+s+"\"" || print.Deep(d) != 0 {
			t.Errorf("Text of %q = %q, deep by %d", s, got, print.Deep(d))
		}
		isRead(t, d)
		d = star(seq(seq(d, d), frame(d)))
		if want := fmt.Sprintf("(\"%s\"\"%s\"b(\"%s\"))*", s, s, s); print.Text(d) != want || print.Deep(d) != 2 {
			t.Errorf("Text = %q, want %q, deep by %d", print.Text(d), want, print.Deep(d))
		}
		isRead(t, d)
	}
}

// P6.1, P6.2: a Text alone says nothing of how deep its description is, be it one ( or one ).
func TestDeepOfBracketsInTexts(t *testing.T) {
	for i, x := range []struct {
		d    api.Desc
		deep int
	}{
		{text("("), 0},
		{text(")"), 0},
		{seq(seq(text("("), text("(")), text("(")), 0},
		{frame(text("(")), 1},
		{seq(frame(text(")")), frame(empty())), 2},
		{frame(seq(text(")"), frame(text(")")))), 2},
		{seq(text("("), empty()), 1},
	} {
		if got := print.Deep(x.d); got != x.deep {
			t.Errorf("%d: deep by %d, want %d", i, got, x.deep)
		}
	}
}

// P6.1, P6.2: all bounds that there may be.
func TestTextOfBounds(t *testing.T) {
	for lo := range 256 {
		for hi := lo; hi < 256; hi++ {
			d := rep(lo, hi, set(all))
			if got, want := print.Text(d), fmt.Sprintf(".{%d,%d}", lo, hi); got != want {
				t.Errorf("Text = %q, want %q", got, want)
			}
			isRead(t, d)
		}
	}
}

// P6.1: Class, written out.
func TestClassWrittenOut(t *testing.T) {
	for _, x := range []struct {
		a    api.Class
		want string
	}{
		{none, "<>"},
		{all, "."},
		{class.Of(0, 0), "<00>"},
		{class.Of(255, 255), "<ff>"},
		{class.Of(0x0a, 0x0a), "<0a>"},
		{class.Of(0xa0, 0xa0), "<a0>"},
		{class.Of(0, 1), "<00-01>"},
		{class.Of(0xfe, 0xff), "<fe-ff>"},
		{class.Of(0, 254), "<00-fe>"},
		{class.Of(1, 255), "<01-ff>"},
		{class.Of(1, 254), "<01-fe>"},
		{class.Of(63, 64), "<3f-40>"},
		{class.Of(127, 128), "<7f-80>"},
		{class.Of(0x9a, 0xbf), "<9a-bf>"},
		{class.Not(class.Of(0x80, 0x80)), "<00-7f,81-ff>"},
		{class.Not(class.Of(0x7f, 0x80)), "<00-7e,81-ff>"},
		{class.Add(class.Of('a', 'f'), '_', 'h', 0, 255), "<00,5f,61-66,68,ff>"},
		{class.Add(none, 0x10, 0x12, 0x14), "<10,12,14>"},
		{class.Add(none, 0x12, 0x11, 0x10), "<10-12>"},
		{class.Join(class.Of(0, 63), class.Of(64, 127)), "<00-7f>"},
	} {
		if got := print.Class(x.a); got != x.want {
			t.Errorf("Class(%x) = %q, want %q", x.a, got, x.want)
		}
	}
}

// classAgainstModel holds what Class answers against the model, and the text of a Bytes of the class, and what that is read to, against it.
func classAgainstModel(t *testing.T, a api.Class) {
	t.Helper()
	got, want := print.Class(a), modelClass(a)
	if got != want || print.Text(set(a)) != want {
		t.Fatalf("Class(%x) = %q, want %q; the text of a Bytes is %q", a, got, want, print.Text(set(a)))
	}
	isRead(t, set(a))
}

// P6.1, P6.2: Class, of all rows of bytes, of all pairs, and of all others but those.
func TestClassOfRowsAndPairs(t *testing.T) {
	for from := range 256 {
		for to := from; to < 256; to++ {
			row := class.Of(byte(from), byte(to))
			pair := class.Add(none, byte(from), byte(to))
			for _, a := range []api.Class{row, pair, class.Not(row), class.Not(pair)} {
				classAgainstModel(t, a)
			}
		}
	}
}

// P6.1, P6.2: Class, of each few bytes of those at the ends of a class's words, and of bytes at a distance.
func TestClassOfPatterns(t *testing.T) {
	edges := []byte{0, 1, 62, 63, 64, 65, 127, 128, 191, 192, 254, 255}
	for bits := range 1 << len(edges) {
		a := none
		for i, c := range edges {
			if bits>>i&1 == 1 {
				a = class.Add(a, c)
			}
		}
		classAgainstModel(t, a)
		classAgainstModel(t, class.Not(a))
	}
	for step := 1; step < 256; step++ {
		for size := range min(step, 5) + 1 {
			a := none
			for c := range 256 {
				if c%step < size {
					a = class.Add(a, byte(c))
				}
			}
			classAgainstModel(t, a)
			classAgainstModel(t, class.Not(a))
		}
	}
}

// P6.1, P6.2: many classes in one description, each in a text of its own.
func TestTextOfManyClasses(t *testing.T) {
	d, want := set(class.Of(0, 0)), "<00>"
	for c := 1; c < 256; c++ {
		d = or(d, set(class.Of(0, byte(c))))
		want += "|" + modelClass(class.Of(0, byte(c)))
	}
	if print.Text(d) != want || print.Deep(d) != 0 {
		t.Errorf("Text = %q", print.Text(d))
	}
	isRead(t, d)
}

// deepening are ways to a description that is deeper just by one.
var deepening = []func(d api.Desc) api.Desc{
	frame,
	wide,
	func(d api.Desc) api.Desc { return star(seq(d, text("("))) },
	func(d api.Desc) api.Desc { return rep(0, 1, or(text(")"), star(d))) },
	func(d api.Desc) api.Desc { return seq(set(some), or(d, text("()"))) },
	func(d api.Desc) api.Desc { return or(text("a"), or(d, text("a"))) },
	func(d api.Desc) api.Desc { return or(frame(d), empty()) },
}

// P6.1, P6.2: how deep a description is, as parse has it: it is read up to MaxDepth, and no further.
func TestDeepEdge(t *testing.T) {
	for i, f := range deepening {
		for n := 0; n <= 70; n++ {
			for _, x := range []struct {
				d    api.Desc
				deep int
			}{{nested(n, star(text("((")), f), n}, {nested(n, star(empty()), f), n + 1}} {
				if print.Deep(x.d) != x.deep {
					t.Fatalf("%d: %q is deep by %d, want %d", i, print.Text(x.d), print.Deep(x.d), x.deep)
				}
				againstModel(t, x.d)
				got, fault := read(print.Text(x.d))
				if x.deep <= api.MaxDepth && (fault != api.OK || !node.Same(got, x.d)) || x.deep > api.MaxDepth && fault != api.ErrDeep {
					t.Fatalf("%d, %d times: read to %v, %d", i, n, got, fault)
				}
			}
		}
	}
}

// P6.2: as many nodes as a description may have.
func TestMostNodesAreRead(t *testing.T) {
	dot, a := set(all), text("a(")
	for i, d := range []api.Desc{
		star(nested(2047, dot, func(d api.Desc) api.Desc { return seq(d, dot) })),
		star(nested(2047, a, func(d api.Desc) api.Desc { return or(d, a) })),
		nested(4095, dot, star),
		nested(4095, a, func(d api.Desc) api.Desc { return rep(0, 9, d) }),
	} {
		if len(d.Nodes) != api.MaxNodes {
			t.Fatalf("%d: %d nodes", i, len(d.Nodes))
		}
		isRead(t, d)
	}
}

// P6.1: descriptions that are long and deep, of more nodes than may be read.
func TestTextOfLongOnes(t *testing.T) {
	const n = 1 << 18
	for _, x := range []struct {
		kind       int
		head, tail string
		deep       int
	}{
		{api.Star, "", "*", 0},
		{api.Rep, "", "{0,0}", 0},
		{api.Frame, "b(", ")", n},
		{api.Wide, "w(", ")", n},
		{api.Seq, ".(", ")", n - 1},
		{api.Or, ".|(", ")", n - 1},
	} {
		want := strings.Repeat(x.head, n) + "." + strings.Repeat(x.tail, n)
		if x.deep == n-1 { // The innermost part stands as it is.
			want = strings.Replace(want, "(.)", ".", 1)
		}
		d := sample.Chain(n, api.Node{Kind: api.Bytes, Class: all}, api.Node{Kind: x.kind})
		if !node.Form(d) || print.Text(d) != want || print.Deep(d) != x.deep {
			t.Errorf("the kind %d: deep by %d", x.kind, print.Deep(d))
		}
	}
	d := api.Desc{Nodes: []api.Node{{Kind: api.Text, Text: strings.Repeat("(", 1<<24)}, {Kind: api.Star}}}
	if s := print.Text(d); len(s) != 1<<24+3 || print.Deep(d) != 0 {
		t.Error(len(s), print.Deep(d))
	}
}

// What is handed in stays, the room behind it included, and one description has one text.
func TestHandedInStays(t *testing.T) {
	for _, d := range append(descsTo(4), samples()...) {
		whole := append(slices.Clone(d.Nodes), api.Node{Kind: -1}, api.Node{Kind: -2})
		was := slices.Clone(whole)
		handed := api.Desc{Nodes: whole[:len(d.Nodes)]}
		s, deep := print.Text(handed), print.Deep(handed)
		if s != print.Text(handed) || s != print.Text(d) || deep != print.Deep(d) {
			t.Fatalf("%q is told in two ways", s)
		}
		if !slices.Equal(whole, was) {
			t.Fatalf("%v is changed to %v", was, whole)
		}
		clear(whole)
		if s != print.Text(d) {
			t.Fatalf("%q shares memory with what was handed in", s)
		}
	}
}

// What is answered is new memory: a Text's is not its description's.
func TestTextsAnew(t *testing.T) {
	text := string([]byte("abcdef"))
	d := api.Desc{Nodes: []api.Node{{Kind: api.Text, Text: text}}}
	first, second := print.Text(d), print.Text(d)
	if first != second || unsafe.StringData(first) == unsafe.StringData(second) || unsafe.StringData(first[1:]) == unsafe.StringData(text) {
		t.Error("a text of old memory")
	}
}

// Descriptions without their form, of which nothing is promised: Text and Deep end, without a panic.
func TestNoForm(t *testing.T) {
	odd := []int{math.MinInt, -1, 0, 1, 2, 3, math.MaxInt}
	var nodes []api.Node
	for kind := -1; kind <= 10; kind++ {
		for _, a := range odd {
			nodes = append(nodes, api.Node{Kind: kind, A: a, B: 2 - a/2, Lo: a, Hi: -a, Text: "\xff\"("})
		}
	}
	for _, x := range nodes {
		print.Text(api.Desc{Nodes: []api.Node{x}})
		for _, y := range nodes {
			d := api.Desc{Nodes: []api.Node{{Kind: api.Empty}, x, y}}
			print.Text(d)
			print.Deep(d)
		}
	}
	if print.Text(api.Desc{}) != "" || print.Deep(api.Desc{}) != 0 {
		t.Error("no nodes have a text")
	}
	twice := []api.Node{{Kind: api.Text, Text: strings.Repeat("a", 1000)}}
	for i := range 1000 {
		twice = append(twice, api.Node{Kind: api.Seq, A: i, B: i})
	}
	print.Text(api.Desc{Nodes: twice})
	print.Deep(api.Desc{Nodes: twice})
}
