package valid_test

import (
	"slices"
	"strings"
	"testing"
	"unsafe"

	"scantling/api"
	"scantling/lex"
	"scantling/node"
	"scantling/null"
	"scantling/parse"
	"scantling/print"
	"scantling/sample"
	"scantling/valid"
)

// What descriptions are built of.
var (
	empty, text            = sample.Empty, sample.Text
	seq, or                = sample.Seq, sample.Or
	star, rep, frame, wide = sample.Star, sample.Rep, sample.Frame, sample.Wide
)

// dot is a Bytes of all bytes.
func dot() api.Desc { return sample.Bytes(api.Class{1<<64 - 1, 1<<64 - 1, 1<<64 - 1, 1<<64 - 1}) }

// answer is what Read answers.
type answer struct {
	d  api.Desc
	e  api.Errno
	at int
}

// same tells whether the answers are the same.
func (a answer) same(b answer) bool {
	return node.Same(a.d, b.d) && a.e == b.e && a.at == b.at
}

// hold holds what Read and Is answer of the text against what they are to answer, and Read's answer against what follows.
func hold(t *testing.T, s string, want answer) {
	t.Helper()
	if got := follows(t, s); !got.same(want) {
		t.Fatalf("Read(%q) = %v, want %v", s, got, want)
	}
	if valid.Is(s) != (want.e == api.OK) {
		t.Fatalf("Is(%q) = %v", s, want.e != api.OK)
	}
}

// follows holds Read's answer against what is so of each text: its place lies within the text, or at its end, there is no description beside an error, and one that there is is right.
func follows(t *testing.T, s string) answer {
	t.Helper()
	d, e, at := valid.Read(s)
	if at < 0 || at > len(s) || e < api.OK || e > api.ErrNull {
		t.Fatalf("Read(%q): the error %d at %d", s, e, at)
	}
	if e != api.OK && d.Nodes != nil || e == api.OK && (at != 0 || !null.Right(d)) {
		t.Fatalf("Read(%q): the error %d at %d, and %v", s, e, at, d)
	}
	return answer{d, e, at}
}

// written is what a row of tokens of the grammar writes: its text, the ways of nothing of its description, and where in the text the token of the least wrong node is; -1, if there is none.
type written struct {
	text  string
	ways  int
	wrong int
}

// beside is the place in a text of two that follow one another: that of the first one, if it has one, else that of the second one, which begins at from.
func beside(first, second, from int) int {
	if first < 0 && second >= 0 {
		return from + second
	}
	return first
}

// maker makes all that the grammar's symbols write with so many tokens.
type maker struct {
	ors, rows, posts, atoms [][]written
	leaves                  []written
	repeats                 []string // with Los and His of one digit
	frames                  []string
}

// fill makes all of up to n tokens, word by word as the grammar has it.
func (m *maker) fill(n int) {
	for k := range n + 1 {
		m.atoms = append(m.atoms, m.atomsOf(k))
		m.posts = append(m.posts, m.postsOf(k))
		m.rows = append(m.rows, m.rowsOf(k))
		m.ors = append(m.ors, m.orsOf(k))
	}
}

func (m *maker) atomsOf(k int) []written {
	var list []written
	switch {
	case k == 1:
		list = append(list, m.leaves...)
	case k == 2:
		list = append(list, written{"()", 1, -1})
	case k > 2:
		for _, x := range m.ors[k-2] {
			list = append(list, written{"(" + x.text + ")", x.ways, beside(-1, x.wrong, 1)})
		}
	}
	if k < 3 {
		return list
	}
	for _, x := range m.atoms[k-1] {
		for _, f := range m.frames {
			if strings.HasPrefix(x.text, "(") {
				list = append(list, written{f + x.text, 0, beside(-1, x.wrong, 1)})
			}
		}
	}
	return list
}

func (m *maker) postsOf(k int) []written {
	list := slices.Clone(m.atoms[k])
	if k == 0 {
		return list
	}
	for _, x := range m.posts[k-1] {
		list = append(list, wrapped(x, "*", 1+x.ways))
		for _, r := range m.repeats {
			list = append(list, wrapped(x, r, powers(x.ways, int(r[1]-'0'), int(r[3]-'0'))))
		}
	}
	return list
}

// wrapped is what a post and the token behind it write.
func wrapped(x written, sign string, ways int) written {
	wrong := x.wrong
	if wrong < 0 && x.ways > 0 {
		wrong = len(x.text)
	}
	return written{x.text + sign, min(ways, 2), wrong}
}

// powers is all together of the powers of a from that to lo to that to hi.
func powers(a, lo, hi int) int {
	all := 0
	for k := lo; k <= hi; k++ {
		power := 1
		for range k {
			power *= a
		}
		all += power
	}
	return all
}

func (m *maker) rowsOf(k int) []written {
	list := slices.Clone(m.posts[k])
	for i := 1; i < k; i++ {
		for _, x := range m.rows[i] {
			for _, y := range m.posts[k-i] {
				list = append(list, written{x.text + y.text, min(x.ways*y.ways, 2), beside(x.wrong, y.wrong, len(x.text))})
			}
		}
	}
	return list
}

func (m *maker) orsOf(k int) []written {
	list := slices.Clone(m.rows[k])
	for i := 1; i < k-1; i++ {
		for _, x := range m.ors[i] {
			for _, y := range m.rows[k-1-i] {
				list = append(list, written{x.text + "|" + y.text, min(x.ways+y.ways, 2), beside(x.wrong, y.wrong, len(x.text)+1)})
			}
		}
	}
	return list
}

// texts are all texts of up to n of these tokens, but those that go on behind one of which f answers false.
func texts(n int, tokens []string, f func(s string) bool) {
	var from func(s string, n int)
	from = func(s string, n int) {
		if !f(s) || n == 0 {
			return
		}
		for _, x := range tokens {
			from(s+x, n-1)
		}
	}
	from("", n)
}

// parts is what chapters 3 and 5 answer of the text.
func parts(s string) answer {
	tokens, e, at := lex.Read(s)
	if e != api.OK {
		return answer{e: e, at: at}
	}
	d, _, e, at := parse.Parse(tokens)
	return answer{d, e, at}
}

// P9.1, P9.2: all texts of a few tokens, those that go on behind a fault aside, against all that the grammar writes.
func TestAllTexts(t *testing.T) {
	for i, x := range []struct {
		n      int
		m      maker
		tokens []string
	}{
		{5, maker{leaves: []written{{".", 0, -1}, {`"a"`, 0, -1}}, repeats: []string{"{0,2}", "{1,1}", "{0,0}"}, frames: []string{"b", "w"}},
			[]string{".", `"a"`, "(", ")", "|", "*", "{0,2}", "{1,1}", "{0,0}", "b", "w"}},
		{7, maker{leaves: []written{{"<>", 0, -1}}, frames: []string{"b"}},
			[]string{"<>", "(", ")", "|", "*", "b"}},
		{7, maker{leaves: []written{{`"()*"`, 0, -1}}, repeats: []string{"{1,2}"}},
			[]string{`"()*"`, "(", ")", "|", "*", "{1,2}"}},
	} {
		x.m.fill(x.n)
		known := map[string]written{}
		for _, list := range x.m.ors {
			for _, w := range list {
				known[w.text] = w
			}
		}
		wrongs, rights := 0, 0
		texts(x.n, x.tokens, func(s string) bool {
			want := parts(s)
			w, ok := known[s]
			switch {
			case ok != (want.e == api.OK):
				t.Fatalf("%q: of the grammar %v", s, ok)
			case ok && w.wrong >= 0:
				want = answer{e: api.ErrNull, at: w.wrong}
				wrongs++
			case ok:
				rights++
			}
			hold(t, s, want)
			return want.e != api.ErrWant || want.at == len(s)
		})
		if wrongs+rights != len(known) || wrongs < 500 || rights < 500 {
			t.Error(i, len(known), wrongs, rights)
		}
	}
}

// P9.1: descriptions of valid texts, written out.
func TestReadWrittenOut(t *testing.T) {
	x := sample.Bytes(api.Class{0, 0xe << 32})
	for _, y := range []struct {
		s string
		d api.Desc
	}{
		{".", dot()},
		{"()", empty()},
		{"  (  )  ", empty()},
		{`"ab"`, text("ab")},
		{`"(.*)*"`, text("(.*)*")},
		{`" "`, text(" ")},
		{"<>", sample.Bytes(api.Class{})},
		{"<^>", dot()},
		{"<61-63>", x},
		{"(<61,62,63>)", x},
		{".*", star(dot())},
		{". *", star(dot())},
		{".{0,0}", rep(0, 0, dot())},
		{".{255,255}", rep(255, 255, dot())},
		{`"a"{1,2}*`, star(rep(1, 2, text("a")))},
		{"b()", frame(empty())},
		{"b()*", star(frame(empty()))},
		{"w(.*)", wide(star(dot()))},
		{"w(.*){0,3}", rep(0, 3, wide(star(dot())))},
		{".()", seq(dot(), empty())},
		{"(.())*", star(seq(dot(), empty()))},
		{"(.*.)*", star(seq(star(dot()), dot()))},
		{"()()", seq(empty(), empty())},
		{"()|()", or(empty(), empty())},
		{"()|.*|.{0,2}", or(or(empty(), star(dot())), rep(0, 2, dot()))},
		{`b("a"|.)w(<61-63>)`, seq(frame(or(text("a"), dot())), wide(x))},
		{`.|("a" ())`, or(dot(), seq(text("a"), empty()))},
	} {
		hold(t, y.s, answer{d: y.d})
	}
}

// P9.1: each error and its place, written out.
func TestFaultsWrittenOut(t *testing.T) {
	for _, x := range []struct {
		s  string
		e  api.Errno
		at int
	}{
		{"a", api.ErrByte, 0},
		{".x.", api.ErrByte, 1},
		{".\xff", api.ErrByte, 1},
		{".>", api.ErrByte, 1},
		{"<61", api.ErrClass, 0},
		{". <6>", api.ErrClass, 2},
		{`.""`, api.ErrText, 1},
		{`."`, api.ErrText, 1},
		{"\"\xff\"", api.ErrText, 0},
		{".{1}", api.ErrRepeat, 1},
		{".{1,2", api.ErrRepeat, 1},
		{".{0,256}", api.ErrBounds, 1},
		{".{2,1}", api.ErrBounds, 1},
		{"(", api.ErrOpen, 0},
		{".((.)", api.ErrOpen, 1},
		{"b(.", api.ErrOpen, 1},
		{"", api.ErrWant, 0},
		{"   ", api.ErrWant, 3},
		{".|", api.ErrWant, 2},
		{".)", api.ErrWant, 1},
		{"*", api.ErrWant, 0},
		{"b", api.ErrWant, 1},
		{"b.", api.ErrWant, 1},
		{"()*", api.ErrNull, 2},
		{"() *", api.ErrNull, 3},
		{" ( ) {0,0}", api.ErrNull, 5},
		{"(){1,1}", api.ErrNull, 2},
		{"(){255,255}", api.ErrNull, 2},
		{".**", api.ErrNull, 2},
		{".*{1,1}", api.ErrNull, 2},
		{".{0,1}*", api.ErrNull, 6},
		{".{0,0}{1,2}", api.ErrNull, 6},
		{"(.|())*", api.ErrNull, 6},
		{"(.*.*)*", api.ErrNull, 6},
		{`("a"|"b"*)*`, api.ErrNull, 10},
		{"b(()*)", api.ErrNull, 4},
		{"w(.|b(.**))", api.ErrNull, 8},
		{`"*"()*`, api.ErrNull, 5},
		{`<2a>"é{"|()*`, api.ErrNull, 12},
	} {
		hold(t, x.s, answer{e: x.e, at: x.at})
	}
}

// P9.1, DOC.md: the chapter's example, and the whole's of these.
func TestExamples(t *testing.T) {
	hold(t, "(.*)*", answer{e: api.ErrNull, at: 4})
	for _, s := range []string{".{2,3}", "..|...", ".", "<00-fe>", `"a"*"a"*`, `("a"|"ab")*`, `(.|"a")<>`, `"ab"|"abcd"`, "b(.*)", `"a"`, `"ab"`, "b(.)", "b(..)"} {
		if !valid.Is(s) {
			t.Errorf("Is(%q)", s)
		}
	}
}

// P9.1: of several errors the first one is told, wherever they stand: a token's ahead of the grammar's, and both ahead of ErrNull.
func TestFirstFault(t *testing.T) {
	deep := strings.Repeat("(", api.MaxDepth+1)
	many := strings.Repeat(".", api.MaxNodes)
	for _, x := range []struct {
		s  string
		e  api.Errno
		at int
	}{
		{"()*a", api.ErrByte, 3},
		{"()* <61", api.ErrClass, 4},
		{`()*"`, api.ErrText, 3},
		{"()*{1}", api.ErrRepeat, 3},
		{"()*{3,2}", api.ErrBounds, 3},
		{"*a", api.ErrByte, 1},
		{")<61", api.ErrClass, 1},
		{`(."`, api.ErrText, 2},
		{deep + "{", api.ErrRepeat, api.MaxDepth + 1},
		{many + ".{1,0}", api.ErrBounds, api.MaxNodes + 1},
		{"a<61", api.ErrByte, 0},
		{"<61a", api.ErrClass, 0},
		{"(()*", api.ErrOpen, 0},
		{"()*(", api.ErrOpen, 3},
		{"()*)", api.ErrWant, 3},
		{"()**|", api.ErrWant, 5},
		{"*()*", api.ErrWant, 0},
		{"()*" + deep, api.ErrDeep, 3 + api.MaxDepth},
		{deep + ")*)", api.ErrDeep, api.MaxDepth},
		{"()*" + many, api.ErrMany, 3 + api.MaxNodes},
		{"()*" + many + ")", api.ErrWant, 3 + api.MaxNodes},
		{"()*()*", api.ErrNull, 2},
		{"(()*|())*", api.ErrNull, 3},
		{"(()|()*)*", api.ErrNull, 6},
		{"((.*)*|.)*", api.ErrNull, 5},
		{"()*{1,1}**", api.ErrNull, 2},
		{".*()*", api.ErrNull, 4},
		{".|b()*|(){0,9}|()*", api.ErrNull, 9},
	} {
		hold(t, x.s, answer{e: x.e, at: x.at})
	}
}

// P9.1: how deep a text may be, with what is wrong inside, and without.
func TestDeepTexts(t *testing.T) {
	for _, x := range [][2]string{{"(", ")"}, {"b(", ")"}, {"w( ", ")*"}, {".(", ".)"}, {"(.|", ")"}} {
		for _, n := range []int{1, api.MaxDepth - 1, api.MaxDepth, api.MaxDepth + 1, 10 * api.MaxDepth} {
			ahead, behind := strings.Repeat(x[0], n), strings.Repeat(x[1], n)
			if n > api.MaxDepth {
				at := len(x[0])*api.MaxDepth + strings.Index(x[0], "(")
				hold(t, ahead+"."+behind, answer{e: api.ErrDeep, at: at})
				hold(t, ahead+".**"+behind, answer{e: api.ErrDeep, at: at})
				continue
			}
			want := parts(ahead + "." + behind)
			if want.e != api.OK {
				t.Errorf("%d of %q: %d at %d", n, x[0], want.e, want.at)
			}
			hold(t, ahead+"."+behind, want)
			hold(t, ahead+".**"+behind, answer{e: api.ErrNull, at: len(ahead) + 2})
		}
	}
}

// P9.1: how many nodes there may be, with what is wrong among them, and without.
func TestManyNodes(t *testing.T) {
	for _, x := range []struct {
		s  string
		e  api.Errno
		at int
	}{
		{strings.Repeat(".", 2048), api.OK, 0}, // 4095 nodes
		{strings.Repeat(".", 2048) + "*", api.OK, 0},
		{strings.Repeat(".", 2049), api.ErrMany, 2049},
		{".|" + strings.Repeat(".", 2048), api.ErrMany, 2050},
		{"()*" + strings.Repeat(".", 2047), api.ErrNull, 2},
		{strings.Repeat(".", 2047) + "()*", api.ErrNull, 2049},
		{strings.Repeat(".", 2047) + "()** ", api.ErrMany, 2052},
		{strings.Repeat(".", 2047) + "() *", api.ErrNull, 2050},
		{"." + strings.Repeat("{1,1}", 4095), api.OK, 0},
		{"." + strings.Repeat("{1,1}", 4096), api.ErrMany, 1 + 5*4096},
		{"." + strings.Repeat("*", 4095), api.ErrNull, 2},
		{"." + strings.Repeat("*", 4096), api.ErrMany, 4097},
	} {
		d, e, at := valid.Read(x.s)
		if e != x.e || at != x.at || valid.Is(x.s) != (e == api.OK) {
			t.Errorf("%.20q, %d bytes: %d at %d, want %d at %d", x.s, len(x.s), e, at, x.e, x.at)
		}
		if e != api.OK && d.Nodes != nil || e == api.OK && !null.Right(d) {
			t.Errorf("%.20q, %d bytes: %d nodes", x.s, len(x.s), len(d.Nodes))
		}
	}
}

// P9.1, P9.3: long texts of which nothing can be read end too, each with its place.
func TestLongTexts(t *testing.T) {
	const n = 1 << 17
	for _, x := range []struct {
		s  string
		e  api.Errno
		at int
	}{
		{strings.Repeat(" ", n), api.ErrWant, n},
		{strings.Repeat("(", n), api.ErrDeep, api.MaxDepth},
		{strings.Repeat("()", n), api.ErrMany, 2 * n},
		{strings.Repeat("()*", n), api.ErrMany, 3 * n},
		{strings.Repeat(".|", n), api.ErrWant, 2 * n},
		{strings.Repeat("b", n), api.ErrWant, 1},
		{strings.Repeat(".", n) + "a", api.ErrByte, n},
		{`"` + strings.Repeat(".", n), api.ErrText, 0},
		{`"` + strings.Repeat(".", n) + `"**`, api.ErrNull, n + 3},
		{strings.Repeat(" ", n) + "()*", api.ErrNull, n + 2},
	} {
		hold(t, x.s, answer{e: x.e, at: x.at})
	}
	hold(t, `"`+strings.Repeat("*", n)+`"`, answer{d: text(strings.Repeat("*", n))})
}

// P9.3: all texts of a few bytes of any kind, and texts with a byte that is cut off, lacks, stands twice, or is another one: a place lies within the text, or at its end.
func TestPlaces(t *testing.T) {
	for a := range 256 {
		follows(t, string([]byte{byte(a)}))
		for b := range 256 {
			follows(t, string([]byte{byte(a), byte(b)}))
			follows(t, "(."+string([]byte{byte(a), byte(b)})+")*")
		}
	}
	for _, s := range []string{`b(<61-63,^ff> {2,3})|"é"*(w(.*)|())`, `("a"|<^00-1f>.{0,255})*b(()*)`, "((.)*)*|w(b(.{1,2}){3,4})"} {
		for i := range len(s) {
			follows(t, s[:i])
			follows(t, s[i:])
			follows(t, s[:i]+s[i+1:])
			follows(t, s[:i]+s[i:i+1]+s[i:])
			for c := range 256 {
				follows(t, s[:i]+string([]byte{byte(c)})+s[i+1:])
			}
		}
	}
}

// P9.3: the texts of all descriptions of a few nodes: of right ones they are valid, and read as they were; of others they are ErrNull, at a star or a repeat.
func TestTextsOfDescs(t *testing.T) {
	leaves := []api.Desc{empty(), sample.Bytes(api.Class{5}), text("*(")}
	rights := 0
	for _, d := range sample.AllTo(5, leaves, [2]int{0, 0}, [2]int{0, 1}, [2]int{1, 1}, [2]int{2, 255}) {
		s := print.Text(d)
		if null.Right(d) {
			rights++
			hold(t, s, answer{d: d})
			continue
		}
		got, e, at := valid.Read(s)
		if got.Nodes != nil || e != api.ErrNull || at < 0 || at >= len(s) || s[at] != '*' && s[at] != '{' || valid.Is(s) {
			t.Fatalf("Read(%q) = %v, %d at %d", s, got, e, at)
		}
	}
	if rights < 1000 {
		t.Error(rights)
	}
}

// P9.3: right descriptions of all bounds that may be, of all rows of bytes, and as deep as may be.
func TestTextsOfRightDescs(t *testing.T) {
	for lo := range api.MaxTimes + 1 {
		for hi := lo; hi <= api.MaxTimes; hi++ {
			d := rep(lo, hi, dot())
			hold(t, print.Text(d), answer{d: d})
		}
	}
	for c := range 256 {
		var class api.Class
		for k := c; k < 256; k++ {
			class[k/64] |= 1 << (k % 64)
			d := star(sample.Bytes(class))
			hold(t, print.Text(d), answer{d: d})
		}
	}
	for _, whole := range []api.Node{{Kind: api.Frame}, {Kind: api.Wide}, {Kind: api.Seq}} {
		for _, steps := range []int{api.MaxDepth - 1, api.MaxDepth, api.MaxDepth + 1, api.MaxDepth + 2} {
			d := sample.Chain(steps, api.Node{Kind: api.Empty}, whole)
			if deep := print.Deep(d); deep <= api.MaxDepth {
				hold(t, print.Text(d), answer{d: d})
			} else if _, e, _ := valid.Read(print.Text(d)); e != api.ErrDeep {
				t.Errorf("%d deep: %d", deep, e)
			}
		}
	}
}

// What is answered is new memory: two answers share none, and the Texts share none with the text.
func TestAnswersAnew(t *testing.T) {
	s := strings.Clone(`"abc"*b("d"|"abc")`)
	first, _, _ := valid.Read(s)
	was := slices.Clone(first.Nodes)
	second, _, _ := valid.Read(s)
	held := map[*byte]bool{}
	for i := range len(s) {
		held[unsafe.StringData(s[i:])] = true
	}
	for _, n := range slices.Concat(first.Nodes, second.Nodes) {
		if n.Text == "" {
			continue
		}
		if p := unsafe.StringData(n.Text); held[p] {
			t.Errorf("the Text %q is of old memory", n.Text)
		} else {
			held[p] = true
		}
	}
	clear(second.Nodes[:cap(second.Nodes)])
	if !slices.Equal(first.Nodes, was) {
		t.Error("two answers share their nodes")
	}
	hold(t, s, answer{d: first})
}
