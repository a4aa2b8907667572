package parse_test

import (
	"slices"
	"strings"
	"testing"
	"unsafe"

	"scantling/api"
	"scantling/node"
	"scantling/parse"
)

// letters are what the tests write for the kinds of tokens 1 to 9: t is a text, r a repeat.
const letters = ".t()|*rbw"

// mixed is the row of the letters' tokens, and a TkEnd. What a token holds tells it from those near it.
func mixed(s string) []api.Token {
	var list []api.Token
	for i := range len(s) {
		t := api.Token{Kind: strings.IndexByte(letters, s[i]) + 1, At: 7*i + 3}
		switch t.Kind {
		case api.TkBytes:
			t.Class = api.Class{uint64(i), 1, 0, 1 << 63}
		case api.TkText:
			t.Text = strings.Repeat("\u00e9", i%5+1)
		case api.TkRepeat:
			t.Lo, t.Hi = i%100, i%100+i%7
		}
		list = append(list, t)
	}
	return append(list, api.Token{Kind: api.TkEnd, At: 7*len(s) + 3})
}

// Symbols of the grammar that aren't tokens.
const (
	symWhole = -1 - iota
	symOr
	symRow
	symPost
	symAtom
)

// rule is what a symbol may be.
type rule struct {
	symbol int
	is     []int
}

// grammar is the chapter's grammar, word for word; a whole row is an or, and a TkEnd.
var grammar = []rule{
	{symWhole, []int{symOr, api.TkEnd}},
	{symOr, []int{symRow}},
	{symOr, []int{symOr, api.TkOr, symRow}},
	{symRow, []int{symPost}},
	{symRow, []int{symRow, symPost}},
	{symPost, []int{symAtom}},
	{symPost, []int{symPost, api.TkStar}},
	{symPost, []int{symPost, api.TkRepeat}},
	{symAtom, []int{api.TkBytes}},
	{symAtom, []int{api.TkText}},
	{symAtom, []int{api.TkOpen, api.TkClose}},
	{symAtom, []int{api.TkOpen, symOr, api.TkClose}},
	{symAtom, []int{api.TkFrame, api.TkOpen, api.TkClose}},
	{symAtom, []int{api.TkFrame, api.TkOpen, symOr, api.TkClose}},
	{symAtom, []int{api.TkWide, api.TkOpen, api.TkClose}},
	{symAtom, []int{api.TkWide, api.TkOpen, symOr, api.TkClose}},
}

// partly is a rule of which some is read, and behind how many tokens that began.
type partly struct{ rule, done, from int }

// wanted is the symbol that comes next; 0, if all is read.
func (p partly) wanted() int {
	if is := grammar[p.rule].is; p.done < len(is) {
		return is[p.done]
	}
	return 0
}

// filled is the set with all that follows: rules of what is wanted, and those of which a part is read.
func filled(sets [][]partly, set []partly) []partly {
	add := func(p partly) {
		if !slices.Contains(set, p) {
			set = append(set, p)
		}
	}
	for i := 0; i < len(set); i++ {
		p := set[i]
		if p.wanted() != 0 {
			for k, r := range grammar {
				if r.symbol == p.wanted() {
					add(partly{k, 0, len(sets)})
				}
			}
			continue
		}
		for _, q := range sets[p.from] {
			if q.wanted() == grammar[p.rule].symbol {
				add(partly{q.rule, q.done + 1, q.from})
			}
		}
	}
	return set
}

// begun are the sets ahead of all tokens.
func begun() [][]partly {
	return [][]partly{filled(nil, []partly{{0, 0, 0}})}
}

// goOn are the sets and the one behind one token more; none, if no row of the grammar goes on with it.
func goOn(sets [][]partly, kind int) [][]partly {
	var set []partly
	for _, p := range sets[len(sets)-1] {
		if p.wanted() == kind {
			set = append(set, partly{p.rule, p.done + 1, p.from})
		}
	}
	if set == nil {
		return nil
	}
	return append(slices.Clip(sets), filled(sets, set))
}

// modelFault is the number of the first token with which no row of the grammar goes on; how many there are, if there is none.
func modelFault(l []api.Token) int {
	sets := begun()
	for i, t := range l {
		if sets = goOn(sets, t.Kind); sets == nil {
			return i
		}
	}
	return len(l)
}

// cut are the tokens that stand within no TkOpen and its TkClose, by their numbers.
func cut(l []api.Token) []int {
	var list []int
	depth := 0
	for i, t := range l {
		if t.Kind == api.TkClose {
			depth--
		}
		if depth == 0 && t.Kind != api.TkClose {
			list = append(list, i)
		}
		if t.Kind == api.TkOpen {
			depth++
		}
	}
	return list
}

// modelOr is the description of an or's tokens, and the places of its nodes' tokens.
func modelOr(l []api.Token) (api.Desc, []int) {
	outer := cut(l)
	slices.Reverse(outer)
	for _, i := range outer {
		if l[i].Kind == api.TkOr {
			a, ats := modelOr(l[:i])
			b, more := modelRow(l[i+1:])
			return node.Pair(api.Or, a, b), slices.Concat(ats, more, []int{-1})
		}
	}
	return modelRow(l)
}

// modelRow is the same of a row's tokens.
func modelRow(l []api.Token) (api.Desc, []int) {
	outer := cut(l)
	slices.Reverse(outer)
	for _, i := range outer {
		behindFrame := i > 0 && (l[i-1].Kind == api.TkFrame || l[i-1].Kind == api.TkWide)
		if i == 0 || l[i].Kind == api.TkStar || l[i].Kind == api.TkRepeat || behindFrame {
			continue
		}
		a, ats := modelRow(l[:i])
		b, more := modelPost(l[i:])
		return node.Pair(api.Seq, a, b), slices.Concat(ats, more, []int{-1})
	}
	return modelPost(l)
}

// modelPost is the same of a post's tokens.
func modelPost(l []api.Token) (api.Desc, []int) {
	switch last := l[len(l)-1]; last.Kind {
	case api.TkStar:
		a, ats := modelPost(l[:len(l)-1])
		return node.Wrap(api.Star, 0, 0, a), append(ats, last.At)
	case api.TkRepeat:
		a, ats := modelPost(l[:len(l)-1])
		return node.Wrap(api.Rep, last.Lo, last.Hi, a), append(ats, last.At)
	}
	return modelAtom(l)
}

// modelAtom is the same of an atom's tokens.
func modelAtom(l []api.Token) (api.Desc, []int) {
	switch l[0].Kind {
	case api.TkBytes:
		return node.Leaf(api.Node{Kind: api.Bytes, Class: l[0].Class}), []int{-1}
	case api.TkText:
		return node.Leaf(api.Node{Kind: api.Text, Text: l[0].Text}), []int{-1}
	case api.TkFrame:
		a, ats := modelAtom(l[1:])
		return node.Wrap(api.Frame, 0, 0, a), append(ats, -1)
	case api.TkWide:
		a, ats := modelAtom(l[1:])
		return node.Wrap(api.Wide, 0, 0, a), append(ats, -1)
	}
	if len(l) == 2 {
		return node.Leaf(api.Node{Kind: api.Empty}), []int{-1}
	}
	return modelOr(l[1 : len(l)-1])
}

// answer is what Parse answers.
type answer struct {
	d   api.Desc
	ats []int
	e   api.Errno
	at  int
}

func parsed(l []api.Token) answer {
	d, ats, e, at := parse.Parse(l)
	return answer{d, ats, e, at}
}

// model is what Parse is to answer by the chapter's words, where the token of that number is the fault, if it is one of them.
func model(l []api.Token, fault int) answer {
	var open []int
	for _, t := range l[:fault] {
		switch t.Kind {
		case api.TkOpen:
			open = append(open, t.At)
			if len(open) == 65 {
				return answer{e: api.ErrDeep, at: t.At}
			}
		case api.TkClose:
			open = open[:len(open)-1]
		}
	}
	if fault < len(l) {
		if l[fault].Kind == api.TkEnd && len(open) > 0 {
			return answer{e: api.ErrOpen, at: open[len(open)-1]}
		}
		return answer{e: api.ErrWant, at: l[fault].At}
	}
	d, ats := modelOr(l[:len(l)-1])
	if len(d.Nodes) > 4096 {
		return answer{e: api.ErrMany, at: l[len(l)-1].At}
	}
	return answer{d: d, ats: ats}
}

// same tells whether the answers are the same.
func (a answer) same(b answer) bool {
	return slices.Equal(a.d.Nodes, b.d.Nodes) && slices.Equal(a.ats, b.ats) && a.e == b.e && a.at == b.at
}

// hold holds what Parse answers against the model.
func hold(t *testing.T, s string, l []api.Token, fault int) {
	t.Helper()
	got, want := parsed(l), model(l, fault)
	if !got.same(want) {
		t.Fatalf("Parse(%q) = %v, want %v", s, got, want)
	}
	if got.e == api.OK && (!node.Form(got.d) || len(got.ats) != len(got.d.Nodes)) {
		t.Fatalf("Parse(%q) = %v: its form, or its places", s, got)
	}
}

// againstModel does so for the row of those letters.
func againstModel(t *testing.T, s string) {
	t.Helper()
	l := mixed(s)
	hold(t, s, l, modelFault(l))
}

// samples are rows of the grammar that have much in them.
func samples() []string {
	return []string{
		".", "t", "()", "b()", "w()", "b(.)", "w(t)", "(.)", "((.))", "(())",
		"..", "...", "....", ".|.", ".|.|.", ".|.|.|.", "..|..", "..|...|.",
		".*", ".r", ".*r", ".r*", ".**", ".rr*r", "()*", "(.)r", "b(.)*", "w()r*",
		".(.)", "(.).", "(.)(.)", ".(..)", "(..).", ".(.|.)", "(.|.).", ".|(.|.)", "(.|.)|.",
		"b(.)b(.)", "b(w(.))", "b((.))", "(b(.))", "b(.|t)*w(.r|())", "b(w(b(w(()))))",
		"t(.|b(.r))*|w()", ".*.*|.r.r|b(.*|t.)*t", "(.|(.|(.|(.|.)*)*)*)*", "((((.|.)|.)|.)|.)",
		"(.(.(.(.).).).)r", "()()()", "()|()|()", "b(t.*(t|.)r)w((.)*(t))*|()*r|b()",
	}
}

// P5.1, P5.3: each row of a few tokens, what no row of the grammar goes on with with all that may stand behind it.
func TestParseRows(t *testing.T) {
	tails := []string{"", ")", "*", ".)|", "((((", strings.Repeat("(", 70)}
	var from func(s string, sets [][]partly)
	from = func(s string, sets [][]partly) {
		l := mixed(s)
		if goOn(sets, api.TkEnd) == nil {
			hold(t, s, l, len(s))
		} else {
			hold(t, s, l, len(l))
		}
		if len(s) == 6 {
			return
		}
		for i := range len(letters) {
			next := s + letters[i:i+1]
			if more := goOn(sets, i+1); more != nil {
				from(next, more)
				continue
			}
			for _, tail := range tails {
				hold(t, next+tail, mixed(next+tail), len(s))
			}
		}
	}
	from("", begun())
}

// P5.1: longer rows, and those that are cut off, lack a token, have one twice, or another one, or one more.
func TestParseMarredRows(t *testing.T) {
	for _, s := range samples() {
		if l := mixed(s); modelFault(l) != len(l) {
			t.Fatalf("%q is no sample", s)
		}
		againstModel(t, s)
		for i := range len(s) {
			againstModel(t, s[:i])
			againstModel(t, s[:i]+s[i+1:])
			againstModel(t, s[:i]+s[i:i+1]+s[i:])
			for k := range len(letters) {
				againstModel(t, s[:i]+letters[k:k+1]+s[i+1:])
				againstModel(t, s[:i]+letters[k:k+1]+s[i:])
			}
		}
		for _, x := range samples() {
			againstModel(t, s+x)
			againstModel(t, s+"|"+x)
			againstModel(t, "b("+s+")*("+x+")r")
		}
	}
}

// P5.1: the nodes and the places, written out.
func TestParseWrittenOut(t *testing.T) {
	class := api.Class{0, 2, 0, 8}
	dot, text := api.Node{Kind: api.Bytes, Class: class}, api.Node{Kind: api.Text, Text: "ab"}
	tkDot, tkText := api.Token{Kind: api.TkBytes, Class: class}, api.Token{Kind: api.TkText, Text: "ab"}
	kind := func(k int) api.Token { return api.Token{Kind: k} }
	for i, x := range []struct {
		tokens []api.Token
		nodes  []api.Node
		ats    []int
	}{
		{[]api.Token{tkDot}, []api.Node{dot}, []int{-1}},
		{[]api.Token{tkText}, []api.Node{text}, []int{-1}},
		{[]api.Token{kind(3), kind(4)}, []api.Node{{Kind: 1}}, []int{-1}},
		{[]api.Token{kind(3), tkDot, kind(4)}, []api.Node{dot}, []int{-1}},
		{[]api.Token{kind(8), kind(3), kind(4)}, []api.Node{{Kind: 1}, {Kind: 8}}, []int{-1, -1}},
		{[]api.Token{kind(9), kind(3), tkText, kind(4)}, []api.Node{text, {Kind: 9}}, []int{-1, -1}},
		{[]api.Token{tkDot, kind(6)}, []api.Node{dot, {Kind: 6}}, []int{-1, 11}},
		{[]api.Token{tkDot, {Kind: 7, Lo: 3, Hi: 255}, {Kind: 7}}, []api.Node{dot, {Kind: 7, Lo: 3, Hi: 255}, {Kind: 7, A: 1}}, []int{-1, 11, 12}},
		{[]api.Token{tkDot, tkText}, []api.Node{dot, text, {Kind: 4, B: 1}}, []int{-1, -1, -1}},
		{[]api.Token{tkDot, tkText, tkDot}, []api.Node{dot, text, {Kind: 4, B: 1}, dot, {Kind: 4, A: 2, B: 3}}, []int{-1, -1, -1, -1, -1}},
		{[]api.Token{tkDot, kind(5), tkText, kind(5), tkDot}, []api.Node{dot, text, {Kind: 5, B: 1}, dot, {Kind: 5, A: 2, B: 3}}, []int{-1, -1, -1, -1, -1}},
		{[]api.Token{tkDot, kind(5), tkText, kind(6), tkDot}, []api.Node{dot, text, {Kind: 6, A: 1}, dot, {Kind: 4, A: 2, B: 3}, {Kind: 5, B: 4}}, []int{-1, -1, 13, -1, -1, -1}},
		{[]api.Token{tkDot, kind(3), tkText, kind(5), tkDot, kind(4), kind(6)}, []api.Node{dot, text, dot, {Kind: 5, A: 1, B: 2}, {Kind: 6, A: 3}, {Kind: 4, B: 4}}, []int{-1, -1, -1, -1, 16, -1}},
	} {
		for k := range x.tokens {
			x.tokens[k].At = 10 + k
		}
		l := append(x.tokens, api.Token{Kind: api.TkEnd, At: 99})
		if got := parsed(l); !got.same(answer{d: api.Desc{Nodes: x.nodes}, ats: x.ats}) {
			t.Errorf("%d: %v", i, got)
		}
	}
}

// P5.1: faults and their places, written out: each token's place is its number among the letters.
func TestParseFaultsWrittenOut(t *testing.T) {
	for _, x := range []struct {
		s  string
		e  api.Errno
		at int
	}{
		{"", api.ErrWant, 0},
		{"|", api.ErrWant, 0},
		{"*", api.ErrWant, 0},
		{"r", api.ErrWant, 0},
		{")", api.ErrWant, 0},
		{".)", api.ErrWant, 1},
		{"(.))", api.ErrWant, 3},
		{".|", api.ErrWant, 2},
		{".||.", api.ErrWant, 2},
		{".|*", api.ErrWant, 2},
		{".|)", api.ErrWant, 2},
		{"(|", api.ErrWant, 1},
		{"(*", api.ErrWant, 1},
		{"(.|)", api.ErrWant, 3},
		{"b", api.ErrWant, 1},
		{"w", api.ErrWant, 1},
		{"b.", api.ErrWant, 1},
		{"wt)", api.ErrWant, 1},
		{"bb()", api.ErrWant, 1},
		{"b*", api.ErrWant, 1},
		{"(b)", api.ErrWant, 2},
		{"((", api.ErrOpen, 1},
		{"(", api.ErrOpen, 0},
		{"(.", api.ErrOpen, 0},
		{"(.|", api.ErrOpen, 0},
		{"(b", api.ErrOpen, 0},
		{"b(", api.ErrOpen, 1},
		{"(.(.)", api.ErrOpen, 0},
		{"(()(.)", api.ErrOpen, 0},
		{"()(()(", api.ErrOpen, 5},
		{"()()w(.*", api.ErrOpen, 5},
		{"(.)b(.|(.)", api.ErrOpen, 4},
	} {
		l := mixed(x.s)
		for i := range l {
			l[i].At = i
		}
		if got := parsed(l); !got.same(answer{e: x.e, at: x.at}) {
			t.Errorf("Parse(%q) = %v, want %d at %d", x.s, got, x.e, x.at)
		}
	}
}

// P5.1: the places are the tokens' own, whatever they are, also where they don't rise.
func TestParsePlaces(t *testing.T) {
	for _, s := range append(samples(), "(", "b(.", "", ".||", "b", strings.Repeat("(", 65)) {
		l := mixed(s)
		for i := range l {
			l[i].At = -1000 * i
		}
		hold(t, s, l, modelFault(l))
		for i := range l {
			l[i].At = 0
		}
		hold(t, s, l, modelFault(l))
	}
}

// P5.1: fields that a token's kind hasn't say nothing.
func TestParseOtherFields(t *testing.T) {
	for _, s := range samples() {
		l := mixed(s)
		want := parsed(l)
		for i := range l {
			k := l[i].Kind
			if k != api.TkBytes {
				l[i].Class = api.Class{1, 2, 3, 4}
			}
			if k != api.TkText {
				l[i].Text = "other"
			}
			if k != api.TkRepeat {
				l[i].Lo, l[i].Hi = 5, 6
			}
		}
		if got := parsed(l); got.e != api.OK || !got.same(want) {
			t.Errorf("Parse(%q) = %v, want %v", s, got, want)
		}
	}
}

// P5.1: bounds from 0 0 to 255 255, and classes of no bytes and of all.
func TestParseBounds(t *testing.T) {
	for lo := range 256 {
		for hi := lo; hi < 256; hi++ {
			l := mixed(".r")
			l[1].Lo, l[1].Hi = lo, hi
			hold(t, ".r", l, 3)
		}
	}
	for _, class := range []api.Class{{}, {1<<64 - 1, 1<<64 - 1, 1<<64 - 1, 1<<64 - 1}} {
		l := mixed(".")
		l[0].Class = class
		hold(t, ".", l, 2)
	}
}

// opens are letters with which just one more is open, and what closes it.
var opens = [][2]string{{"(", ")"}, {"b(", ")"}, {"w(", ")"}, {".(", ")"}, {".|(", ")*"}, {"()(", ").|."}, {"(.)*|b(", ")r"}, {"(()b(w()))(", ")()"}}

// P5.1: how deep a row may be, and ErrDeep ahead of other faults, and behind them.
func TestParseDeepRows(t *testing.T) {
	for _, x := range opens {
		for _, n := range []int{1, 63, 64, 65, 66, 130} {
			ahead, behind := strings.Repeat(x[0], n), strings.Repeat(x[1], n)
			for _, inside := range []string{"", ".", "|", "b", ")", "*", "()", "(())", ".)(("} {
				againstModel(t, ahead+inside+behind)
				againstModel(t, ".)"+ahead+inside+behind)
				againstModel(t, ahead+inside)
			}
		}
	}
	for _, x := range []struct {
		s  string
		e  api.Errno
		at int
	}{
		{strings.Repeat("(", 64) + "." + strings.Repeat(")", 64), api.OK, 0},
		{strings.Repeat("(", 64) + strings.Repeat(")", 64), api.OK, 0},
		{strings.Repeat("(", 64), api.ErrOpen, 7*63 + 3},
		{strings.Repeat("(", 65), api.ErrDeep, 7*64 + 3},
		{strings.Repeat("(", 65) + "|", api.ErrDeep, 7*64 + 3},
		{strings.Repeat("(", 64) + "|(", api.ErrWant, 7*64 + 3},
		{strings.Repeat("(", 64) + "b.(", api.ErrWant, 7*65 + 3},
		{strings.Repeat("(", 64) + "b(", api.ErrDeep, 7*65 + 3},
		{strings.Repeat("(", 64) + "()", api.ErrDeep, 7*64 + 3},
		{strings.Repeat("(", 64) + ")(", api.ErrOpen, 7*65 + 3},
		{strings.Repeat("(", 64) + ")((", api.ErrDeep, 7*66 + 3},
		{"*" + strings.Repeat("(", 65), api.ErrWant, 3},
	} {
		if got := parsed(mixed(x.s)); got.e != x.e || got.at != x.at {
			t.Errorf("Parse(%q) = %v, want %d at %d", x.s, got, x.e, x.at)
		}
	}
	if got := parsed(mixed(strings.Repeat("(", 1<<18))); !got.same(answer{e: api.ErrDeep, at: 7*64 + 3}) {
		t.Error(got)
	}
}

// P5.1: how many nodes there may be, of all kinds, and faults ahead of too many.
func TestParseManyNodes(t *testing.T) {
	dots := strings.Repeat(".", 2048) // 4095 nodes
	texts := strings.Repeat("t|", 2047) + "t"
	empties := strings.Repeat("()", 2048)
	frames := strings.Repeat("b(.)", 1365) // 4094 nodes
	for _, x := range []struct {
		s     string
		nodes int
	}{
		{dots, 4095},
		{dots + "*", 4096},
		{dots + "**", 4097},
		{dots + ".", 4097},
		{texts, 4095},
		{texts + "r", 4096},
		{texts + "|t", 4097},
		{empties, 4095},
		{"(" + empties + ")*", 4096},
		{empties + "()", 4097},
		{frames + "*", 4095},
		{frames + ".", 4096},
		{frames + "..", 4098},
		{"w(" + dots + ")", 4096},
		{"w(" + dots + ")*", 4097},
		{strings.Repeat("(", 64) + dots + "*" + strings.Repeat(")", 64), 4096},
		{"." + strings.Repeat("*", 4095), 4096},
		{"." + strings.Repeat("*", 4096), 4097},
		{"()" + strings.Repeat("r", 4095), 4096},
		{"()" + strings.Repeat("r", 4096), 4097},
		{strings.Repeat("*", 2048), 0},
	} {
		l := mixed(x.s)
		got := parsed(l)
		switch {
		case x.nodes == 0:
			if !got.same(answer{e: api.ErrWant, at: 3}) {
				t.Error(got.e, got.at)
			}
		case x.nodes > 4096:
			if !got.same(answer{e: api.ErrMany, at: 7*len(x.s) + 3}) {
				t.Errorf("%d nodes: %d at %d", x.nodes, got.e, got.at)
			}
		case got.e != api.OK || len(got.d.Nodes) != x.nodes || !node.Form(got.d):
			t.Errorf("%d nodes: %d at %d, %d nodes", x.nodes, got.e, got.at, len(got.d.Nodes))
		}
	}
	for _, s := range []string{dots, texts, empties, frames} {
		l := mixed(s)
		hold(t, s[:10], l, len(l))
	}
	for _, tail := range []string{")", "|", "b", "(", "(.", "()(.|b(", strings.Repeat("(", 64) + ")", strings.Repeat("(", 65)} {
		s := dots + dots + tail
		got, short := parsed(mixed(s)), parsed(mixed("."+tail))
		if got.e != short.e || got.at != short.at+7*(2*len(dots)-1) || len(got.d.Nodes)+len(got.ats) > 0 {
			t.Errorf("too many nodes, and %q: %d at %d, want as %d at %d", tail, got.e, got.at, short.e, short.at)
		}
	}
}

// P5.1: rows that are much longer than a description's nodes, and a long text that stands in many wholes: none takes long.
func TestParseLongRows(t *testing.T) {
	const n = 1 << 18
	for _, s := range []string{strings.Repeat(".", n), "." + strings.Repeat("*", n), strings.Repeat(".|", n) + ".", strings.Repeat("b(t)r", n)} {
		if got := parsed(mixed(s)); !got.same(answer{e: api.ErrMany, at: 7*len(s) + 3}) {
			t.Errorf("%q and so on: %d at %d", s[:10], got.e, got.at)
		}
		if got := parsed(mixed(s + "b")); !got.same(answer{e: api.ErrWant, at: 7*len(s) + 10}) {
			t.Errorf("%q and so on, and b: %d at %d", s[:10], got.e, got.at)
		}
	}
	l := mixed("t" + strings.Repeat("*", 4095))
	l[0].Text = strings.Repeat("a", 1<<24)
	if got := parsed(l); got.e != api.OK || len(got.d.Nodes) != 4096 || got.d.Nodes[0].Text != l[0].Text {
		t.Error(got.e, got.at)
	}
}

// modelDeep is what Deep is to answer by the chapter's words.
func modelDeep(l []api.Token) (int, bool) {
	depth := 0
	for _, t := range l {
		if t.Kind == api.TkOpen {
			depth++
			if depth == 65 {
				return t.At, true
			}
		} else if t.Kind == api.TkClose && depth > 0 {
			depth--
		}
	}
	return 0, false
}

// P5.2: Deep, of any tokens: with a TkEnd or without one, or with some, of kinds that there aren't, at places that don't rise.
func TestDeep(t *testing.T) {
	check := func(s string) {
		t.Helper()
		l := mixed(s)
		other := mixed(s)
		for i := range other {
			other[i].At = -5 * i
			if other[i].Kind != api.TkOpen && other[i].Kind != api.TkClose {
				other[i].Kind = []int{api.TkEnd, 0, -1, 11, 3 + 1<<32, 1 << 62}[i%6]
			}
		}
		for _, l := range [][]api.Token{l, l[:len(l)-1], other} {
			at, ok := parse.Deep(l)
			if want, is := modelDeep(l); at != want || ok != is {
				t.Fatalf("Deep(%q) = %d, %v, want %d, %v", s, at, ok, want, is)
			}
		}
	}
	check("")
	for _, s := range samples() {
		check(s)
	}
	for _, x := range opens {
		for _, n := range []int{1, 63, 64, 65, 66, 130} {
			ahead, behind := strings.Repeat(x[0], n), strings.Repeat(x[1], n)
			for _, y := range []string{"", ")", "))))", ".", ")(", ")((", strings.Repeat("()", 70), strings.Repeat(")", 70) + strings.Repeat("(", 65)} {
				check(ahead + y + behind)
				check(y + ahead + behind)
				check(")))" + ahead + y + ahead + behind + behind)
			}
		}
	}
}

// P5.2: Deep, written out.
func TestDeepWrittenOut(t *testing.T) {
	for _, x := range []struct {
		s  string
		at int
		ok bool
	}{
		{"", 0, false},
		{"(", 0, false},
		{strings.Repeat("(", 64), 0, false},
		{strings.Repeat("(", 65), 7*64 + 3, true},
		{strings.Repeat("(", 66), 7*64 + 3, true},
		{strings.Repeat(")", 9) + strings.Repeat("(", 64), 0, false},
		{strings.Repeat(")", 9) + strings.Repeat("(", 65), 7*(9+64) + 3, true},
		{strings.Repeat("(", 64) + ")(", 0, false},
		{strings.Repeat("(", 64) + ")((", 7*66 + 3, true},
		{strings.Repeat("()", 100), 0, false},
		{"*|b.)" + strings.Repeat("b(", 65), 7*(5+129) + 3, true},
	} {
		if at, ok := parse.Deep(mixed(x.s)); at != x.at || ok != x.ok {
			t.Errorf("Deep(%q) = %d, %v, want %d, %v", x.s, at, ok, x.at, x.ok)
		}
	}
	if at, ok := parse.Deep(nil); at != 0 || ok {
		t.Error(at, ok)
	}
}

// P5.1, P5.2: the first one that is too deep is one for both, if there is no fault ahead of it.
func TestDeepAsParse(t *testing.T) {
	for _, x := range opens {
		for n := range 140 {
			l := mixed(strings.Repeat(x[0], n) + strings.Repeat(x[1], n))
			got := parsed(l)
			if at, ok := parse.Deep(l); ok != (got.e == api.ErrDeep) || ok && at != got.at {
				t.Errorf("%d of %q: Deep answers %d, %v, and Parse %d at %d", n, x[0], at, ok, got.e, got.at)
			}
		}
	}
}

// reading is a row of the grammar, and what the grammar makes of it, written in full.
type reading struct{ row, full string }

// maker keeps, of symbols and lengths, all that the grammar makes of them.
type maker map[[2]int][]reading

// of is all that the grammar makes of the symbol with n tokens.
func (m maker) of(symbol, n int) []reading {
	if symbol > 0 {
		if n != 1 {
			return nil
		}
		s := letters[symbol-1 : symbol]
		return []reading{{s, s}}
	}
	key := [2]int{symbol, n}
	list, ok := m[key]
	if ok {
		return list
	}
	for _, r := range grammar {
		if r.symbol == symbol {
			for _, x := range m.each(r.is, n) {
				list = append(list, whole(r.is, x))
			}
		}
	}
	m[key] = list
	return list
}

// each is all that the grammar makes of the symbols, one behind the other, with n tokens.
func (m maker) each(is []int, n int) [][]reading {
	if len(is) == 0 {
		if n != 0 {
			return nil
		}
		return [][]reading{nil}
	}
	var list [][]reading
	for k := 1; k+len(is)-1 <= n; k++ {
		behind := m.each(is[1:], n-k)
		for _, x := range m.of(is[0], k) {
			for _, y := range behind {
				list = append(list, slices.Concat([]reading{x}, y))
			}
		}
	}
	return list
}

// whole is what a rule makes of its symbols' readings: two parts stand in [ and ], and a TkOpen and a TkClose around a part aren't written.
func whole(is []int, list []reading) reading {
	var x reading
	parts := 0
	for i, y := range list {
		x.row += y.row
		if is[i] < 0 {
			parts++
		}
		if !slices.Contains(is, symOr) || is[i] != api.TkOpen && is[i] != api.TkClose {
			x.full += y.full
		}
	}
	if parts == 2 {
		x.full = "[" + x.full + "]"
	}
	return x
}

// P5.3: all rows of the grammar of a few tokens: the grammar makes each in one way alone, and it is parsed to what that says.
func TestParseWhatTheGrammarMakes(t *testing.T) {
	m := maker{}
	seen := map[string]bool{}
	for n := 1; n <= 7; n++ {
		for _, x := range m.of(symOr, n) {
			got := parsed(mixed(x.row))
			if seen[x.row] || got.e != api.OK || !node.Form(got.d) || x.full != spelled(got.d, len(got.d.Nodes)-1) {
				t.Fatalf("%q: %v, want %s", x.row, got, x.full)
			}
			seen[x.row] = true
		}
	}
	if !seen["b(.|t*)"] || !seen["()rw(.)"] || seen["b."] || seen["(."] {
		t.Fatal("the grammar's rows aren't made")
	}
}

// spelled is the node i, written in full.
func spelled(d api.Desc, i int) string {
	n := d.Nodes[i]
	switch n.Kind {
	case api.Empty:
		return "()"
	case api.Bytes:
		return "."
	case api.Text:
		return "t"
	case api.Seq:
		return "[" + spelled(d, n.A) + spelled(d, n.B) + "]"
	case api.Or:
		return "[" + spelled(d, n.A) + "|" + spelled(d, n.B) + "]"
	case api.Star:
		return spelled(d, n.A) + "*"
	case api.Rep:
		return spelled(d, n.A) + "r"
	case api.Frame:
		return "b" + spelled(d, n.A)
	}
	return "w" + spelled(d, n.A)
}

// handed is the row of the letters, with tokens in the room behind it.
func handed(s string) ([]api.Token, []api.Token) {
	whole := append(mixed(s), mixed("(t|.")...)
	return whole[:len(s)+1], whole
}

// P5.4: what is handed in stays, the room behind it included.
func TestHandedInStays(t *testing.T) {
	for _, s := range append(samples(), "", "(", ".)", "b(.|", strings.Repeat("(", 70), strings.Repeat(".", 3000)) {
		l, whole := handed(s)
		was := slices.Clone(whole)
		parse.Parse(l)
		parse.Deep(l)
		if !slices.Equal(whole, was) {
			t.Errorf("%q is changed to %v", s, whole)
		}
	}
}

// P5.4: what is answered is new memory: an answer written over, the tokens and other answers are as ever; the tokens written over, answers are.
func TestAnswersAnew(t *testing.T) {
	for _, s := range samples() {
		l, whole := handed(s)
		was, want := slices.Clone(whole), parsed(mixed(s))
		first, second := parsed(l), parsed(l)
		clear(first.d.Nodes[:cap(first.d.Nodes)])
		clear(first.ats[:cap(first.ats)])
		if !slices.Equal(whole, was) || !second.same(want) || !parsed(l).same(want) {
			t.Errorf("%q: an answer shares memory", s)
		}
		clear(whole)
		if !second.same(want) {
			t.Errorf("%q: an answer shares memory with the tokens", s)
		}
	}
}

// P5.4: Texts are new memory too, also where two tokens share one.
func TestTextsAnew(t *testing.T) {
	text := strings.Repeat("ab", 3)
	l := mixed("t(t|t)")
	for i := range l {
		if l[i].Kind == api.TkText {
			l[i].Text = text
		}
	}
	places := map[*byte]bool{unsafe.StringData(text): true}
	for _, x := range []answer{parsed(l), parsed(l)} {
		for _, n := range x.d.Nodes {
			if n.Kind != api.Text {
				continue
			}
			if p := unsafe.StringData(n.Text); n.Text != text || places[p] {
				t.Errorf("a Text of old memory, or another one: %q", n.Text)
			} else {
				places[p] = true
			}
		}
	}
}

// Rows of which nothing is promised, without a TkEnd, with some, of kinds that there aren't: Parse ends, without a panic, and answers nothing beside an error.
func TestParseOfNoRows(t *testing.T) {
	var list []api.Token
	var from func(n int)
	from = func(n int) {
		if got := parsed(list); got.e != api.OK && len(got.d.Nodes)+len(got.ats) > 0 {
			t.Fatalf("Parse(%v) = %v", list, got)
		}
		if n == 0 {
			return
		}
		for kind := -1; kind <= 11; kind++ {
			list = append(list, api.Token{Kind: kind, At: -1, Text: "\xff", Lo: 300, Hi: -1})
			from(n - 1)
			list = list[:len(list)-1]
		}
	}
	from(4)
	parse.Parse(nil)
	parse.Parse([]api.Token{{Kind: 1 << 62}, {Kind: -1 << 63}})
}
