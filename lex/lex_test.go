package lex_test

import (
	"math/big"
	"regexp"
	"slices"
	"strings"
	"testing"
	"unicode/utf8"
	"unsafe"

	"scantling/api"
	"scantling/class"
	"scantling/lex"
)

var (
	none = api.Class{}
	all  = api.Class{1<<64 - 1, 1<<64 - 1, 1<<64 - 1, 1<<64 - 1}
)

// single are the tokens of one byte, with their Class, as the chapter lists them.
var single = map[byte]api.Token{
	'.': {Kind: 1, Class: all},
	'(': {Kind: 3},
	')': {Kind: 4},
	'|': {Kind: 5},
	'*': {Kind: 6},
	'b': {Kind: 8},
	'w': {Kind: 9},
}

// What the tests hold the package against: the chapter's words as regular expressions.
var (
	classForm  = regexp.MustCompile(`^<(\^?)((?:[0-9a-f]{2}(?:-[0-9a-f]{2})?(?:,[0-9a-f]{2}(?:-[0-9a-f]{2})?)*)?)>`)
	itemForm   = regexp.MustCompile(`([0-9a-f]{2})(?:-([0-9a-f]{2}))?`)
	textForm   = regexp.MustCompile(`^"([^"]+)"`)
	repeatForm = regexp.MustCompile(`^\{(0|[1-9][0-9]*),(0|[1-9][0-9]*)\}`)
)

// modelRead is what Read is to answer by the chapter's words.
func modelRead(text string) ([]api.Token, api.Errno, int) {
	var list []api.Token
	for at := 0; at < len(text); {
		if text[at] == 0x20 {
			at++
			continue
		}
		t, size, e := modelToken(text[at:])
		if e != api.OK {
			return nil, e, at
		}
		t.At = at
		list = append(list, t)
		at += size
	}
	return append(list, api.Token{Kind: 10, At: len(text)}), api.OK, 0
}

func modelToken(s string) (api.Token, int, api.Errno) {
	switch s[0] {
	case '<':
		return modelClass(s)
	case '"':
		m := textForm.FindStringSubmatch(s)
		if m == nil || !utf8.ValidString(m[1]) {
			return api.Token{}, 0, 3
		}
		return api.Token{Kind: 2, Text: m[1]}, len(m[0]), 0
	case '{':
		return modelRepeat(s)
	}
	if t, ok := single[s[0]]; ok {
		return t, 1, 0
	}
	return api.Token{}, 0, 1
}

func modelClass(s string) (api.Token, int, api.Errno) {
	m := classForm.FindStringSubmatch(s)
	if m == nil {
		return api.Token{}, 0, 2
	}
	var in [256]bool
	for _, item := range itemForm.FindAllStringSubmatch(m[2], -1) {
		if item[2] == "" {
			item[2] = item[1]
		}
		from, _ := new(big.Int).SetString(item[1], 16)
		to, _ := new(big.Int).SetString(item[2], 16)
		if from.Cmp(to) > 0 {
			return api.Token{}, 0, 2
		}
		for c := from.Int64(); c <= to.Int64(); c++ {
			in[c] = true
		}
	}
	t := api.Token{Kind: 1}
	for c := range 256 {
		if in[c] != (m[1] == "^") {
			t.Class[c/64] |= uint64(1) << (c % 64)
		}
	}
	return t, len(m[0]), 0
}

func modelRepeat(s string) (api.Token, int, api.Errno) {
	m := repeatForm.FindStringSubmatch(s)
	if m == nil {
		return api.Token{}, 0, 4
	}
	lo, _ := new(big.Int).SetString(m[1], 10)
	hi, _ := new(big.Int).SetString(m[2], 10)
	if hi.Cmp(big.NewInt(255)) > 0 || lo.Cmp(hi) > 0 {
		return api.Token{}, 0, 5
	}
	return api.Token{Kind: 7, Lo: int(lo.Int64()), Hi: int(hi.Int64())}, len(m[0]), 0
}

// againstModel reads the text, and holds what is answered against the model.
func againstModel(t *testing.T, text string) {
	t.Helper()
	got, e, at := lex.Read(text)
	want, wantE, wantAt := modelRead(text)
	if e != wantE || at != wantAt || !slices.Equal(got, want) {
		t.Fatalf("Read(%q) = %v, %d, %d, want %v, %d, %d", text, got, e, at, want, wantE, wantAt)
	}
}

// rows calls f with each row of no, or up to most of the pieces, one behind the other.
func rows(pieces []string, most int, f func(s string)) {
	f("")
	if most > 0 {
		for _, p := range pieces {
			rows(pieces, most-1, func(s string) { f(p + s) })
		}
	}
}

// samples are texts that are read: ordinary ones, and the edges.
func samples() []string {
	return []string{
		"",
		" ",
		"   ",
		".",
		" . ",
		"<>",
		"<^>",
		"<61>",
		"<00-ff>",
		"<^00-7f,ff>",
		`"a"`,
		`" "`,
		"\"\x00\n\"",
		"\"h\u00e9 \u20ac\U0001f600\ufffd\"",
		`"()|*<>{}bw."`,
		"{0,0}",
		"{255,255}",
		"()|*bw",
		` ( "a" | "ab" ) * `,
		"b(<00-7f,ff>{0,255}|\"h\u00e9\")* w .<^>",
		"w(b(.*)*){2,3}",
		strings.Repeat(`("ab"|.{2,30})*`, 1000),
		strings.Repeat(" ", 1000) + "." + strings.Repeat(" ", 1000),
	}
}

// P3.1: the tokens of each kind, written out, with bytes 20 between and without.
func TestReadTokens(t *testing.T) {
	for _, x := range []struct {
		text string
		want []api.Token
	}{
		{"", []api.Token{{Kind: api.TkEnd}}},
		{"  ", []api.Token{{Kind: api.TkEnd, At: 2}}},
		{".", []api.Token{{Kind: api.TkBytes, Class: all}, {Kind: api.TkEnd, At: 1}}},
		{"<>", []api.Token{{Kind: api.TkBytes, Class: none}, {Kind: api.TkEnd, At: 2}}},
		{`"ab"`, []api.Token{{Kind: api.TkText, Text: "ab"}, {Kind: api.TkEnd, At: 4}}},
		{"(", []api.Token{{Kind: api.TkOpen}, {Kind: api.TkEnd, At: 1}}},
		{")", []api.Token{{Kind: api.TkClose}, {Kind: api.TkEnd, At: 1}}},
		{"|", []api.Token{{Kind: api.TkOr}, {Kind: api.TkEnd, At: 1}}},
		{"*", []api.Token{{Kind: api.TkStar}, {Kind: api.TkEnd, At: 1}}},
		{"b", []api.Token{{Kind: api.TkFrame}, {Kind: api.TkEnd, At: 1}}},
		{"w", []api.Token{{Kind: api.TkWide}, {Kind: api.TkEnd, At: 1}}},
		{"{2,3}", []api.Token{{Kind: api.TkRepeat, Lo: 2, Hi: 3}, {Kind: api.TkEnd, At: 5}}},
		{"bw", []api.Token{{Kind: api.TkFrame}, {Kind: api.TkWide, At: 1}, {Kind: api.TkEnd, At: 2}}},
		{`<61>"a"{1,1}<>`, []api.Token{{Kind: api.TkBytes, Class: class.Of('a', 'a')}, {Kind: api.TkText, At: 4, Text: "a"}, {Kind: api.TkRepeat, At: 7, Lo: 1, Hi: 1}, {Kind: api.TkBytes, At: 12}, {Kind: api.TkEnd, At: 14}}},
		{" <61>  \"\u00e9\" * ", []api.Token{{Kind: api.TkBytes, At: 1, Class: class.Of('a', 'a')}, {Kind: api.TkText, At: 7, Text: "\u00e9"}, {Kind: api.TkStar, At: 12}, {Kind: api.TkEnd, At: 14}}},
		{`"a""b"`, []api.Token{{Kind: api.TkText, Text: "a"}, {Kind: api.TkText, At: 3, Text: "b"}, {Kind: api.TkEnd, At: 6}}},
	} {
		got, e, at := lex.Read(x.text)
		if e != api.OK || at != 0 || !slices.Equal(got, x.want) {
			t.Errorf("Read(%q) = %v, %d, %d, want %v", x.text, got, e, at, x.want)
		}
	}
}

// P3.1: the classes, written out.
func TestReadClasses(t *testing.T) {
	for text, want := range map[string]api.Class{
		"<>":               none,
		"<^>":              all,
		"<00>":             {1},
		"<ff>":             {0, 0, 0, 1 << 63},
		"<00-ff>":          all,
		"<^00-ff>":         none,
		"<00-00>":          {1},
		"<3f-40>":          {1 << 63, 1},
		"<7f-80,bf-c0>":    {0, 1 << 63, 1 | 1<<63, 1},
		"<0a,a0>":          {1 << 10, 0, 1 << 32},
		"<61-63>":          {0, 7 << 33},
		"<63,61,62>":       {0, 7 << 33},
		"<61,61>":          {0, 1 << 33},
		"<61-63,62-64,62>": {0, 15 << 33},
		"<^61>":            {1<<64 - 1, 1<<64 - 1 - 1<<33, 1<<64 - 1, 1<<64 - 1},
		"<^00,fe-ff>":      {1<<64 - 2, 1<<64 - 1, 1<<64 - 1, 1<<62 - 1},
	} {
		got, e, at := lex.Read(text)
		if e != api.OK || at != 0 || !slices.Equal(got, []api.Token{{Kind: api.TkBytes, Class: want}, {Kind: api.TkEnd, At: len(text)}}) {
			t.Errorf("Read(%q) = %x, %d, %d, want %x", text, got, e, at, want)
		}
	}
}

// P3.1: a byte of a class, and two of them, at all there are.
func TestReadEachByteOfAClass(t *testing.T) {
	const digits = "0123456789abcdef"
	name := func(c int) string { return digits[c/16:c/16+1] + digits[c%16:c%16+1] }
	for from := range 256 {
		got, e, at := lex.Read("<" + name(from) + ">")
		if e != api.OK || at != 0 || len(got) != 2 || got[0].Class != class.Of(byte(from), byte(from)) {
			t.Fatalf("the byte %02x: %x, %d, %d", from, got, e, at)
		}
		for to := range 256 {
			got, e, at := lex.Read("<" + name(from) + "-" + name(to) + ">")
			if from > to {
				if e != api.ErrClass || at != 0 || got != nil {
					t.Fatalf("%02x to %02x: %x, %d, %d", from, to, got, e, at)
				}
			} else if e != api.OK || at != 0 || len(got) != 2 || got[0].Class != class.Of(byte(from), byte(to)) {
				t.Fatalf("%02x to %02x: %x, %d, %d", from, to, got, e, at)
			}
		}
	}
}

// P3.1: each two bytes between < and > that aren't two digits are no class, those in capitals among them.
func TestReadEachTwoBytesOfAClass(t *testing.T) {
	for a := range 256 {
		for b := range 256 {
			againstModel(t, "<"+string([]byte{byte(a), byte(b)})+">")
		}
	}
}

// P3.1: the errors and their places, written out, each alone and behind tokens.
func TestReadErrors(t *testing.T) {
	for _, x := range []struct {
		text string
		e    api.Errno
		at   int
	}{
		{"a", api.ErrByte, 0},
		{"B", api.ErrByte, 0},
		{"0", api.ErrByte, 0},
		{"-", api.ErrByte, 0},
		{",", api.ErrByte, 0},
		{"^", api.ErrByte, 0},
		{">", api.ErrByte, 0},
		{"}", api.ErrByte, 0},
		{"\t", api.ErrByte, 0},
		{"\n", api.ErrByte, 0},
		{"\x00", api.ErrByte, 0},
		{"\x80", api.ErrByte, 0},
		{"\u00e9", api.ErrByte, 0},
		{"\ufffd", api.ErrByte, 0},
		{"\u00a0", api.ErrByte, 0},
		{"<61>>", api.ErrByte, 4},
		{"{1,2}}", api.ErrByte, 5},
		{`"a"a"`, api.ErrByte, 3},
		{"<", api.ErrClass, 0},
		{"<61", api.ErrClass, 0},
		{"<^", api.ErrClass, 0},
		{"<6>", api.ErrClass, 0},
		{"<616>", api.ErrClass, 0},
		{"<6162>", api.ErrClass, 0},
		{"<FF>", api.ErrClass, 0},
		{"<0x>", api.ErrClass, 0},
		{"<,>", api.ErrClass, 0},
		{"<61,>", api.ErrClass, 0},
		{"<,61>", api.ErrClass, 0},
		{"<61,,62>", api.ErrClass, 0},
		{"<->", api.ErrClass, 0},
		{"<61->", api.ErrClass, 0},
		{"<-61>", api.ErrClass, 0},
		{"<61--62>", api.ErrClass, 0},
		{"<61-62-63>", api.ErrClass, 0},
		{"<62-61>", api.ErrClass, 0},
		{"<61,63-62>", api.ErrClass, 0},
		{"<^^>", api.ErrClass, 0},
		{"<^,>", api.ErrClass, 0},
		{"<61^>", api.ErrClass, 0},
		{"< >", api.ErrClass, 0},
		{"<61 >", api.ErrClass, 0},
		{"<61, 62>", api.ErrClass, 0},
		{"<<61>", api.ErrClass, 0},
		{`<"a">`, api.ErrClass, 0},
		{"<\xff>", api.ErrClass, 0},
		{`"`, api.ErrText, 0},
		{`""`, api.ErrText, 0},
		{`"""`, api.ErrText, 0},
		{`"a`, api.ErrText, 0},
		{"\"\xff\"", api.ErrText, 0},
		{"\"a\x80b\"", api.ErrText, 0},
		{"\"\xc3\"", api.ErrText, 0},
		{"\"\xed\xa0\x80\"", api.ErrText, 0},
		{"\"\xc0\xa2\"", api.ErrText, 0},
		{"{", api.ErrRepeat, 0},
		{"{}", api.ErrRepeat, 0},
		{"{1}", api.ErrRepeat, 0},
		{"{1,2", api.ErrRepeat, 0},
		{"{,}", api.ErrRepeat, 0},
		{"{1,}", api.ErrRepeat, 0},
		{"{,1}", api.ErrRepeat, 0},
		{"{1,2,3}", api.ErrRepeat, 0},
		{"{1,,2}", api.ErrRepeat, 0},
		{"{00,1}", api.ErrRepeat, 0},
		{"{0,01}", api.ErrRepeat, 0},
		{"{1, 2}", api.ErrRepeat, 0},
		{"{ 1,2}", api.ErrRepeat, 0},
		{"{-1,2}", api.ErrRepeat, 0},
		{"{+1,2}", api.ErrRepeat, 0},
		{"{a,b}", api.ErrRepeat, 0},
		{"{0x1,2}", api.ErrRepeat, 0},
		{"{1,\u0662}", api.ErrRepeat, 0},
		{"{{1,2}", api.ErrRepeat, 0},
		{"{1,0256}", api.ErrRepeat, 0},
		{"{999,99a}", api.ErrRepeat, 0},
		{"{300,200", api.ErrRepeat, 0},
		{"{1,0}", api.ErrBounds, 0},
		{"{255,254}", api.ErrBounds, 0},
		{"{0,256}", api.ErrBounds, 0},
		{"{256,256}", api.ErrBounds, 0},
		{"{256,255}", api.ErrBounds, 0},
		{"{0,18446744073709551616}", api.ErrBounds, 0},
		{"{18446744073709551616,0}", api.ErrBounds, 0},
		{"{18446744073709551617,18446744073709551618}", api.ErrBounds, 0},
		{"{0," + strings.Repeat("9", 5000) + "}", api.ErrBounds, 0},
		{"a<", api.ErrByte, 0},
		{`<">a`, api.ErrClass, 0},
		{`"<`, api.ErrText, 0},
		{"{2,1}<a", api.ErrBounds, 0},
	} {
		for _, ahead := range []string{"", " ", "  .", `b(<61>"` + "\u20ac" + `"{3,7})* `} {
			got, e, at := lex.Read(ahead + x.text)
			if got != nil || e != x.e || at != len(ahead)+x.at {
				t.Errorf("Read(%q) = %v, %d, %d, want %d, %d", ahead+x.text, got, e, at, x.e, len(ahead)+x.at)
			}
		}
	}
}

// P3.1: each single byte, and each two, alone and behind a token.
func TestReadEachByte(t *testing.T) {
	for a := range 256 {
		againstModel(t, string([]byte{byte(a)}))
		againstModel(t, "."+string([]byte{byte(a)}))
		for b := range 256 {
			againstModel(t, string([]byte{byte(a), byte(b)}))
		}
	}
}

// P3.1: runes that aren't of one byte begin nothing, whatever their lowest byte: all the lesser ones, and some of the others.
func TestReadRunesThatBeginNothing(t *testing.T) {
	for r := rune(0x80); r <= utf8.MaxRune; r += 1 + r>>13*9 {
		if got, e, at := lex.Read(". " + string(r)); got != nil || e != api.ErrByte || at != 2 {
			t.Fatalf("the rune %x: %v, %d, %d", r, got, e, at)
		}
	}
}

// P3.1: all bounds up to 300.
func TestReadEachBounds(t *testing.T) {
	for lo := range int64(300) {
		for hi := range int64(300) {
			againstModel(t, "{"+big.NewInt(lo).String()+","+big.NewInt(hi).String()+"}")
		}
	}
}

// P3.1: rows of pieces, held against the chapter's words: of whole texts, and within a class, a text, a repeat.
func TestReadRows(t *testing.T) {
	rows([]string{".", "<61>", "<", ">", `"`, `"a"`, "(", ")", "|", "*", "b", "w", "{0,1}", "{", "}", "{2,1}", " ", "a", "\x80", "\u00e9"}, 4, func(s string) {
		againstModel(t, s)
	})
	rows([]string{"61", "7f", "00", "ff", "6", "g", "A", "-", ",", "^", " ", "<"}, 4, func(s string) {
		againstModel(t, "<"+s+">.")
		againstModel(t, "<^"+s+">")
	})
	rows([]string{"61", "62", "-", ",", "^"}, 7, func(s string) {
		againstModel(t, "<"+s+">")
	})
	rows([]string{"a", " ", "\n", "\x00", "\u00e9", "\U0001f600", "\xc3", "\xa9", "\xff", "<", `"`}, 4, func(s string) {
		againstModel(t, `"`+s+`".`)
	})
	rows([]string{"0", "1", "2", "9", "255", "256", "99999999999999999999", ",", "-", " ", "a", "{"}, 4, func(s string) {
		againstModel(t, "{"+s+"}.")
	})
}

// P3.1: texts that are cut at each place, and have each byte put in another one's place.
func TestReadMarredTexts(t *testing.T) {
	for _, s := range samples() {
		againstModel(t, s)
		if len(s) > 100 {
			continue
		}
		for i := range len(s) {
			againstModel(t, s[:i])
			againstModel(t, s[i:])
			againstModel(t, s[:i]+s[i+1:])
			for c := range 256 {
				againstModel(t, s[:i]+string([]byte{byte(c)})+s[i+1:])
			}
		}
	}
}

// P3.1: a Text is new memory, not a piece of what was handed in.
func TestReadKeepsNothing(t *testing.T) {
	text := string([]byte(`("abc"|"d")*`))
	got, e, _ := lex.Read(text)
	if e != api.OK {
		t.Fatal(e)
	}
	first := uintptr(unsafe.Pointer(unsafe.StringData(text)))
	for _, x := range got {
		if x.Text == "" {
			continue
		}
		if p := uintptr(unsafe.Pointer(unsafe.StringData(x.Text))); first <= p && p < first+uintptr(len(text)) {
			t.Errorf("the Text %q is a piece of what was handed in", x.Text)
		}
	}
}

// P3.1: what is answered is new memory: an answer written over, earlier and later ones are as ever.
func TestReadAnswersAnew(t *testing.T) {
	for _, s := range samples() {
		got, _, _ := lex.Read(s)
		want := slices.Clone(got)
		other, _, _ := lex.Read(s)
		clear(other[:cap(other)])
		again, _, _ := lex.Read(s)
		if !slices.Equal(got, want) || !slices.Equal(again, want) {
			t.Errorf("%q: an answer is changed through another one", s)
		}
	}
}

// P3.2: Same, of lists that are alike, nil and empty ones among them.
func TestSameOfSameTokens(t *testing.T) {
	if !lex.Same(nil, nil) || !lex.Same(nil, []api.Token{}) || !lex.Same([]api.Token{}, nil) {
		t.Error("no tokens and no tokens aren't the same")
	}
	for _, s := range samples() {
		a, _, _ := modelRead(s)
		b, _, _ := modelRead(s)
		if !lex.Same(a, b) || !lex.Same(a, a) {
			t.Errorf("%q: the same tokens aren't", s)
		}
	}
}

// P3.2: Same, of lists that one field of one token, or the length, or the order tells apart.
func TestSameOfOtherTokens(t *testing.T) {
	list, _, _ := modelRead(`b(<61>{1,2}"a")`)
	others := []func(x *api.Token){
		func(x *api.Token) { x.Kind++ },
		func(x *api.Token) { x.At++ },
		func(x *api.Token) { x.Class[0] ^= 1 },
		func(x *api.Token) { x.Class[1] ^= 1 << 20 },
		func(x *api.Token) { x.Class[2] ^= 1 << 40 },
		func(x *api.Token) { x.Class[3] ^= 1 << 63 },
		func(x *api.Token) { x.Text += "a" },
		func(x *api.Token) { x.Lo-- },
		func(x *api.Token) { x.Hi++ },
	}
	for i := range list {
		for k, change := range others {
			other := slices.Clone(list)
			change(&other[i])
			if lex.Same(list, other) || lex.Same(other, list) {
				t.Errorf("the token %d, changed by %d, is the same", i, k)
			}
		}
		if lex.Same(list, list[:i]) || lex.Same(list[:i], list) {
			t.Errorf("the first %d tokens are the same as all", i)
		}
	}
	turned := slices.Clone(list)
	slices.Reverse(turned)
	if lex.Same(list, turned) {
		t.Error("tokens turned round are the same")
	}
}

// P3.2: Same takes any tokens, and what it is handed stays, the room behind it included.
func TestSameLeavesWhatIsHandedIn(t *testing.T) {
	whole := []api.Token{{Kind: -1, At: -5, Text: "\xff", Lo: 9, Hi: 3}, {Kind: 1000, Class: all}, {Kind: 7}, {Kind: 8}}
	was := slices.Clone(whole)
	if !lex.Same(whole[:2], was[:2]) || lex.Same(whole[:2], whole[2:]) || lex.Same(whole[:1], whole[:2]) {
		t.Error("tokens that are none are told apart otherwise")
	}
	if !slices.Equal(whole, was) {
		t.Error("what was handed in is changed")
	}
}

// P3.2: Utf8, the edges written out.
func TestUtf8AtEdges(t *testing.T) {
	for s, want := range map[string]bool{
		"":                                true,
		"a":                               true,
		"\x00":                            true,
		"\x7f":                            true,
		"\"":                              true,
		"h\u00e9\u20ac\U0001f600":         true,
		"\u0080":                          true,
		"\u07ff":                          true,
		"\u0800":                          true,
		"\ud7ff":                          true,
		"\ue000":                          true,
		"\ufffd":                          true,
		"\uffff":                          true,
		"\U00010000":                      true,
		"\U0010ffff":                      true,
		"\x80":                            false,
		"\xbf":                            false,
		"\xff":                            false,
		"\xc3":                            false,
		"\xc3a":                           false,
		"\xe2\x82":                        false,
		"\xe2\x82a":                       false,
		"\xf0\x9f\x98":                    false,
		"\xc0\x80":                        false,
		"\xc1\xbf":                        false,
		"\xe0\x9f\xbf":                    false,
		"\xed\xa0\x80":                    false,
		"\xed\xbf\xbf":                    false,
		"\xf0\x8f\xbf\xbf":                false,
		"\xf4\x90\x80\x80":                false,
		"\xf5\x80\x80\x80":                false,
		"\xf8\x88\x80\x80\x80":            false,
		"a\xffb":                          false,
		strings.Repeat("\u20ac", 100):     true,
		strings.Repeat("a", 100) + "\xe2": false,
		"\ufffd\xff":                      false,
		"\xff\ufffd":                      false,
		strings.Repeat("abcdefgh", 9):     true,
	} {
		if lex.Utf8(s) != want {
			t.Errorf("Utf8(%q) = %v", s, !want)
		}
	}
}

// P3.2: Utf8, as the library has it: of all rows of three bytes, and of four that may begin a rune.
func TestUtf8AsTheLibrary(t *testing.T) {
	check := func(row []byte) {
		if s := string(row); lex.Utf8(s) != utf8.ValidString(s) {
			t.Fatalf("Utf8(%q) = %v", s, lex.Utf8(s))
		}
	}
	for a := range 256 {
		check([]byte{byte(a)})
		for b := range 256 {
			check([]byte{byte(a), byte(b)})
			for c := range 256 {
				check([]byte{byte(a), byte(b), byte(c)})
			}
		}
	}
	edges := []byte{0x00, 0x7f, 0x80, 0x8f, 0x90, 0x9f, 0xa0, 0xbf, 0xc0, 0xff}
	for a := 0xe0; a <= 0xff; a++ {
		for b := range 256 {
			for _, c := range edges {
				for _, d := range edges {
					check([]byte{byte(a), byte(b), c, d})
				}
			}
		}
	}
}

// P3.1: a text's Text is taken just where Utf8 says so.
func TestReadTextsOfUtf8Alone(t *testing.T) {
	rows([]string{"\x00", "a", "\x7f", "\x80", "\x9f", "\xa0", "\xbf", "\xc2", "\xe0", "\xed", "\xf4"}, 4, func(s string) {
		if _, e, _ := lex.Read(`"` + s + `"`); (e == api.OK) != (s != "" && lex.Utf8(s)) {
			t.Fatalf("the text %q: %d", s, e)
		}
	})
}

// P3.3: tokens rise, the first at 0 or behind it, the end last and alone.
func TestTokensRise(t *testing.T) {
	for _, s := range samples() {
		list, e, _ := lex.Read(s)
		if e != api.OK {
			t.Fatalf("%q isn't read: %d", s, e)
		}
		last := -1
		for i, x := range list {
			if x.At <= last {
				t.Errorf("%q: the token %d at %d, behind one at %d", s, i, x.At, last)
			}
			if (x.Kind == api.TkEnd) != (i == len(list)-1) {
				t.Errorf("%q: the token %d of %d is of the kind %d", s, i, len(list), x.Kind)
			}
			last = x.At
		}
		if last != len(s) {
			t.Errorf("%q: the end at %d", s, last)
		}
	}
}

// P3.3: what is put behind a text that is read, with a byte 20 between, is read on, its tokens or its error.
func TestReadOn(t *testing.T) {
	behind := append(samples(), "a", ". <6>", `.. "`, "*{2,1}", "{1", "\x80", "<61> \u00e9")
	for _, s := range samples() {
		list, _, _ := lex.Read(s)
		for _, more := range behind {
			start := len(s) + 1
			got, e, at := lex.Read(s + " " + more)
			rest, wantE, wantAt := lex.Read(more)
			if wantE != api.OK {
				if got != nil || e != wantE || at != start+wantAt {
					t.Errorf("%q behind %q: %v, %d, %d", more, s, got, e, at)
				}
				continue
			}
			want := slices.Clone(list[:len(list)-1])
			for _, x := range rest {
				x.At += start
				want = append(want, x)
			}
			if e != api.OK || at != 0 || !slices.Equal(got, want) {
				t.Errorf("%q behind %q: %v, %d, %d", more, s, got, e, at)
			}
		}
	}
}
