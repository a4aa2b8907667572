package split_test

import (
	"slices"
	"strconv"
	"testing"

	"scantling/api"
	"scantling/class"
	"scantling/split"
)

// edges are the bytes at both ends of each of a class's words.
var edges = []byte{0, 63, 64, 127, 128, 191, 192, 255}

var (
	none = api.Class{}
	all  = api.Class{1<<64 - 1, 1<<64 - 1, 1<<64 - 1, 1<<64 - 1}
)

// has reads the bit as chapter 1 words it.
func has(a api.Class, c int) bool {
	return a[c/64]&(uint64(1)<<(c%64)) != 0
}

// where is the class of the bytes of which in says so.
func where(in func(c int) bool) api.Class {
	var a api.Class
	for c := range 256 {
		if in(c) {
			a[c/64] |= uint64(1) << (c % 64)
		}
	}
	return a
}

// first is the least byte of a class, 256 of one without bytes.
func first(a api.Class) int {
	for c := range 256 {
		if has(a, c) {
			return c
		}
	}
	return 256
}

// alike tells whether each class has both bytes, or neither.
func alike(list []api.Class, b, c int) bool {
	for _, a := range list {
		if has(a, b) != has(a, c) {
			return false
		}
	}
	return true
}

// partsOf are the parts by the chapter's words: of each byte that no lesser one is alike, the bytes that are alike it.
func partsOf(list []api.Class) []api.Class {
	var parts []api.Class
	done := [256]bool{}
	for b := range 256 {
		if done[b] {
			continue
		}
		p := where(func(c int) bool { return alike(list, b, c) })
		for c := range 256 {
			done[c] = done[c] || has(p, c)
		}
		parts = append(parts, p)
	}
	return parts
}

// refined is what Refine is to answer by the chapter's words: the pieces as they come, each laid in the row of its least byte.
func refined(parts []api.Class, a api.Class) []api.Class {
	// The last row is of pieces without bytes.
	rows := make([][]api.Class, 257)
	for _, p := range parts {
		in := where(func(c int) bool { return has(p, c) && has(a, c) })
		out := where(func(c int) bool { return has(p, c) && !has(a, c) })
		rows[first(in)] = append(rows[first(in)], in)
		rows[first(out)] = append(rows[first(out)], out)
	}
	return slices.Concat(rows[:256]...)
}

// singles are the classes of one byte each.
func singles(bytes ...byte) []api.Class {
	var list []api.Class
	for _, c := range bytes {
		list = append(list, where(func(b int) bool { return b == int(c) }))
	}
	return list
}

// every is each byte, rising.
func every() []byte {
	var bytes []byte
	for c := range 256 {
		bytes = append(bytes, byte(c))
	}
	return bytes
}

// nested are classes that lie within one another, the widest first.
func nested() []api.Class {
	var list []api.Class
	for i := range 8 {
		list = append(list, class.Of(byte(10*i), byte(255-16*i)))
	}
	return list
}

// bits are eight classes that tell all bytes apart.
func bits() []api.Class {
	var list []api.Class
	for i := range 8 {
		list = append(list, where(func(c int) bool { return c>>i&1 == 1 }))
	}
	return list
}

// scattered are n classes of bytes strewn over all words, the same at each call.
func scattered(n int, seed uint64) []api.Class {
	var list []api.Class
	for range n {
		var a api.Class
		for i := range a {
			seed = seed*6364136223846793005 + 1442695040888963407
			a[i] = seed ^ seed>>29
		}
		list = append(list, a)
	}
	return list
}

// lists are ordinary lists of classes, and the edges.
func lists() map[string][]api.Class {
	word := class.Add(class.Join(class.Of('0', '9'), class.Join(class.Of('a', 'z'), class.Of('A', 'Z'))), '_')
	falling := every()
	slices.Reverse(falling)
	backwards := nested()
	slices.Reverse(backwards)
	m := map[string][]api.Class{
		"nil":                nil,
		"no class":           {},
		"no bytes":           {none},
		"all bytes":          {all},
		"all, none, all":     {all, none, all},
		"one class":          {class.Of('a', 'z')},
		"one with byte 0":    {class.Of(0, 9)},
		"twice the same":     {word, word},
		"a class and not it": {word, class.Not(word)},
		"digits and letters": {word, class.Of('0', '9'), class.Of('a', 'z'), class.Of('A', 'Z')},
		"no byte in common":  {class.Of(200, 210), class.Of(100, 110), class.Of(0, 10)},
		"they cross":         {class.Of(10, 100), class.Of(50, 150), class.Of(120, 200)},
		"across words":       {class.Of(63, 64), class.Of(127, 128), class.Of(191, 192)},
		"within, narrowing":  nested(),
		"within, widening":   backwards,
		"edges":              singles(edges...),
		"edges twice":        append(singles(edges...), singles(edges...)...),
		"edges as one":       {class.Add(none, edges...)},
		"singles":            singles(every()...),
		"singles, falling":   singles(falling...),
		"but one single":     singles(every()[1:]...),
		"but two singles":    singles(every()[2:]...),
		"bits":               bits(),
		"bits, and more":     append(bits(), scattered(50, 1)...),
		"strewn":             scattered(5, 2),
		"many":               slices.Repeat([]api.Class{word, class.Of(3, 99), none, all, class.Of(64, 127)}, 200),
	}
	for _, e := range edges {
		m["the single "+strconv.Itoa(int(e))] = singles(e)
	}
	return m
}

// P2.1: Parts, of each list: two bytes are of one part just if each class has both, or neither; by least bytes.
func TestPartsAreOfBytesThatNoClassTellsApart(t *testing.T) {
	for name, list := range lists() {
		if got, want := split.Parts(list), partsOf(list); !slices.Equal(got, want) {
			t.Errorf("%s: Parts = %x, want %x", name, got, want)
		}
	}
}

// P2.1: Parts, of each two bytes, asked one by one.
func TestPartsByTwoBytes(t *testing.T) {
	for _, list := range [][]api.Class{nil, nested(), bits()[:3], singles(edges...), scattered(3, 7)} {
		parts := split.Parts(list)
		for b := range 256 {
			for c := range 256 {
				one := slices.ContainsFunc(parts, func(p api.Class) bool { return has(p, b) && has(p, c) })
				if one != alike(list, b, c) {
					t.Fatalf("%x: %02x and %02x of one part: %v", list, b, c, one)
				}
			}
		}
	}
}

// P2.1: Parts, the edges written out.
func TestPartsAtEdges(t *testing.T) {
	for i, x := range []struct{ list, want []api.Class }{
		{nil, []api.Class{all}},
		{[]api.Class{}, []api.Class{all}},
		{[]api.Class{none}, []api.Class{all}},
		{[]api.Class{all}, []api.Class{all}},
		{[]api.Class{{1}}, []api.Class{{1}, {1<<64 - 2, 1<<64 - 1, 1<<64 - 1, 1<<64 - 1}}},
		{[]api.Class{{0, 0, 0, 1 << 63}}, []api.Class{{1<<64 - 1, 1<<64 - 1, 1<<64 - 1, 1<<63 - 1}, {0, 0, 0, 1 << 63}}},
		{[]api.Class{{0, 1}, {1 << 63}}, []api.Class{{1<<63 - 1, 1<<64 - 2, 1<<64 - 1, 1<<64 - 1}, {1 << 63}, {0, 1}}},
		{[]api.Class{{0, 0, 1<<64 - 1}, {0, 0, 6}}, []api.Class{{1<<64 - 1, 1<<64 - 1, 0, 1<<64 - 1}, {0, 0, 1<<64 - 7}, {0, 0, 6}}},
	} {
		if got := split.Parts(x.list); !slices.Equal(got, x.want) {
			t.Errorf("%d: Parts = %x, want %x", i, got, x.want)
		}
	}
}

// P2.1: the parts hang on which classes the list has, not on their order, and not on how often it has them.
func TestPartsInWhicheverOrder(t *testing.T) {
	for name, list := range lists() {
		turned := slices.Clone(list)
		slices.Reverse(turned)
		turned = append(turned, list...)
		if got, want := split.Parts(turned), split.Parts(list); !slices.Equal(got, want) {
			t.Errorf("%s: Parts = %x, turned round and doubled %x", name, want, got)
		}
	}
}

// P2.1: Refine, of parts, and of whatever classes: crossing, empty, unsorted, twice the same.
func TestRefine(t *testing.T) {
	by := append([]api.Class{none, all, class.Of(3, 16), class.Of('a', 'z'), class.Of(60, 200), class.Add(none, edges...)}, singles(edges...)...)
	by = append(by, scattered(3, 11)...)
	for name, list := range lists() {
		for _, a := range by {
			if got, want := split.Refine(list, a), refined(list, a); !slices.Equal(got, want) {
				t.Errorf("%s: Refine by %x = %x, want %x", name, a, got, want)
			}
			parts := split.Parts(list)
			if got, want := split.Refine(parts, a), refined(parts, a); !slices.Equal(got, want) {
				t.Errorf("%s: Refine of its parts by %x = %x, want %x", name, a, got, want)
			}
		}
	}
}

// P2.1: Refine, the edges written out: nothing of nothing, classes without bytes left out, wholes kept.
func TestRefineAtEdges(t *testing.T) {
	a, low, high := class.Of(100, 199), class.Of(0, 99), class.Of(200, 255)
	for i, x := range []struct {
		parts []api.Class
		a     api.Class
		want  []api.Class
	}{
		{nil, a, nil},
		{[]api.Class{}, all, nil},
		{[]api.Class{none}, a, nil},
		{[]api.Class{none, none}, none, nil},
		{[]api.Class{all}, none, []api.Class{all}},
		{[]api.Class{all}, all, []api.Class{all}},
		{[]api.Class{all}, a, []api.Class{class.Join(low, high), a}},
		{[]api.Class{all}, low, []api.Class{low, class.Not(low)}},
		{[]api.Class{all}, high, []api.Class{class.Not(high), high}},
		{[]api.Class{high, none, low, a}, a, []api.Class{low, a, high}},
		{[]api.Class{a, a}, class.Of(150, 255), []api.Class{class.Of(100, 149), class.Of(100, 149), class.Of(150, 199), class.Of(150, 199)}},
	} {
		if got := split.Refine(x.parts, x.a); !slices.Equal(got, x.want) {
			t.Errorf("%d: Refine = %x, want %x", i, got, x.want)
		}
	}
}

// P2.1: Refine keeps pieces of one least byte as they came: many of them, the wider ones first, last, and mixed.
func TestRefineKeepsOneLeastByteAsItCame(t *testing.T) {
	var list []api.Class
	for i := range 300 {
		list = append(list, class.Of(byte(20*(i%3)), byte(60+i*7%190)))
	}
	for _, a := range []api.Class{none, all, class.Of(0, 30), class.Of(30, 255), class.Of(40, 40)} {
		if got, want := split.Refine(list, a), refined(list, a); !slices.Equal(got, want) {
			t.Errorf("Refine by %x = %x, want %x", a, got, want)
		}
	}
	wide, narrow, five := class.Of(5, 50), class.Of(5, 40), class.Of(5, 5)
	if got := split.Refine([]api.Class{wide, narrow}, five); !slices.Equal(got, []api.Class{five, five, class.Of(6, 50), class.Of(6, 40)}) {
		t.Errorf("Refine of the wider one first = %x", got)
	}
	if got := split.Refine([]api.Class{narrow, wide}, five); !slices.Equal(got, []api.Class{five, five, class.Of(6, 40), class.Of(6, 50)}) {
		t.Errorf("Refine of the wider one last = %x", got)
	}
}

// P2.1: refined class by class, the class of all bytes comes to the parts.
func TestRefinedOneByOneComesToTheParts(t *testing.T) {
	for name, list := range lists() {
		parts := []api.Class{all}
		for _, a := range list {
			parts = split.Refine(parts, a)
			if len(parts) > 256 {
				t.Fatalf("%s: refined one by one, %d parts", name, len(parts))
			}
		}
		if got := split.Parts(list); !slices.Equal(got, parts) {
			t.Errorf("%s: Parts = %x, refined one by one %x", name, got, parts)
		}
	}
}

// P2.2: Heads, the least byte of each part.
func TestHeadsAreThePartsLeastBytes(t *testing.T) {
	for name, list := range lists() {
		var want []byte
		for _, p := range partsOf(list) {
			want = append(want, byte(first(p)))
		}
		if got := split.Heads(list); !slices.Equal(got, want) {
			t.Errorf("%s: Heads = %x, want %x", name, got, want)
		}
	}
}

// P2.2: Heads, the edges written out.
func TestHeadsAtEdges(t *testing.T) {
	for i, x := range []struct {
		list []api.Class
		want []byte
	}{
		{nil, []byte{0}},
		{[]api.Class{none}, []byte{0}},
		{[]api.Class{all}, []byte{0}},
		{singles(0), []byte{0, 1}},
		{singles(1), []byte{0, 1}},
		{singles(255), []byte{0, 255}},
		{singles(0, 255), []byte{0, 1, 255}},
		{singles(255, 192, 191, 128, 127, 64, 63, 0), []byte{0, 1, 63, 64, 127, 128, 191, 192, 255}},
		{[]api.Class{class.Of('b', 'y'), class.Of('a', 'z')}, []byte{0, 'a', 'b'}},
		{singles(every()...), every()},
		{bits(), every()},
	} {
		if got := split.Heads(x.list); !slices.Equal(got, x.want) {
			t.Errorf("%d: Heads = %x, want %x", i, got, x.want)
		}
	}
}

// P2.3: each byte is in just one part, and no part is without bytes.
func TestPartsHaveEachByteOnce(t *testing.T) {
	for name, list := range lists() {
		parts := split.Parts(list)
		for c := range 256 {
			n := 0
			for _, p := range parts {
				if has(p, c) {
					n++
				}
			}
			if n != 1 {
				t.Errorf("%s: %02x is in %d parts", name, c, n)
			}
		}
		if slices.Contains(parts, none) {
			t.Errorf("%s: a part without bytes", name)
		}
	}
}

// P2.3: a class of the list has all of a part, or nothing.
func TestClassesHaveAllOfAPartOrNothing(t *testing.T) {
	for name, list := range lists() {
		parts := split.Parts(list)
		for _, a := range list {
			for _, p := range parts {
				if both := class.Both(a, p); both != none && both != p {
					t.Errorf("%s: %x has of the part %x just %x", name, a, p, both)
				}
			}
		}
	}
}

// roomy is the list with room behind its length, filled with classes that must stay.
func roomy(list []api.Class) (short, whole []api.Class) {
	whole = append(slices.Clone(list), scattered(600, 5)...)
	return whole[:len(list)], whole
}

// P2.4: what is handed in stays, the room behind it included, also when all the answer's room is written over.
func TestWhatIsHandedInStays(t *testing.T) {
	for name, list := range lists() {
		short, whole := roomy(list)
		was := slices.Clone(whole)
		for _, a := range []api.Class{none, all, class.Of(50, 90), where(func(c int) bool { return c%2 == 0 })} {
			overwrite(split.Refine(short, a))
		}
		overwrite(split.Parts(short))
		overwrite(split.Heads(short))
		if !slices.Equal(whole, was) {
			t.Errorf("%s: what was handed in is changed", name)
		}
	}
}

// overwrite writes zeros into all the room of a list.
func overwrite[T any](list []T) {
	clear(list[:cap(list)])
}

// P2.4: what is answered is new memory: an earlier answer written over, a later one is as ever.
func TestAnswersShareNoMemory(t *testing.T) {
	for name, list := range lists() {
		parts, heads, pieces := split.Parts(list), split.Heads(list), split.Refine(list, class.Of(50, 90))
		wantParts, wantHeads, wantPieces := slices.Clone(parts), slices.Clone(heads), slices.Clone(pieces)
		overwrite(split.Parts(list))
		overwrite(split.Heads(list))
		overwrite(split.Refine(list, class.Of(50, 90)))
		if !slices.Equal(parts, wantParts) || !slices.Equal(heads, wantHeads) || !slices.Equal(pieces, wantPieces) {
			t.Errorf("%s: an answer is changed through a later one", name)
		}
		if !slices.Equal(split.Parts(list), wantParts) || !slices.Equal(split.Heads(list), wantHeads) || !slices.Equal(split.Refine(list, class.Of(50, 90)), wantPieces) {
			t.Errorf("%s: a later answer differs", name)
		}
	}
}

// P2.4: Parts of its own answer, refined by what splits nothing, is a list of its own.
func TestRefineThatSplitsNothingIsNew(t *testing.T) {
	parts := split.Parts([]api.Class{class.Of(50, 90)})
	want := slices.Clone(parts)
	for _, a := range []api.Class{none, all, class.Of(50, 90)} {
		same := split.Refine(parts, a)
		if !slices.Equal(same, want) {
			t.Errorf("Refine by %x = %x, want %x", a, same, want)
		}
		overwrite(same)
		if !slices.Equal(parts, want) {
			t.Errorf("Refine by %x shares its answer", a)
		}
	}
}
