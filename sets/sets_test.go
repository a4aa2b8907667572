package sets_test

import (
	"fmt"
	"math"
	"math/rand"
	"slices"
	"strings"
	"testing"

	"scantling/api"
	"scantling/class"
	"scantling/count"
	"scantling/item"
	"scantling/next"
	"scantling/null"
	"scantling/sample"
	"scantling/sets"
	"scantling/valid"
)

// What descriptions are built of.
var empty, text = sample.Empty, sample.Text

// set is a Bytes of some of the first bytes.
func set(first uint64) api.Desc { return sample.Bytes(api.Class{first}) }

// The items of each kind.
func inNode(node int) api.Item        { return api.Item{Kind: api.InNode, Node: node} }
func inRep(node, lo, hi int) api.Item { return api.Item{Kind: api.InRep, Node: node, Lo: lo, Hi: hi} }
func inText(node, lo int) api.Item    { return api.Item{Kind: api.InText, Node: node, Lo: lo} }
func inHalf(node, lo int) api.Item    { return api.Item{Kind: api.InHalf, Node: node, Lo: lo} }
func stop(lo int) api.Item            { return api.Item{Kind: api.InStop, Lo: lo} }

// list is a list of states.
func list(states ...api.State) []api.State { return states }

// desc is the description of a text.
func desc(t *testing.T, text string) api.Desc {
	t.Helper()
	d, fault, at := valid.Read(text)
	if fault != api.OK {
		t.Fatal(text, fault, at)
	}
	return d
}

// told tells a state shortly, by letters for the items' kinds.
func told(s api.State) string {
	var list []string
	for _, x := range s {
		switch x {
		case inNode(x.Node):
			list = append(list, fmt.Sprintf("n%d", x.Node))
		case inRep(x.Node, x.Lo, x.Hi):
			list = append(list, fmt.Sprintf("r%d.%d.%d", x.Node, x.Lo, x.Hi))
		case inText(x.Node, x.Lo):
			list = append(list, fmt.Sprintf("t%d.%d", x.Node, x.Lo))
		case inHalf(x.Node, x.Lo):
			list = append(list, fmt.Sprintf("h%d.%d", x.Node, x.Lo))
		case stop(x.Lo):
			list = append(list, fmt.Sprintf("s%d", x.Lo))
		default:
			list = append(list, fmt.Sprint(x))
		}
	}
	return "[" + strings.Join(list, " ") + "]"
}

// toldAll tells states, one behind the other.
func toldAll(l []api.State) string {
	var list []string
	for _, s := range l {
		list = append(list, told(s))
	}
	return strings.Join(list, " ")
}

// toldClasses tells classes, one behind the other, by their bytes; that of none as "none", of all as "all", and the 256 of a byte each as "each".
func toldClasses(classes []api.Class) string {
	var each []api.Class
	for c := range 256 {
		each = append(each, class.Of(byte(c), byte(c)))
	}
	var list []string
	for len(classes) > 0 {
		if len(classes) >= 256 && slices.Equal(classes[:256], each) {
			list = append(list, "each")
			classes = classes[256:]
			continue
		}
		list = append(list, toldClass(classes[0]))
		classes = classes[1:]
	}
	return strings.Join(list, " ")
}

// toldClass tells one class.
func toldClass(a api.Class) string {
	var bytes []byte
	for c := range 256 {
		if class.Has(a, byte(c)) {
			bytes = append(bytes, byte(c))
		}
	}
	switch len(bytes) {
	case 0:
		return "none"
	case 256:
		return "all"
	}
	return fmt.Sprintf("%x", bytes)
}

// toldBytes tells bytes; all 256, rising, as "all".
func toldBytes(bytes []byte) string {
	all := len(bytes) == 256
	for i, c := range bytes {
		all = all && i == int(c)
	}
	if all {
		return "all"
	}
	return fmt.Sprintf("%x", bytes)
}

// on is On, by the chapter's words.
func on(d api.Desc, l []api.State, c byte) []api.State {
	var list []api.State
	for _, s := range l {
		for _, b := range next.On(d, s, c) {
			if !slices.ContainsFunc(list, func(x api.State) bool { return slices.Equal(x, b.To) }) {
				list = append(list, b.To)
			}
		}
	}
	slices.SortFunc(list, item.Compare)
	return list
}

// ends is Ends, by the chapter's words.
func ends(d api.Desc, l []api.State) bool {
	return slices.ContainsFunc(l, func(s api.State) bool { return next.Ends(d, s) != 0 })
}

// classes are Classes, by the chapter's words, told.
func classes(d api.Desc, l []api.State) string {
	var list []string
	for _, s := range l {
		if one := toldClasses(next.Classes(d, s)); one != "" {
			list = append(list, one)
		}
	}
	return strings.Join(list, " ")
}

// partOf tells which of the list's classes have the byte: bytes of one part have the same ones.
func partOf(list []api.Class, c byte) string {
	var has []byte
	for _, a := range list {
		has = append(has, byte('0'+a[c/64]>>(c%64)&1))
	}
	return string(has)
}

// bytes are Bytes, by the chapter's words, and of each byte the least one of its part.
func bytes(d api.Desc, l []api.State) ([]byte, [256]byte) {
	var all []api.Class
	for _, s := range l {
		for _, a := range next.Classes(d, s) {
			if !slices.Contains(all, a) {
				all = append(all, a)
			}
		}
	}
	var least []byte
	var of [256]byte
	seen := map[string]byte{}
	for i := range 256 {
		c := byte(i)
		part := partOf(all, c)
		if _, ok := seen[part]; !ok {
			seen[part] = c
			least = append(least, c)
		}
		of[c] = seen[part]
	}
	return least, of
}

// some are bytes that tell the descriptions of the tests apart, and the edges.
var some = []byte{0, 1, 2, 3, 'a', 'b', 0xa9, 0xc3, 255}

// check holds the calls against the chapter's words, of one set.
func check(t *testing.T, d api.Desc, l []api.State) {
	t.Helper()
	for _, c := range some {
		if got, want := toldAll(sets.On(d, l, c)), toldAll(on(d, l, c)); got != want {
			t.Fatalf("%v: On of %s, %x = %s, want %s", d, toldAll(l), c, got, want)
		}
	}
	if got, want := sets.Ends(d, l), ends(d, l); got != want {
		t.Fatalf("%v: Ends of %s = %v", d, toldAll(l), got)
	}
	if got, want := toldClasses(sets.Classes(d, l)), classes(d, l); got != want {
		t.Fatalf("%v: Classes of %s = %s, want %s", d, toldAll(l), got, want)
	}
	least, _ := bytes(d, l)
	if got, want := toldBytes(sets.Bytes(d, l)), toldBytes(least); got != want {
		t.Fatalf("%v: Bytes of %s = %s, want %s", d, toldAll(l), got, want)
	}
}

// rightTo are all right descriptions of up to n nodes, of these leaves and a few bounds.
func rightTo(n int, leaves ...api.Desc) []api.Desc {
	list := sample.AllTo(n, leaves, [2]int{0, 0}, [2]int{0, 2}, [2]int{1, 3})
	return slices.DeleteFunc(list, func(d api.Desc) bool { return !null.Right(d) })
}

// items are the items of a description: of stops, and of halves, the edges alone.
func items(d api.Desc) []api.Item {
	list := []api.Item{stop(0), stop(1), stop(65535)}
	for i, n := range d.Nodes {
		list = append(list, inNode(i))
		switch n.Kind {
		case api.Rep:
			for hi := 0; hi <= n.Hi; hi++ {
				for lo := 0; lo <= hi; lo++ {
					list = append(list, inRep(i, lo, hi))
				}
			}
		case api.Text:
			for lo := 0; lo < len(n.Text); lo++ {
				list = append(list, inText(i, lo))
			}
		case api.Wide:
			list = append(list, inHalf(i, 0), inHalf(i, 255))
		}
	}
	return list
}

// words are all words of up to n bytes of these.
func words(n int, bytes string) []string {
	list := []string{""}
	from := 0
	for range n {
		to := len(list)
		for _, w := range list[from:to] {
			for i := range len(bytes) {
				list = append(list, w+bytes[i:i+1])
			}
		}
		from = to
	}
	return list
}

// P16.1: the start's set has one state, of one item.
func TestStart(t *testing.T) {
	for _, d := range rightTo(4, empty(), set(6), text("ab")) {
		l := sets.Start(d)
		if len(l) != 1 || !slices.Equal(l[0], api.State{inNode(len(d.Nodes) - 1)}) {
			t.Fatalf("%v: Start = %s", d, toldAll(l))
		}
	}
	if got := toldAll(sets.Start(desc(t, `("ab"|b(.))*`))); got != "[n4]" {
		t.Error(got)
	}
}

// P16.1: After, written out, from the start and behind some bytes.
func TestAfterWrittenOut(t *testing.T) {
	for _, x := range []struct{ text, w, want string }{
		{`()`, "", "[n0]"},
		{`()`, "a", ""},
		{`.`, "", "[n0]"},
		{`.`, "a", "[]"},
		{`.`, "ab", ""},
		{`.`, "abc", ""},
		{`<>`, "a", ""},
		{`"ab"`, "a", "[t0.1]"},
		{`"ab"`, "ab", "[]"},
		{`"ab"`, "b", ""},
		{`"ab"`, "aa", ""},
		{`"ab"`, "bab", ""},
		{`.*`, "", "[n1]"},
		{`.*`, "aaa", "[n1]"},
		{`.{2,3}`, "a", "[r1.1.2]"},
		{`.{2,3}`, "aa", "[r1.0.1]"},
		{`.{2,3}`, "aaa", "[r1.0.0]"},
		{`.{2,3}`, "aaaa", ""},
		{`.{255,255}`, "a", "[r1.254.254]"},
		{`b(.)`, "\x01", "[n0 s1]"},
		{`b(.)`, "\x01a", "[s0]"},
		{`b(.)`, "\x01aa", ""},
		{`b(.)`, "\x02a", "[s1]"},
		{`b(.)`, "\x00a", ""},
		{`w(.*)`, "\x01", "[h2.1]"},
		{`w(.*)`, "\x01\x02", "[n1 s258]"},
		{`w(.*)`, "\x01\x02a", "[n1 s257]"},
		// States to which more than one head leads are there once.
		{`.|.`, "a", "[]"},
		{`.|"a"`, "a", "[]"},
		{`(.|.)(.|.)`, "a", "[n5]"},
		{`(.|.)(.|.)`, "aa", "[]"},
		// So are those to which more than one state does.
		{`(.|..)*`, "a", "[n5] [n2 n5]"},
		{`(.|..)*`, "aa", "[n5] [n2 n5]"},
		{`("ab"|"a"|"ba")*`, "ab", "[n5] [t3.1 n5]"},
		{`("ab"|"a"|"ba")*`, "aba", "[n5] [t0.1 n5]"},
		{`("ab"|"a"|"ba")*`, "abba", "[n5]"},
		{`("ab"|"a"|"ba")*`, "bb", ""},
		{`(.|..){1,2}`, "a", "[r5.0.1] [n2 r5.0.1]"},
		{`(.|..){1,2}`, "aa", "[r5.0.0] [r5.0.1] [n2 r5.0.0]"},
		{`(.|..){1,2}`, "aaa", "[r5.0.0] [n2 r5.0.0]"},
		{`(.|..){1,2}`, "aaaa", "[r5.0.0]"},
		{`(.|..){1,2}`, "aaaaa", ""},
		// They rise, whatever the order of the states from which they are come to.
		{`..|."ab"|"ab"`, "", "[n8]"},
		{`..|."ab"|"ab"`, "a", "[n1] [n4] [t7.1]"},
		{`..|."ab"|"ab"`, "aa", "[] [t4.1]"},
		{`..|."ab"|"ab"`, "ab", "[]"},
		{`("ab"..|.)*`, "a", "[n7] [t0.1 n1 n3 n7]"},
		{`("ab"..|.)*`, "ab", "[n7] [n1 n3 n7]"},
		{`("ab"..|.)*`, "aba", "[n7] [n3 n7] [t0.1 n1 n3 n7]"},
	} {
		d := desc(t, x.text)
		if got := toldAll(sets.After(d, []byte(x.w))); got != x.want {
			t.Errorf("After of %s, %q = %s, want %s", x.text, x.w, got, x.want)
		}
	}
	if d := desc(t, `.*`); toldAll(sets.After(d, nil)) != "[n1]" {
		t.Error("behind no word")
	}
}

// P16.1: what sets go on to, and whether they end, written out.
func TestOnAndEndsWrittenOut(t *testing.T) {
	// Nodes: 0 bytes, 1 their star, 2 its frame, 3 a text, 4 its star, 5 its wide frame, 6 the row of both.
	d := desc(t, `b(.*)w("ab"*)`)
	kinds := []int{api.Bytes, api.Star, api.Frame, api.Text, api.Star, api.Wide, api.Seq}
	for i, n := range d.Nodes {
		if n.Kind != kinds[i] {
			t.Fatal(d)
		}
	}
	for _, x := range []struct {
		l    []api.State
		c    byte
		want string
		ends bool
	}{
		{nil, 'a', "", false},
		{list(), 'a', "", false},
		{list(nil), 'a', "", true},
		{list(api.State{}), 'a', "", true},
		{list(api.State{inNode(0)}), 'a', "[]", false},
		{list(api.State{inNode(1)}), 'a', "[n1]", true},
		{list(api.State{inNode(0)}, api.State{inNode(1)}), 'a', "[] [n1]", true},
		// Any of the states, the first one, or the last one, is enough.
		{list(api.State{}, api.State{inNode(0)}), 'a', "[]", true},
		{list(api.State{inNode(0)}, api.State{inNode(4)}), 'x', "[]", true},
		{list(api.State{inNode(0)}, api.State{inNode(4)}, api.State{inNode(5)}), 'a', "[] [h5.97] [t3.1 n4]", true},
		{list(api.State{inNode(0)}, api.State{inNode(3)}), 'a', "[] [t3.1]", false},
		{list(api.State{inNode(0)}, api.State{inNode(3)}), 'b', "[]", false},
		{list(api.State{inNode(0)}, api.State{inText(3, 1)}), 'b', "[]", false},
		{list(api.State{inNode(3)}, api.State{inText(3, 1)}), 'x', "", false},
		{list(api.State{inNode(2)}, api.State{inNode(5)}), 7, "[h5.7] [n1 s7]", false},
		{list(api.State{inHalf(5, 0)}, api.State{inHalf(5, 1)}), 0, "[n4 s0] [n4 s256]", false},
		{list(api.State{inHalf(5, 255)}, api.State{inNode(2), stop(9)}), 255, "[n4 s65535] [n1 s255 s8]", false},
		// An end that is ahead keeps from ending, one that is reached from going on.
		{list(api.State{inNode(1), stop(0)}), 'a', "", true},
		{list(api.State{inNode(1), stop(1)}), 'a', "[n1 s0]", false},
		{list(api.State{inNode(1), stop(0)}, api.State{inNode(1), stop(2)}), 'a', "[n1 s1]", true},
		{list(api.State{inNode(1), stop(0)}, api.State{inNode(1), stop(0), inNode(4)}), 'a', "[t3.1 n4]", true},
		{list(api.State{stop(1)}, api.State{stop(0), inNode(0)}), 'a', "[]", false},
		// Two states go on to one.
		{list(api.State{inNode(1)}, api.State{inNode(0), inNode(1)}), 'a', "[n1]", true},
		{list(api.State{inNode(1)}, api.State{inNode(1), inNode(1)}), 'a', "[n1] [n1 n1]", true},
		{list(api.State{inNode(0)}, api.State{inText(3, 1)}, api.State{inNode(0), stop(2)}, api.State{inText(3, 1), stop(2)}), 'b', "[] [s1]", false},
	} {
		if got := toldAll(sets.On(d, x.l, x.c)); got != x.want {
			t.Errorf("On of %s, %x = %s, want %s", toldAll(x.l), x.c, got, x.want)
		}
		if got := sets.Ends(d, x.l); got != x.ends {
			t.Errorf("Ends of %s = %v", toldAll(x.l), got)
		}
	}
}

// P16.2: Classes and Bytes, written out, state by state; of none the start's set.
func TestClassesAndBytesWrittenOut(t *testing.T) {
	for _, x := range []struct {
		text    string
		l       []api.State
		classes string
		bytes   string
	}{
		{`()`, nil, "", "00"},
		{`.`, nil, "all", "00"},
		{`<>`, nil, "none", "00"},
		{`<61>`, nil, "61", "0061"},
		{`<00>`, nil, "00", "0001"},
		{`<ff>`, nil, "ff", "00ff"},
		{`<62-63>`, nil, "6263", "0062"},
		{`"ab"`, nil, "61", "0061"},
		{`b(.)`, nil, "each", "all"},
		{`w(.)`, nil, "each", "all"},
		{`.*`, nil, "all", "00"},
		{`("ab"|"a"|"ba")*`, nil, "61 61 62", "006162"},
		{`<61-64>|<63-66>`, nil, "61626364 63646566", "00616365"},
		{`<00-7f>|<80-ff>|<c3>`, nil, toldClass(class.Of(0, 127)) + " " + toldClass(class.Of(128, 255)) + " c3", "0080c3"},
		{`"b"|.|"a"|<>`, nil, "all none 62 61", "006162"},
		{`"ab"`, list(nil), "", "00"},
		{`"ab"`, list(nil, api.State{inNode(0)}), "61", "0061"},
		{`"ab"`, list(api.State{inText(0, 1)}), "62", "0062"},
		{`"ab"`, list(api.State{inNode(0)}, api.State{inText(0, 1)}), "61 62", "006162"},
		// State by state, not sorted, and what comes again comes again.
		{`"ba"`, list(api.State{inNode(0)}, api.State{inText(0, 1)}), "62 61", "006162"},
		{`"ba"`, list(api.State{inNode(0)}, api.State{inText(0, 0)}, api.State{inText(0, 1)}, api.State{inNode(0), inNode(0)}), "62 62 61 62", "006162"},
		{`"aba"`, list(api.State{inText(0, 0)}, api.State{inText(0, 1)}, api.State{inText(0, 2)}), "61 62 61", "006162"},
		{`(<63>|"b"|"a").`, list(api.State{inNode(3)}, api.State{inNode(4)}, api.State{inNode(2), inNode(5)}), "61 63 62 61 63 62", "00616263"},
		{`"a"w(.)"b"`, list(api.State{inNode(0)}, api.State{inNode(2)}, api.State{inNode(4)}, api.State{inHalf(2, 0)}), "61 each 62 each", "all"},
		{`"a"w(.)"b"`, list(api.State{stop(1), inNode(2)}, api.State{inNode(4), stop(0)}), "62", "0062"},
	} {
		d := desc(t, x.text)
		l := x.l
		if l == nil {
			l = sets.Start(d)
		}
		if got := toldClasses(sets.Classes(d, l)); got != x.classes {
			t.Errorf("Classes of %s, %s = %s, want %s", x.text, toldAll(l), got, x.classes)
		}
		if got := toldBytes(sets.Bytes(d, l)); got != x.bytes {
			t.Errorf("Bytes of %s, %s = %s, want %s", x.text, toldAll(l), got, x.bytes)
		}
	}
	d := desc(t, `.`)
	if got := sets.Classes(d, nil); len(got) != 0 {
		t.Error(toldClasses(got))
	}
	if got := sets.Bytes(d, nil); toldBytes(got) != "00" {
		t.Error(toldBytes(got))
	}
}

// P16.1, P16.2: all sets of up to two states of up to two items, of all right descriptions of a few nodes.
func TestAllSets(t *testing.T) {
	many := 0
	for _, d := range rightTo(2, empty(), set(6), text("\u00e9b")) {
		var states []api.State
		list := items(d)
		for _, a := range list {
			states = append(states, api.State{a})
			for _, b := range list {
				states = append(states, api.State{a, b})
			}
		}
		slices.SortFunc(states, item.Compare)
		for i, s := range states {
			check(t, d, []api.State{s})
			for k := i + 1; k < len(states); k += 7 {
				check(t, d, []api.State{s, states[k]})
				many++
			}
		}
	}
	if many < 1000 {
		t.Error(many)
	}
}

// someTexts are of descriptions that go on to many states, some of them in many ways.
var someTexts = []string{
	`((.{1,3})*|"ab"*)(()|.{0,2}|b(.*))`,
	`((.{2,3}(()|"a"))*|.)(()|())(w(.)|"a"*"a"*)`,
	`((.|"ab"){1,2}*)(()|(()|.)(()|.))`,
	`(.{0,2}(.{1,2}){1,2}){0,2}(.*|())`,
	`(<61>|<61-62>|"ab"|"a"|"bc")*(b(.)|w(.*)|b(.))`,
}

// P16.1, P16.2: sets of more states of more items, of greater descriptions.
func TestSomeSets(t *testing.T) {
	less, ending := 0, 0
	r := rand.New(rand.NewSource(16))
	for _, text := range someTexts {
		d := desc(t, text)
		all := items(d)
		for range 300 {
			l := make([]api.State, r.Intn(7))
			for i := range l {
				l[i] = make(api.State, r.Intn(5))
				for k := range l[i] {
					l[i][k] = all[r.Intn(len(all))]
				}
			}
			slices.SortFunc(l, item.Compare)
			l = slices.CompactFunc(l, func(a, b api.State) bool { return item.Compare(a, b) == 0 })
			check(t, d, l)
			apart := 0
			for _, s := range l {
				apart += len(next.On(d, s, 'a'))
			}
			if apart > len(sets.On(d, l, 'a')) {
				less++
			}
			if sets.Ends(d, l) {
				ending++
			}
		}
	}
	if less < 50 || ending < 50 || ending > 1400 {
		t.Error(less, ending)
	}
}

// P16.1: what is gone on to rises, each once, and has its form, byte by byte; After is what On comes to.
func TestAfterIsOnByteByByte(t *testing.T) {
	most := 0
	for _, text := range someTexts {
		d := desc(t, text)
		for _, w := range words(6, "ab\x02") {
			l := sets.Start(d)
			for i := range len(w) {
				l = sets.On(d, l, w[i])
			}
			if got := toldAll(sets.After(d, []byte(w))); got != toldAll(l) {
				t.Fatalf("After of %s, %q = %s, want %s", text, w, got, toldAll(l))
			}
			for i, s := range l {
				if !item.Form(d, s) || i > 0 && item.Compare(l[i-1], s) >= 0 {
					t.Fatalf("After of %s, %q = %s", text, w, toldAll(l))
				}
			}
			most = max(most, len(l))
		}
	}
	if most < 10 {
		t.Error(most)
	}
}

// P16.2: Once, written out.
func TestOnceWrittenOut(t *testing.T) {
	a, b, none, all := class.Of('a', 'a'), class.Of('b', 'b'), api.Class{}, class.Of(0, 255)
	for _, x := range []struct {
		list []api.Class
		want string
	}{
		{nil, ""},
		{[]api.Class{}, ""},
		{[]api.Class{a}, "61"},
		{[]api.Class{none}, "none"},
		{[]api.Class{a, a}, "61"},
		{[]api.Class{none, none}, "none"},
		{[]api.Class{all, all, all}, "all"},
		{[]api.Class{b, a}, "62 61"},
		{[]api.Class{b, a, b}, "62 61"},
		{[]api.Class{b, a, a, b, none, b, all, none, a}, "62 61 none all"},
		{[]api.Class{all, class.Not(a), a, all}, "all " + toldClass(class.Not(a)) + " 61"},
	} {
		if got := toldClasses(sets.Once(x.list)); got != x.want {
			t.Errorf("Once of %s = %s, want %s", toldClasses(x.list), got, x.want)
		}
	}
	var each []api.Class
	for c := range 256 {
		each = append(each, class.Of(byte(255-c), byte(255-c)))
	}
	if got := sets.Once(slices.Repeat(each, 3)); !slices.Equal(got, each) {
		t.Error(toldClasses(got))
	}
}

// P16.2: Once, of all short lists of classes that are alike in all words but one.
func TestOnceOfAllShortLists(t *testing.T) {
	kinds := []api.Class{{}, {1}, {0, 1}, {0, 0, 1}, {0, 0, 0, 1}, {0, 0, 0, 1 << 63}}
	for n := range 6 {
		lists := 1
		for range n {
			lists *= len(kinds)
		}
		for number := range lists {
			var list, want []api.Class
			rest := number
			for range n {
				a := kinds[rest%len(kinds)]
				rest /= len(kinds)
				list = append(list, a)
				if !slices.Contains(want, a) {
					want = append(want, a)
				}
			}
			if got := sets.Once(list); !slices.Equal(got, want) {
				t.Fatalf("Once of %v = %v, want %v", list, got, want)
			}
		}
	}
}

// holdKeys holds that no two of the lists, of which no two are the same, have a key in common, and that each has one key.
func holdKeys(t *testing.T, lists [][]api.State) {
	t.Helper()
	seen := map[string][]api.State{}
	for _, l := range lists {
		key := sets.Key(l)
		if other, ok := seen[key]; ok {
			t.Fatalf("%v and %v have one key", l, other)
		}
		seen[key] = l
		var same []api.State
		for _, s := range l {
			same = append(same, append(make(api.State, 0, len(s)+3), s...))
		}
		if sets.Key(same) != key {
			t.Fatalf("%v has two keys", l)
		}
	}
}

// listsOf are all lists of up to n of these.
func listsOf[T any](n int, of []T) [][]T {
	all := [][]T{nil}
	from := 0
	for range n {
		to := len(all)
		for _, l := range all[from:to] {
			for _, x := range of {
				all = append(all, append(slices.Clone(l), x))
			}
		}
		from = to
	}
	return all
}

// statesOf are all states of up to n of these items.
func statesOf(n int, of []api.Item) []api.State {
	var states []api.State
	for _, l := range listsOf(n, of) {
		states = append(states, l)
	}
	return states
}

// P16.2: keys of all short lists of short states: neither the order of the states, nor where one ends, nor one without items is lost.
func TestKeysOfAllShortLists(t *testing.T) {
	holdKeys(t, listsOf(5, statesOf(2, []api.Item{inNode(0), stop(1)})))
	holdKeys(t, listsOf(4, statesOf(3, []api.Item{{}, {Kind: 1}})))
	holdKeys(t, listsOf(7, statesOf(1, []api.Item{{}, inNode(0)})))
	var items []api.Item
	for _, x := range []int{math.MinInt, -1, 0, 1, '0', ':', 63, 64, math.MaxInt} {
		items = append(items, api.Item{Kind: x}, api.Item{Kind: 1, Node: x}, api.Item{Kind: 2, Lo: x}, api.Item{Kind: 3, Hi: x})
	}
	slices.SortFunc(items, func(a, b api.Item) int { return item.Compare(api.State{a}, api.State{b}) })
	holdKeys(t, listsOf(2, statesOf(1, slices.Compact(items))))
}

// P16.2: keys of lists of the same items in other states, of all lengths.
func TestKeysOfItemsInOtherStates(t *testing.T) {
	row := slices.Repeat([]api.Item{inNode(48), {}, stop(58)}, 40)
	var lists [][]api.State
	for n := range len(row) {
		lists = append(lists, []api.State{row[:n]}, []api.State{nil, row[:n]})
		if n < len(row)-1 {
			lists = append(lists, []api.State{row[:n], row[n:]})
		}
		if n > 0 {
			lists = append(lists, []api.State{row[:n], nil})
		}
	}
	holdKeys(t, lists)
}

// P16.2: keys of items all of whose numbers are the same, one after the other, beside states without items: whatever tells in a key where a state ends, an item may look like it.
func TestKeysOfItemsThatLookLikeEnds(t *testing.T) {
	lists := listsOf(9, []api.State{nil})
	for n := -200; n <= 200; n++ {
		one := api.State{{Kind: n, Node: n, Lo: n, Hi: n}}
		two := slices.Repeat(one, 2)
		lists = append(lists, list(one), list(one, nil), list(nil, one), list(one, one), list(two), list(nil, two), list(two, nil), list(nil, one, one), list(one, nil, one))
	}
	holdKeys(t, lists)
	// Two keys that would be one, if lengths stood in it that don't tell where they end themselves.
	digit := api.Item{Kind: 26, Node: 26, Lo: 26, Hi: 26}
	zero := api.Item{Kind: 24, Node: 24, Lo: 24, Hi: 24}
	long := append(api.State{{Kind: 26, Node: 26, Lo: 26, Hi: 24}}, slices.Repeat([]api.Item{zero}, 10)...)
	holdKeys(t, [][]api.State{append(list(api.State{digit}), make([]api.State, 41)...), list(long)})
}

// P16.2: a key tells no more than the list: nil and empty are one, and the room behind is none of it.
func TestKeysOfTheSame(t *testing.T) {
	one := api.State{inNode(0)}
	three := api.State{inNode(0), stop(1), stop(2)}
	for _, x := range [][2][]api.State{
		{nil, {}},
		{nil, make([]api.State, 0, 5)},
		{{nil}, {{}}},
		{{nil, one}, {make(api.State, 0, 3), {inNode(0)}}},
		{{one, {inNode(0), stop(1)}}, {three[:1], three[:2]}},
		{{{inNode(0), stop(1)}}, {append(slices.Clone(one), stop(1))}},
	} {
		if sets.Key(x[0]) != sets.Key(x[1]) {
			t.Errorf("%v and %v have two keys", x[0], x[1])
		}
	}
}

// P16.3: the set behind a word ends just if it is a word of the description: all short words of all right descriptions of a few nodes.
func TestShortWordsEnd(t *testing.T) {
	seen := map[bool]int{}
	hold := func(d api.Desc, w string) {
		want := count.Has(d, []byte(w))
		if got := sets.Ends(d, sets.After(d, []byte(w))); got != want {
			t.Fatalf("%v: behind %q: %v", d, w, got)
		}
		seen[want]++
	}
	list := words(4, "\x00\x01\x02")
	for _, d := range rightTo(3, empty(), set(3), set(6), text("\x01\x00")) {
		for _, w := range list {
			hold(d, w)
		}
	}
	short := words(3, "\x00\x01")
	for _, d := range rightTo(5, set(7), text("\x01\x00")) {
		for _, w := range short {
			hold(d, w)
		}
	}
	if seen[true] < 2000 || seen[false] < 2000 {
		t.Error(seen)
	}
}

// P16.3: the same of longer words, whose frames are about as long as they tell.
func TestLongWordsEnd(t *testing.T) {
	long := func(n int) string { return strings.Repeat("a", n) }
	for _, x := range []struct {
		text, w string
		want    bool
	}{
		{`b(.*)`, "\xff" + long(255), true},
		{`b(.*)`, "\xff" + long(254), false},
		{`b(.*)`, "\xff" + long(256), false},
		{`b(.*)`, "\xfe" + long(255), false},
		{`w(.*)`, "\x00\xff" + long(255), true},
		{`w(.*)`, "\x01\x00" + long(256), true},
		{`w(.*)`, "\x01\x00" + long(255), false},
		{`w(.*)`, "\x00\x01" + long(256), false},
		{`w(.*)`, "\x02\x01" + long(513), true},
		{`w(.*)`, "\x02\x01" + long(514), false},
		{`w(.*)`, "\xff\xff" + long(65535), true},
		{`w(.*)`, "\xff\xff" + long(65534), false},
		{`b(w(.*))`, "\xff\x00\xfd" + long(253), true},
		{`b(w(.*))`, "\xff\x00\xfc" + long(253), false},
		{`b(w(.*)*)`, "\x07\x00\x01a\x00\x02aa", true},
		{`b(w(.*)*)`, "\x08\x00\x01a\x00\x02aa", false},
		{`w(b(.*)|.*)`, "\x01\x00\xff" + long(255), true},
		{`.{255,255}`, long(255), true},
		{`.{255,255}`, long(254), false},
		{`.{255,255}`, long(256), false},
		{`(.|"aa"){255,255}`, long(254), false},
		{`(.|"aa"){255,255}`, long(256), true},
		{`(.|"aa"){255,255}`, long(510), true},
		{`(.|"aa"){255,255}`, long(511), false},
		{`("aab"|"aa"|"b")*`, "aabaaaab", true},
		{`("aab"|"aa"|"b")*`, "aabaaa", false},
	} {
		d := desc(t, x.text)
		w := []byte(x.w)
		if got := sets.Ends(d, sets.After(d, w)); got != x.want || count.Has(d, w) != x.want {
			t.Errorf("%s: behind %.9q of %d bytes: %v, want %v", x.text, x.w, len(w), got, x.want)
		}
	}
}

// P16.3: by each byte one goes on as by the least one of its part, which is one of Bytes.
func TestBytesGoOnAsAllDo(t *testing.T) {
	parts := map[int]int{}
	hold := func(d api.Desc, l []api.State) {
		least := sets.Bytes(d, l)
		_, of := bytes(d, l)
		parts[len(least)]++
		to := map[byte]string{}
		for _, c := range least {
			to[c] = toldAll(sets.On(d, l, c))
		}
		for c := range 256 {
			want, ok := to[of[c]]
			if got := toldAll(sets.On(d, l, byte(c))); !ok || got != want {
				t.Fatalf("%v: %s goes on by %x to %s, by %x, of its part, to %s", d, toldAll(l), c, got, of[c], want)
			}
		}
	}
	for _, d := range rightTo(3, set(6), text("\u00e9b")) {
		for _, w := range []string{"", "\x01", "\u00e9", "\x02\x01"} {
			hold(d, sets.After(d, []byte(w)))
		}
	}
	for _, text := range append(someTexts, `("ab"|"a"|"ba")*`, `(<61-64>|<63-66>|<00>)*`) {
		d := desc(t, text)
		for _, w := range []string{"", "a", "ab", "aab", "\x02", "a\x03a"} {
			hold(d, sets.After(d, []byte(w)))
		}
	}
	if parts[1] < 50 || parts[2] < 50 || parts[3] < 5 || parts[5] < 4 || parts[256] < 50 {
		t.Error(parts)
	}
}

// P16.1, P16.2: a set of very many states.
func TestManyStates(t *testing.T) {
	d := desc(t, `(.|"aa"|..){0,255}`)
	l := sets.After(d, []byte(strings.Repeat("a", 255)))
	check(t, d, l)
	if len(l) < 300 {
		t.Error(len(l))
	}
	// Each state reads a frame's first byte.
	boxes := desc(t, `(.{1,255}b(.*))*`)
	var many []api.State
	for lo := range 255 {
		many = append(many, api.State{inRep(1, lo, 254), inNode(4), inNode(6)})
	}
	if got := sets.Bytes(boxes, many); toldBytes(got) != "all" {
		t.Error(len(got))
	}
	if got := sets.Classes(boxes, many); toldClasses(got) != "each all"+strings.Repeat(" all", 254) {
		t.Error(len(got))
	}
}

// P16.1, P16.2: descriptions as deep as may be, states as long, and words as long.
func TestDeep(t *testing.T) {
	const deep = 1 << 16
	single := api.Node{Kind: api.Bytes, Class: api.Class{6}}
	row := sample.Chain(deep, single, api.Node{Kind: api.Seq})
	word := slices.Repeat([]byte{1}, deep+1)
	if l := sets.After(row, word); toldAll(l) != "[]" || !sets.Ends(row, l) {
		t.Error(toldAll(l))
	}
	if l := sets.After(row, word[1:]); len(l) != 1 || sets.Ends(row, l) {
		t.Error(toldAll(l))
	}
	if l := sets.After(row, append(word, 1)); len(l) != 0 {
		t.Error(toldAll(l))
	}
	choices := sample.Chain(deep, single, api.Node{Kind: api.Or})
	start := sets.Start(choices)
	if l := sets.On(choices, start, 2); toldAll(l) != "[]" {
		t.Error(toldAll(l))
	}
	if l := sets.Classes(choices, start); len(l) != deep+1 || len(sets.Once(l)) != 1 || toldBytes(sets.Bytes(choices, start)) != "0001" {
		t.Error(len(l))
	}
	repeats := sample.Chain(deep, single, api.Node{Kind: api.Rep, Lo: 1, Hi: 1})
	l := sets.After(repeats, word[:1])
	if len(l) != 1 || len(l[0]) != deep || !sets.Ends(repeats, l) {
		t.Error(len(l))
	}
	longer := []api.State{append(slices.Clone(l[0]), stop(0))}
	other := []api.State{l[0], {stop(0)}}
	if sets.Key(l) != sets.Key(sets.After(repeats, word[:1])) || sets.Key(l) == sets.Key(longer) || sets.Key(longer) == sets.Key(other) {
		t.Error("keys of long states")
	}
	// Without states one doesn't go on, however long the rest is.
	if l := sets.After(row, make([]byte, 1<<24)); len(l) != 0 {
		t.Error(toldAll(l))
	}
}

// mark is what stands in the room behind what is handed in.
var mark = api.Item{Kind: 77, Node: 77}

// roomy is a copy of the list with marks in the room behind it, and behind each state.
func roomy(l []api.State) []api.State {
	var list []api.State
	for _, s := range l {
		list = append(list, append(slices.Clone(s), mark, mark)[:len(s)])
	}
	return append(list, api.State{mark}, api.State{mark})[:len(l)]
}

// whole tells the list and the room behind it.
func whole(l []api.State) string {
	var all []string
	for _, s := range l[:cap(l)] {
		all = append(all, told(s[:cap(s)]))
	}
	return strings.Join(all, " ")
}

// P16.4: what is handed in stays, the room behind it included.
func TestArgumentsStay(t *testing.T) {
	d := desc(t, `((.|"ab")*|.{1,2}|"aa")(b(.)|w(<61>)|.)`)
	nodes := append(slices.Clone(d.Nodes), api.Node{Kind: 88})
	given := api.Desc{Nodes: slices.Clone(nodes)}
	given.Nodes = given.Nodes[:len(d.Nodes)]
	word := []byte("aa\x02")
	for _, w := range words(3, "a\x02") {
		in := roomy(sets.After(d, []byte(w)))
		before := whole(in)
		for _, c := range some {
			sets.On(given, in, c)
		}
		sets.Ends(given, in)
		sets.Bytes(given, in)
		sets.Key(in)
		list := sets.Classes(given, in)
		room := append(slices.Clone(list), class.Of(1, 1), class.Of(2, 2))
		again := slices.Clone(room)
		sets.Once(again[:len(list)])
		if whole(in) != before || !slices.Equal(again, room) {
			t.Fatalf("%s has become %s", before, whole(in))
		}
		sets.Start(given)
		sets.After(given, word[:2])
	}
	if !slices.Equal(given.Nodes[:len(nodes)], nodes) || string(word) != "aa\x02" {
		t.Error("what was handed in has changed")
	}
}

// spoil writes into the list's states, and into the room behind them.
func spoil(l []api.State) {
	for _, s := range l {
		all := s[:cap(s)]
		for i := range all {
			all[i] = api.Item{Kind: 66}
		}
	}
	clear(l[:cap(l)])
}

// P16.4: what is answered is new: whoever writes into it, and into the room behind it, changes nothing else.
func TestAnswersAreNew(t *testing.T) {
	d := desc(t, `((.|"ab")*|.{1,2}|"aa")(b(.)|w(<61>)|.)`)
	for _, w := range words(4, "a\x02") {
		in := sets.After(d, []byte(w))
		before := toldAll(in)
		for _, c := range []byte("a\x02") {
			first, second := sets.On(d, in, c), sets.On(d, in, c)
			want := toldAll(second)
			// The states of one answer, one by one.
			for i, s := range first {
				rest := toldAll(first[i+1:])
				spoil(list(s))
				if toldAll(first[i+1:]) != rest {
					t.Fatalf("%s has become %s", rest, toldAll(first[i+1:]))
				}
			}
			spoil(first)
			if toldAll(second) != want || toldAll(in) != before {
				t.Fatalf("%s has become %s, %s has become %s", want, toldAll(second), before, toldAll(in))
			}
		}
		classes, bytes := sets.Classes(d, in), sets.Bytes(d, in)
		want := slices.Clone(classes)
		once := sets.Once(classes)
		clear(once[:cap(once)])
		if !slices.Equal(classes, want) {
			t.Fatal("what Once answers is what was handed in")
		}
		clear(classes[:cap(classes)])
		clear(bytes[:cap(bytes)])
		check(t, d, in)
	}
	start, word := sets.Start(d), []byte("a")
	spoil(start)
	spoil(sets.After(d, nil))
	after := toldAll(sets.After(d, word))
	spoil(sets.After(d, word))
	if start = sets.Start(d); toldAll(start) != fmt.Sprintf("[n%d]", len(d.Nodes)-1) || toldAll(sets.After(d, nil)) != toldAll(start) || toldAll(sets.After(d, word)) != after {
		t.Error("another start")
	}
	one := []api.Class{{1}}
	if once := sets.Once(one); &once[0] == &one[0] {
		t.Error("what Once answers is what was handed in")
	}
}

// P16.4: answers don't hang on what was asked before, nor on the order in which states are gathered.
func TestSameEachTime(t *testing.T) {
	d := desc(t, `(()|.|"a"|.*)(()|.|"b"|.{0,3})(()|(.|b(.)){1,2})(()|.)`)
	l := sets.After(d, []byte("a"))
	first, key := toldAll(sets.On(d, l, 'a')), sets.Key(l)
	classes, bytes := sets.Classes(d, l), sets.Bytes(d, l)
	once := sets.Once(classes)
	if len(l) < 5 || len(once) == len(classes) {
		t.Error(toldAll(l), len(classes))
	}
	for range 100 {
		if toldAll(sets.On(d, l, 'a')) != first || sets.Key(l) != key || !slices.Equal(sets.Once(classes), once) {
			t.Fatal("another answer")
		}
		if !slices.Equal(sets.Classes(d, l), classes) || !slices.Equal(sets.Bytes(d, l), bytes) {
			t.Fatal("another answer")
		}
	}
}

// Whatever is handed in, a call ends, and doesn't panic: nodes and items without their form, and lists that are no sets.
func TestWithoutForm(t *testing.T) {
	far := []int{math.MinInt, -1, 0, 1, 3, math.MaxInt}
	var descs []api.Desc
	for kind := -1; kind <= api.Kinds+1; kind++ {
		for _, a := range far {
			n := api.Node{Kind: kind, A: a, B: a, Lo: a, Hi: a, Text: "ab", Class: api.Class{6}}
			descs = append(descs, api.Desc{Nodes: []api.Node{n, n, n}}, api.Desc{Nodes: []api.Node{{Kind: api.Empty}, n, {Kind: api.Or, B: 1}}})
		}
	}
	void := []api.Node{{Kind: api.Empty}, {Kind: api.Star}, {Kind: api.Star, A: 1}, {Kind: api.Rep, A: 2, Lo: 3, Hi: math.MaxInt}}
	descs = append(descs, api.Desc{}, api.Desc{Nodes: void})
	var states []api.State
	for kind := -1; kind <= api.InStop+1; kind++ {
		for _, i := range far {
			for _, n := range far {
				states = append(states, api.State{{Kind: kind, Node: i, Lo: n, Hi: n}, stop(n)}, api.State{{Kind: kind, Node: 1, Lo: i, Hi: n}, inNode(2)})
			}
		}
	}
	for _, d := range descs {
		sets.Start(d)
		sets.After(d, []byte("ab\x01"))
		for _, l := range [][]api.State{nil, {nil}, states, slices.Repeat(states[:3], 3)} {
			sets.On(d, l, 1)
			sets.Ends(d, l)
			sets.Classes(d, l)
			sets.Bytes(d, l)
			sets.Key(l)
		}
	}
}

// The chapter's example: of a Bytes, behind its byte the set has the state without items.
func TestExample(t *testing.T) {
	d := set(2)
	l := sets.After(d, []byte{1})
	if len(l) != 1 || len(l[0]) != 0 || !sets.Ends(d, l) {
		t.Error(toldAll(l))
	}
}
