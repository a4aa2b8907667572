package next_test

import (
	"fmt"
	"math"
	"math/rand"
	"slices"
	"strings"
	"testing"

	"scantling/api"
	"scantling/class"
	"scantling/count"
	"scantling/heads"
	"scantling/item"
	"scantling/next"
	"scantling/null"
	"scantling/sample"
	"scantling/split"
	"scantling/valid"
)

// What descriptions are built of.
var (
	empty, text            = sample.Empty, sample.Text
	seq, or                = sample.Seq, sample.Or
	star, rep, frame, wide = sample.Star, sample.Rep, sample.Frame, sample.Wide
)

// set is a Bytes of some of the first bytes.
func set(first uint64) api.Desc { return sample.Bytes(api.Class{first}) }

// The items of each kind.
func inNode(node int) api.Item        { return api.Item{Kind: api.InNode, Node: node} }
func inRep(node, lo, hi int) api.Item { return api.Item{Kind: api.InRep, Node: node, Lo: lo, Hi: hi} }
func inText(node, lo int) api.Item    { return api.Item{Kind: api.InText, Node: node, Lo: lo} }
func inHalf(node, lo int) api.Item    { return api.Item{Kind: api.InHalf, Node: node, Lo: lo} }
func stop(lo int) api.Item            { return api.Item{Kind: api.InStop, Lo: lo} }

// desc is the description of a text.
func desc(t *testing.T, text string) api.Desc {
	t.Helper()
	d, fault, at := valid.Read(text)
	if fault != api.OK {
		t.Fatal(text, fault, at)
	}
	return d
}

// told tells a state shortly, by letters for the items' kinds.
func told(s api.State) string {
	var list []string
	for _, x := range s {
		switch x {
		case inNode(x.Node):
			list = append(list, fmt.Sprintf("n%d", x.Node))
		case inRep(x.Node, x.Lo, x.Hi):
			list = append(list, fmt.Sprintf("r%d.%d.%d", x.Node, x.Lo, x.Hi))
		case inText(x.Node, x.Lo):
			list = append(list, fmt.Sprintf("t%d.%d", x.Node, x.Lo))
		case inHalf(x.Node, x.Lo):
			list = append(list, fmt.Sprintf("h%d.%d", x.Node, x.Lo))
		case stop(x.Lo):
			list = append(list, fmt.Sprintf("s%d", x.Lo))
		default:
			list = append(list, fmt.Sprint(x))
		}
	}
	return "[" + strings.Join(list, " ") + "]"
}

// toldRead tells what Read answers, in one text.
func toldRead(s api.State, ok bool) string {
	if !ok {
		if s != nil {
			return fmt.Sprint("nothing, but ", s)
		}
		return ""
	}
	return told(s)
}

// toldAll tells branches, one behind the other, and of those of two ways so.
func toldAll(branches []api.Branch) string {
	var list []string
	for _, b := range branches {
		switch b.Many {
		case 1:
			list = append(list, told(b.To))
		case 2:
			list = append(list, told(b.To)+"twice")
		default:
			list = append(list, fmt.Sprint(told(b.To), b.Many))
		}
	}
	return strings.Join(list, " ")
}

// toldClasses tells classes, one behind the other, by their bytes; that of none as "none", and the 256 of a byte each as "each".
func toldClasses(classes []api.Class) string {
	var each []api.Class
	for c := range 256 {
		var a api.Class
		a[c/64] = 1 << (c % 64)
		each = append(each, a)
	}
	var list []string
	for len(classes) > 0 {
		if len(classes) >= 256 && slices.Equal(classes[:256], each) {
			list = append(list, "each")
			classes = classes[256:]
			continue
		}
		list = append(list, toldClass(classes[0]))
		classes = classes[1:]
	}
	return strings.Join(list, " ")
}

// toldClass tells one class.
func toldClass(a api.Class) string {
	var bytes []byte
	for c := range 256 {
		if class.Has(a, byte(c)) {
			bytes = append(bytes, byte(c))
		}
	}
	if bytes == nil {
		return "none"
	}
	return fmt.Sprintf("%x", bytes)
}

// lowered is what stands behind an item a byte later, and whether there is no end that is reached.
func lowered(behind api.State) (api.State, bool) {
	var list api.State
	for _, x := range behind {
		if x.Kind == api.InStop {
			if x.Lo == 0 {
				return nil, false
			}
			x = stop(x.Lo - 1)
		}
		list = append(list, x)
	}
	return list, true
}

// read is Read, by the chapter's words.
func read(d api.Desc, s api.State, c byte) (api.State, bool) {
	if len(s) == 0 {
		return nil, false
	}
	behind, ok := lowered(s[1:])
	if !ok {
		return nil, false
	}
	x, n := s[0], d.Nodes[s[0].Node]
	to := func(list ...api.Item) (api.State, bool) { return slices.Concat(list, behind), true }
	switch {
	case x.Kind == api.InNode && n.Kind == api.Bytes && n.Class[c/64]&(1<<(c%64)) != 0:
		return to()
	case x.Kind == api.InText && n.Text[x.Lo:] == string([]byte{c}):
		return to()
	case x.Kind == api.InText && strings.HasPrefix(n.Text[x.Lo:], string([]byte{c})):
		return to(inText(x.Node, x.Lo+1))
	case x.Kind == api.InNode && n.Kind == api.Frame:
		return to(inNode(n.A), stop(int(c)))
	case x.Kind == api.InNode && n.Kind == api.Wide:
		return to(inHalf(x.Node, int(c)))
	case x.Kind == api.InHalf:
		return to(inNode(n.A), stop(x.Lo<<8|int(c)))
	}
	return nil, false
}

// on is On, by the chapter's words.
func on(d api.Desc, s api.State, c byte) []api.Branch {
	var list []api.Branch
	for _, h := range heads.Heads(d, s) {
		to, ok := read(d, h.To, c)
		if !ok {
			continue
		}
		i := slices.IndexFunc(list, func(b api.Branch) bool { return slices.Equal(b.To, to) })
		if i < 0 {
			list = append(list, api.Branch{To: to, Many: h.Many})
		} else {
			list[i].Many = 2
		}
	}
	slices.SortFunc(list, func(a, b api.Branch) int { return item.Compare(a.To, b.To) })
	return list
}

// ends is Ends, by the chapter's words.
func ends(d api.Desc, s api.State) int {
	for _, h := range heads.Heads(d, s) {
		if len(h.To) == 0 {
			return h.Many
		}
	}
	return 0
}

// classes is Classes, by the chapter's words, told.
func classes(d api.Desc, s api.State) string {
	var list []string
	for _, h := range heads.Heads(d, s) {
		if len(h.To) == 0 {
			continue
		}
		x := h.To[0]
		n := d.Nodes[x.Node]
		switch {
		case x.Kind == api.InText:
			list = append(list, fmt.Sprintf("%02x", n.Text[x.Lo]))
		case x.Kind == api.InNode && n.Kind == api.Bytes:
			list = append(list, toldClass(n.Class))
		default:
			list = append(list, "each")
		}
	}
	return strings.Join(list, " ")
}

// some are bytes that tell the descriptions of the tests apart, and the edges.
var some = []byte{0, 1, 2, 3, 'a', 'b', 0xa9, 0xc3, 255}

// check holds the calls against the chapter's words, of one state.
func check(t *testing.T, d api.Desc, s api.State) {
	t.Helper()
	ready := heads.Ready(d, s)
	for _, c := range some {
		if ready {
			if got, want := toldRead(next.Read(d, s, c)), toldRead(read(d, s, c)); got != want {
				t.Fatalf("%v: Read of %s, %x = %s, want %s", d, told(s), c, got, want)
			}
		}
		if got, want := toldAll(next.On(d, s, c)), toldAll(on(d, s, c)); got != want {
			t.Fatalf("%v: On of %s, %x = %s, want %s", d, told(s), c, got, want)
		}
	}
	if got, want := next.Ends(d, s), ends(d, s); got != want {
		t.Fatalf("%v: Ends of %s = %d, want %d", d, told(s), got, want)
	}
	if got, want := toldClasses(next.Classes(d, s)), classes(d, s); got != want {
		t.Fatalf("%v: Classes of %s = %s, want %s", d, told(s), got, want)
	}
}

// rightTo are all right descriptions of up to n nodes, of these leaves and a few bounds.
func rightTo(n int, leaves ...api.Desc) []api.Desc {
	list := sample.AllTo(n, leaves, [2]int{0, 0}, [2]int{0, 2}, [2]int{1, 3})
	return slices.DeleteFunc(list, func(d api.Desc) bool { return !null.Right(d) })
}

// items are the items of a description: of stops, and of halves, the edges alone.
func items(d api.Desc) []api.Item {
	list := []api.Item{stop(0), stop(1), stop(65535)}
	for i, n := range d.Nodes {
		list = append(list, inNode(i))
		switch n.Kind {
		case api.Rep:
			for hi := 0; hi <= n.Hi; hi++ {
				for lo := 0; lo <= hi; lo++ {
					list = append(list, inRep(i, lo, hi))
				}
			}
		case api.Text:
			for lo := 0; lo < len(n.Text); lo++ {
				list = append(list, inText(i, lo))
			}
		case api.Wide:
			list = append(list, inHalf(i, 0), inHalf(i, 255))
		}
	}
	return list
}

// P15.1: Read, written out, of each kind of item and node that is ready.
func TestReadWrittenOut(t *testing.T) {
	// Nodes: 0 bytes, 1 a text, 2 no byte, 3 bytes, 4 its frame, 5 bytes, 6 its wide frame, 7 to 11 choices.
	d := desc(t, `<61-63>|"abc"|<>|b(.)|w(.)`)
	kinds := []int{api.Bytes, api.Text, api.Or, api.Bytes, api.Or, api.Bytes, api.Frame, api.Or, api.Bytes, api.Wide, api.Or}
	for i, n := range d.Nodes {
		if n.Kind != kinds[i] {
			t.Fatal(d)
		}
	}
	for _, x := range []struct {
		s    api.State
		c    byte
		want string
	}{
		{nil, 'a', ""},
		{api.State{}, 0, ""},
		{api.State{inNode(0)}, 'a', "[]"},
		{api.State{inNode(0)}, 'c', "[]"},
		{api.State{inNode(0)}, 'd', ""},
		{api.State{inNode(0)}, '`', ""},
		{api.State{inNode(0), inNode(0), inNode(4)}, 'b', "[n0 n4]"},
		{api.State{inNode(3)}, 'a', ""},
		{api.State{inNode(5)}, 0, "[]"},
		{api.State{inNode(5)}, 255, "[]"},
		{api.State{inText(1, 0)}, 'a', "[t1.1]"},
		{api.State{inText(1, 0)}, 'b', ""},
		{api.State{inText(1, 1)}, 'b', "[t1.2]"},
		{api.State{inText(1, 1)}, 'a', ""},
		{api.State{inText(1, 2)}, 'c', "[]"},
		{api.State{inText(1, 2)}, 'a', ""},
		{api.State{inText(1, 1), inText(1, 1)}, 'b', "[t1.2 t1.1]"},
		{api.State{inText(1, 2), inText(1, 2)}, 'c', "[t1.2]"},
		{api.State{inNode(6)}, 0, "[n5 s0]"},
		{api.State{inNode(6)}, 255, "[n5 s255]"},
		{api.State{inNode(6), inNode(10), inText(1, 0)}, 'a', "[n5 s97 n10 t1.0]"},
		{api.State{inNode(9)}, 0, "[h9.0]"},
		{api.State{inNode(9)}, 255, "[h9.255]"},
		{api.State{inNode(9), inNode(9)}, 1, "[h9.1 n9]"},
		{api.State{inHalf(9, 0)}, 0, "[n8 s0]"},
		{api.State{inHalf(9, 0)}, 255, "[n8 s255]"},
		{api.State{inHalf(9, 1)}, 0, "[n8 s256]"},
		{api.State{inHalf(9, 1)}, 2, "[n8 s258]"},
		{api.State{inHalf(9, 255)}, 255, "[n8 s65535]"},
		{api.State{inHalf(9, 3), inHalf(9, 3)}, 0, "[n8 s768 h9.3]"},
		// What stands behind is lowered; what comes new isn't.
		{api.State{inNode(0), stop(1)}, 'a', "[s0]"},
		{api.State{inNode(0), stop(65535), inNode(1)}, 'a', "[s65534 n1]"},
		{api.State{inText(1, 0), stop(9)}, 'a', "[t1.1 s8]"},
		{api.State{inText(1, 2), stop(9)}, 'c', "[s8]"},
		{api.State{inNode(6), stop(3)}, 7, "[n5 s7 s2]"},
		{api.State{inNode(6), stop(3)}, 0, "[n5 s0 s2]"},
		{api.State{inNode(9), stop(3)}, 7, "[h9.7 s2]"},
		{api.State{inHalf(9, 0), stop(3)}, 7, "[n8 s7 s2]"},
		{api.State{inNode(0), inRep(9, 3, 4), stop(1), inNode(4), stop(300)}, 'a', "[r9.3.4 s0 n4 s299]"},
		// Where an end is reached, nothing is read, wherever it stands.
		{api.State{inNode(0), stop(0)}, 'a', ""},
		{api.State{inText(1, 0), stop(0)}, 'a', ""},
		{api.State{inText(1, 2), stop(0)}, 'c', ""},
		{api.State{inNode(6), stop(0)}, 0, ""},
		{api.State{inNode(9), stop(0)}, 0, ""},
		{api.State{inHalf(9, 0), stop(0)}, 0, ""},
		{api.State{inNode(0), stop(1), stop(0)}, 'a', ""},
		{api.State{inNode(0), stop(5), inNode(0), stop(9), stop(0), stop(5)}, 'a', ""},
	} {
		if got := toldRead(next.Read(d, x.s, x.c)); got != x.want {
			t.Errorf("Read of %s, %x = %s, want %s", told(x.s), x.c, got, x.want)
		}
	}
}

// P15.1: Read of all bytes, by each kind that reads; and of a half at each of its first bytes.
func TestReadAllBytes(t *testing.T) {
	var odd api.Class
	for c := 1; c < 256; c += 2 {
		odd = class.Add(odd, byte(c))
	}
	bytes, word := sample.Bytes(odd), text("\u00e9")
	box, broad := frame(bytes), wide(bytes)
	hold := func(d api.Desc, s api.State, c byte, want string) {
		t.Helper()
		if got := toldRead(next.Read(d, s, c)); got != want {
			t.Fatalf("Read of %s, %x = %s, want %s", told(s), c, got, want)
		}
	}
	when := func(is bool, want string) string {
		if is {
			return want
		}
		return ""
	}
	for i := range 256 {
		c := byte(i)
		hold(bytes, api.State{inNode(0), stop(1)}, c, when(i%2 == 1, "[s0]"))
		hold(word, api.State{inText(0, 0), stop(1)}, c, when(i == 0xc3, "[t0.1 s0]"))
		hold(word, api.State{inText(0, 1), stop(1)}, c, when(i == 0xa9, "[s0]"))
		hold(box, api.State{inNode(1), stop(1)}, c, fmt.Sprintf("[n0 s%d s0]", i))
		hold(broad, api.State{inNode(1), stop(1)}, c, fmt.Sprintf("[h1.%d s0]", i))
		for k := range 256 {
			hold(broad, api.State{inHalf(1, k), stop(1)}, c, fmt.Sprintf("[n0 s%d s0]", 256*k+i))
		}
	}
}

// P15.1: what starts go on to, written out.
func TestOnOfStarts(t *testing.T) {
	for _, x := range []struct {
		text string
		c    byte
		want string
	}{
		{`()`, 'a', ""},
		{`.`, 'a', "[]"},
		{`<>`, 'a', ""},
		{`<61>`, 'a', "[]"},
		{`<61>`, 'b', ""},
		{`"ab"`, 'a', "[t0.1]"},
		{`"ab"`, 'b', ""},
		{`"a"`, 'a', "[]"},
		{`..`, 'a', "[n1]"},
		{`().`, 'a', "[]"},
		{`(()|.).`, 'a', "[] [n3]"},
		{`(()|())|()`, 'a', ""},
		{`.*`, 'a', "[n1]"},
		{`"ab"*`, 'a', "[t0.1 n1]"},
		{`.{0,0}`, 'a', ""},
		{`.{0,1}`, 'a', "[r1.0.0]"},
		{`.{2,3}`, 'a', "[r1.1.2]"},
		{`.{255,255}`, 'a', "[r1.254.254]"},
		{`b(.)`, 3, "[n0 s3]"},
		{`b(())`, 0, "[n0 s0]"},
		{`w(.)`, 3, "[h1.3]"},
		{`b(.)*`, 3, "[n0 s3 n2]"},
		// Many heads, one state: their ways together.
		{`.|.`, 'a', "[]twice"},
		{`.|.|.`, 'a', "[]twice"},
		{`.|<61>`, 'a', "[]twice"},
		{`.|<61>`, 'b', "[]"},
		{`.|"a"`, 'a', "[]twice"},
		{`"a"|"a"`, 'a', "[]twice"},
		{`"ab"|"ab"`, 'a', "[t0.1] [t1.1]"},
		{`b(.)|b(.)`, 1, "[n0 s1] [n2 s1]"},
		{`(.|.).`, 'a', "[n3]twice"},
		{`(.|<61>|"a"|"ab").`, 'a', "[n7]twice [t5.1 n7]"},
		{`(.|<61>|"a"|"ab").`, 'b', "[n7]"},
		// One head, many ways.
		{`(()|()).`, 'a', "[]twice"},
		{`(()|())"ab"`, 'a', "[t3.1]twice"},
		{`(()|())b(.)`, 9, "[n3 s9]twice"},
		{`(()|())(.|.)`, 'a', "[]twice"},
		{`(()|())(.|"a")`, 'b', "[]twice"},
		{`((()|()).)|.`, 'a', "[]twice"},
		// They rise, whatever the order of the heads.
		{`."ab"|"ab"|.|"ab"*`, 'a', "[] [n1] [t3.1] [t7.1 n8]"},
		{`.*(.|"ab").`, 'a', "[n6] [t3.1 n6] [n1 n4 n6]"},
		{`"ab"|..|w(.)|b(.)`, 'a', "[n2] [t0.1] [h6.97] [n8 s97]"},
		{`w(.)..|(..)|.`, 'a', "[] [n7] [h1.97 n2 n4]"},
	} {
		d := desc(t, x.text)
		if got := toldAll(next.On(d, item.Start(d), x.c)); got != x.want {
			t.Errorf("On of %s, %x = %s, want %s", x.text, x.c, got, x.want)
		}
	}
}

// P15.1: what other states go on to, written out: frames, byte by byte, and ends that are, or aren't, reached.
func TestOnOfStates(t *testing.T) {
	// Nodes: 0 bytes, 1 their star, 2 its frame, 3 a text, 4 its star, 5 its wide frame, 6 the row of both.
	d := desc(t, `b(.*)w("ab"*)`)
	kinds := []int{api.Bytes, api.Star, api.Frame, api.Text, api.Star, api.Wide, api.Seq}
	for i, n := range d.Nodes {
		if n.Kind != kinds[i] {
			t.Fatal(d)
		}
	}
	for _, x := range []struct {
		s    api.State
		c    byte
		want string
	}{
		{nil, 'a', ""},
		{api.State{stop(0)}, 'a', ""},
		{api.State{stop(1)}, 'a', ""},
		{api.State{stop(0), inNode(0)}, 'a', "[]"},
		{api.State{stop(1), inNode(0)}, 'a', ""},
		{api.State{inNode(6)}, 2, "[n1 s2 n5]"},
		{api.State{inNode(1), stop(2), inNode(5)}, 'x', "[n1 s1 n5]"},
		{api.State{inNode(1), stop(1), inNode(5)}, 'x', "[n1 s0 n5]"},
		{api.State{inNode(1), stop(0), inNode(5)}, 0, "[h5.0]"},
		{api.State{inHalf(5, 0)}, 4, "[n4 s4]"},
		{api.State{inNode(4), stop(4)}, 'a', "[t3.1 n4 s3]"},
		{api.State{inText(3, 1), inNode(4), stop(3)}, 'b', "[n4 s2]"},
		{api.State{inNode(4), stop(1)}, 'a', "[t3.1 n4 s0]"},
		{api.State{inText(3, 1), inNode(4), stop(0)}, 'b', ""},
		{api.State{inNode(4), stop(0)}, 'a', ""},
		{api.State{inNode(4), stop(0), inNode(1), stop(65535)}, 'a', "[n1 s65534]"},
		{api.State{inNode(1), stop(9), inNode(1), stop(0)}, 'a', ""},
		{api.State{inNode(2), stop(300)}, 255, "[n1 s255 s299]"},
		{api.State{inNode(5), stop(300)}, 255, "[h5.255 s299]"},
		{api.State{inHalf(5, 255), stop(300)}, 255, "[n4 s65535 s299]"},
		{api.State{inNode(1), inNode(1)}, 'a', "[n1] [n1 n1]"},
		{api.State{inNode(1), inNode(1), inNode(1)}, 'a', "[n1] [n1 n1] [n1 n1 n1]"},
	} {
		if got := toldAll(next.On(d, x.s, x.c)); got != x.want {
			t.Errorf("On of %s, %x = %s, want %s", told(x.s), x.c, got, x.want)
		}
	}
}

// P15.1: Ends, written out.
func TestEndsWrittenOut(t *testing.T) {
	for _, x := range []struct {
		text  string
		items []api.Item // put in front of nothing; of none the start
		want  int
	}{
		{`()`, nil, 1},
		{`.`, nil, 0},
		{`"a"`, nil, 0},
		{`b(())`, nil, 0},
		{`w(())`, nil, 0},
		{`.*`, nil, 1},
		{`.{0,9}`, nil, 1},
		{`.{0,0}`, nil, 1},
		{`.{1,9}`, nil, 0},
		{`()|.`, nil, 1},
		{`.|()`, nil, 1},
		{`()|()`, nil, 2},
		{`()|()|()`, nil, 2},
		{`.*|.*`, nil, 2},
		{`.*.*`, nil, 1},
		{`(()|())(()|())`, nil, 2},
		{`(()|()).`, nil, 0},
		{`.*`, []api.Item{stop(0)}, 1},
		{`.*`, []api.Item{stop(1)}, 0},
		{`.*`, []api.Item{stop(65535)}, 0},
		{`.*`, []api.Item{inNode(1), stop(0)}, 1},
		{`.*`, []api.Item{inNode(1), stop(2)}, 0},
		{`.*`, []api.Item{inNode(1), stop(0), inNode(0)}, 0},
		{`.*`, []api.Item{inNode(1), stop(0), inNode(1), stop(0)}, 1},
		{`()|()`, []api.Item{inNode(2), stop(0)}, 2},
		{`"ab"{1,2}`, []api.Item{inRep(1, 0, 1)}, 1},
		{`"ab"{1,2}`, []api.Item{inRep(1, 0, 0)}, 1},
		{`"ab"{1,2}`, []api.Item{inRep(1, 1, 2)}, 0},
		{`"ab"{1,2}`, []api.Item{inText(0, 1)}, 0},
		{`w(())`, []api.Item{inHalf(1, 0)}, 0},
	} {
		d := desc(t, x.text)
		s := item.Start(d)
		if x.items != nil {
			s = x.items
		}
		if got := next.Ends(d, s); got != x.want {
			t.Errorf("Ends of %s, %s = %d, want %d", x.text, told(s), got, x.want)
		}
	}
	if d := desc(t, `.`); next.Ends(d, nil) != 1 || next.Ends(d, api.State{}) != 1 {
		t.Error("without items")
	}
}

// P15.2: Classes, written out, head by head.
func TestClassesWrittenOut(t *testing.T) {
	all := toldClass(class.Of(0, 255))
	for _, x := range []struct {
		text  string
		items []api.Item // of none the start
		want  string
	}{
		{`()`, nil, ""},
		{`()|()`, nil, ""},
		{`.`, nil, all},
		{`<>`, nil, "none"},
		{`<>|<62>|<>`, nil, "none 62 none"},
		{`<61-63,65>`, nil, "61626365"},
		{`"ab"`, nil, "61"},
		{`"é"`, nil, "c3"},
		{`b(<61>)`, nil, "each"},
		{`w(<61>)`, nil, "each"},
		{`<61>*`, nil, "61"},
		{`<61>*<62>*`, nil, "62 61"},
		{`<61>|<62>|<61>`, nil, "61 62 61"},
		{`<62>|"a"|b(())|w(())`, nil, "62 each each 61"},
		{`"a"<62>|w(())|<63>|"d"`, nil, "each 63 64 61"},
		{`(()|())"ab"`, nil, "61"},
		{`<61>{2,3}"b"`, nil, "61"},
		{`<61>{0,0}"b"`, nil, "62"},
		{`"ab"`, []api.Item{inText(0, 0)}, "61"},
		{`"ab"`, []api.Item{inText(0, 1)}, "62"},
		{`"é"`, []api.Item{inText(0, 1)}, "a9"},
		{`w(<61>)`, []api.Item{inHalf(1, 0)}, "each"},
		{`w(<61>)`, []api.Item{inHalf(1, 255), stop(0)}, "each"},
		{`w(<61>)`, []api.Item{stop(0)}, ""},
		{`w(<61>)`, []api.Item{stop(1), inNode(0)}, ""},
		{`w(<61>)`, []api.Item{stop(0), inNode(0)}, "61"},
		// By what they read, not by whether an end lets them.
		{`w(<61>)`, []api.Item{inNode(0), stop(0)}, "61"},
		{`"ab"`, []api.Item{inText(0, 1), stop(0)}, "62"},
	} {
		d := desc(t, x.text)
		s := item.Start(d)
		if x.items != nil {
			s = x.items
		}
		if got := toldClasses(next.Classes(d, s)); got != x.want {
			t.Errorf("Classes of %s, %s = %s, want %s", x.text, told(s), got, x.want)
		}
	}
	if d := desc(t, `.`); len(next.Classes(d, nil)) != 0 {
		t.Error("without items")
	}
}

// P15.1, P15.2: all right descriptions of a few nodes, from their starts; and from all their states of up to two items.
func TestAllStates(t *testing.T) {
	leaves := []api.Desc{empty(), set(6), text("\u00e9b"), text("\x01")}
	for _, d := range rightTo(4, leaves...) {
		check(t, d, item.Start(d))
	}
	for _, d := range rightTo(3, leaves...) {
		list := items(d)
		for _, a := range list {
			check(t, d, api.State{a})
			for _, b := range list {
				check(t, d, api.State{a, b})
			}
		}
	}
}

// P15.1, P15.2: states of more items, of greater descriptions, some of which are come to in many ways.
func TestSomeStates(t *testing.T) {
	twice := 0
	r := rand.New(rand.NewSource(15))
	for _, text := range []string{
		`((.{1,3})*|"ab"*)(()|.{0,2}|b(.*))`,
		`((.{2,3}(()|"a"))*|.)(()|())(w(.)|"a"*"a"*)`,
		`((.|"ab"){1,2}*)(()|(()|.)(()|.))`,
		`(.{0,2}(.{1,2}){1,2}){0,2}(.*|())`,
		`(<61>|<61-62>|"ab"|"a"|"bc")*(b(.)|w(.*)|b(.))`,
	} {
		d := desc(t, text)
		list := items(d)
		for range 2000 {
			s := make(api.State, 1+r.Intn(5))
			for i := range s {
				s[i] = list[r.Intn(len(list))]
			}
			check(t, d, s)
			for _, b := range on(d, s, 'a') {
				twice += b.Many - 1
			}
		}
	}
	if twice < 1000 {
		t.Error(twice)
	}
}

// P15.1: what is gone on to rises, is there once, has its form, and is come to in one way or two.
func TestOnRises(t *testing.T) {
	for _, d := range rightTo(4, empty(), set(6), text("\x01\x02")) {
		for _, x := range items(d) {
			s := api.State{x, inNode(len(d.Nodes) - 1), stop(3)}
			for _, c := range some[:3] {
				list := next.On(d, s, c)
				for i, b := range list {
					if i > 0 && item.Compare(list[i-1].To, b.To) >= 0 || !item.Form(d, b.To) || b.Many < 1 || b.Many > 2 {
						t.Fatalf("%v: On of %s, %x = %s", d, told(s), c, toldAll(list))
					}
				}
			}
		}
	}
}

// gone are the states that the start goes on to by all bytes of the word, and in how many ways one comes to each.
func gone(d api.Desc, w []byte) []api.Branch {
	list := []api.Branch{{To: item.Start(d), Many: 1}}
	for _, c := range w {
		ways := map[string]api.Branch{}
		for _, from := range list {
			for _, b := range next.On(d, from.To, c) {
				key := item.Key(b.To)
				b.Many = min(ways[key].Many+from.Many*b.Many, api.Sat)
				ways[key] = b
			}
		}
		list = nil
		for _, b := range ways {
			list = append(list, b)
		}
	}
	return list
}

// ways are in how many ways the states end to which the start goes on by the word.
func ways(d api.Desc, w []byte) int {
	n := 0
	for _, b := range gone(d, w) {
		n += b.Many * next.Ends(d, b.To)
	}
	return min(n, api.Sat)
}

// words are all words of up to n bytes of these.
func words(n int, bytes string) []string {
	list := []string{""}
	from := 0
	for range n {
		to := len(list)
		for _, w := range list[from:to] {
			for i := range len(bytes) {
				list = append(list, w+bytes[i:i+1])
			}
		}
		from = to
	}
	return list
}

// P15.3: gone on from a start byte by byte, one ends in as many ways as the word has: all short words of all right descriptions of a few nodes.
func TestWaysOfShortWords(t *testing.T) {
	seen := [api.Sat + 1]int{}
	hold := func(d api.Desc, w string) {
		want := count.Ways(d, []byte(w))
		if got := ways(d, []byte(w)); got != want {
			t.Fatalf("%v: %q ends in %d ways, has %d", d, w, got, want)
		}
		seen[want]++
	}
	list := words(4, "\x00\x01\x02")
	for _, d := range rightTo(3, empty(), set(0), set(3), set(6), text("\x01\x00")) {
		for _, w := range list {
			hold(d, w)
		}
	}
	short := words(4, "\x00\x01")
	for _, d := range rightTo(5, set(7), text("\x01\x00")) {
		for _, w := range short {
			hold(d, w)
		}
	}
	if slices.Min(seen[:]) < 2000 {
		t.Error(seen)
	}
}

// P15.3: the same of longer words, whose frames are about as long as they tell, and of words in which a byte is marred.
func TestWaysOfLongWords(t *testing.T) {
	long := func(n int) string { return strings.Repeat("a", n) }
	for _, x := range []struct {
		text, w string
		want    int
	}{
		{`b(.*)`, "\xff" + long(255), 1},
		{`b(.*)`, "\xff" + long(254), 0},
		{`b(.*)`, "\xff" + long(256), 0},
		{`b(.*)`, "\xfe" + long(255), 0},
		{`w(.*)`, "\x00\xff" + long(255), 1},
		{`w(.*)`, "\x01\x00" + long(256), 1},
		{`w(.*)`, "\x01\x00" + long(255), 0},
		{`w(.*)`, "\x00\x01" + long(256), 0},
		{`w(.*)`, "\x02\x01" + long(513), 1},
		{`w(.*)`, "\x02\x01" + long(514), 0},
		{`w(.*.*)`, "\x01\x02" + long(258), 2},
		{`b(w(.*))`, "\xff\x00\xfd" + long(253), 1},
		{`b(w(.*))`, "\xff\x00\xfc" + long(253), 0},
		{`b(w(.*)*)`, "\x07\x00\x01a\x00\x02aa", 1},
		{`b(w(.*)*)`, "\x08\x00\x01a\x00\x02aa", 0},
		{`w(b(.*)*)`, "\x01\x02\xff" + long(255) + "\x01a", 1},
		{`w(b(.*)|.*)`, "\x01\x00\xff" + long(255), 2},
		{`.{255,255}`, long(255), 1},
		{`.{255,255}`, long(254), 0},
		{`.{255,255}`, long(256), 0},
		{`(.|"aa"){255,255}`, long(256), 2},
		{`(.|"aa"){255,255}`, long(510), 1},
		{`(.|"aa"){255,255}`, long(511), 0},
		{`("aab"|"aa"|"b")*`, "aabaaaab", 2},
		{`("aab"|"a")*`, "aabaaaab", 1},
	} {
		d := desc(t, x.text)
		if got := ways(d, []byte(x.w)); got != x.want || count.Ways(d, []byte(x.w)) != x.want {
			t.Errorf("%s: %.9q of %d bytes ends in %d ways, has %d", x.text, x.w, len(x.w), got, x.want)
		}
	}
}

// P15.3: by bytes that are of one part of the classes one goes on to the same states.
func TestPartsGoOnAlike(t *testing.T) {
	parts := map[int]int{}
	for _, d := range rightTo(3, empty(), set(6), text("\u00e9b")) {
		list := items(d)
		for _, a := range list {
			for _, b := range list {
				s := api.State{a, b, inNode(len(d.Nodes) - 1)}
				all := split.Parts(next.Classes(d, s))
				parts[len(all)]++
				if len(all) == 256 {
					continue
				}
				for _, part := range all {
					least, _ := class.Least(part)
					want := toldAll(next.On(d, s, least))
					for c := range 256 {
						if class.Has(part, byte(c)) && toldAll(next.On(d, s, byte(c))) != want {
							t.Fatalf("%v: %s goes on by %x and %x, of one part, to other states", d, told(s), least, c)
						}
					}
				}
			}
		}
	}
	if parts[1] < 100 || parts[2] < 100 || parts[256] < 100 {
		t.Error(parts)
	}
}

// P15.1: ways that are too many to be gone one by one.
func TestVeryManyWays(t *testing.T) {
	choice, bytes := or(empty(), empty()), set(6)
	row, many := choice, bytes
	for range 100 {
		row, many = seq(row, choice), or(many, bytes)
	}
	for i, x := range []struct {
		d    api.Desc
		want string
		ends int
	}{
		{row, "", 2},
		{many, "[]twice", 0},
		{seq(row, many), "[]twice", 0},
		{or(row, many), "[]twice", 2},
		{seq(row, or(many, row)), "[]twice", 2},
	} {
		s := item.Start(x.d)
		if got := toldAll(next.On(x.d, s, 1)); got != x.want {
			t.Errorf("%d: On = %s, want %s", i, got, x.want)
		}
		if got := next.On(x.d, s, 3); len(got) != 0 {
			t.Errorf("%d: On of a byte that isn't read = %s", i, toldAll(got))
		}
		if got := next.Ends(x.d, s); got != x.ends {
			t.Errorf("%d: Ends = %d", i, got)
		}
	}
	if got := next.Classes(many, item.Start(many)); len(got) != 101 {
		t.Error(len(got))
	}
}

// P15.1, P15.2: descriptions as deep as may be, and states as long.
func TestDeep(t *testing.T) {
	const deep = 1 << 16
	single := api.Node{Kind: api.Bytes, Class: api.Class{6}}
	row := sample.Chain(deep, single, api.Node{Kind: api.Seq})
	if got := toldAll(next.On(row, item.Start(row), 1)); got != fmt.Sprintf("[n%d]", 2*deep-1) {
		t.Error(got)
	}
	choices := sample.Chain(deep, single, api.Node{Kind: api.Or})
	if got := toldAll(next.On(choices, item.Start(choices), 1)); got != "[]twice" {
		t.Error(got)
	}
	if got := next.Classes(choices, item.Start(choices)); len(got) != deep+1 || got[0] != single.Class || got[deep] != single.Class {
		t.Error(len(got))
	}
	nothing := sample.Chain(deep, api.Node{Kind: api.Empty}, api.Node{Kind: api.Or})
	if next.Ends(nothing, item.Start(nothing)) != 2 || len(next.On(nothing, item.Start(nothing), 1)) != 0 {
		t.Error("nothing, in very many ways")
	}
	repeats := sample.Chain(deep, single, api.Node{Kind: api.Rep, Lo: 1, Hi: 2})
	if got := next.On(repeats, item.Start(repeats), 1); len(got) != 1 || len(got[0].To) != deep || got[0].To[0] != inRep(1, 0, 1) {
		t.Error(len(got))
	}
	// A state as long, with ends in it.
	d := desc(t, `w(.*)`)
	long := append(api.State{inNode(0)}, slices.Repeat(api.State{stop(65535), inNode(1)}, deep)...)
	want := slices.Repeat(api.State{stop(65534), inNode(1)}, deep)
	if got := next.On(d, long, 'a'); len(got) != 1 || got[0].Many != 1 || !slices.Equal(got[0].To, want) {
		t.Error("a long state")
	}
	if got, ok := next.Read(d, append(long, stop(0)), 'a'); ok || got != nil {
		t.Error("a long state with an end that is reached")
	}
	word := text(strings.Repeat("a", deep-1) + "b")
	if got := toldRead(next.Read(word, api.State{inText(0, deep-2)}, 'a')); got != fmt.Sprintf("[t0.%d]", deep-1) {
		t.Error(got)
	}
	if got := toldRead(next.Read(word, api.State{inText(0, deep-1)}, 'b')); got != "[]" {
		t.Error(got)
	}
}

// P15.4: what is handed in stays, the room behind it included; and all that is answered is new.
func TestArgumentsStay(t *testing.T) {
	// By a, some states go on to one state in two ways, and then to greater ones.
	d := desc(t, `(()|"ab"|<61-62>*)(<61>|<61>{1,2}|b(.)|(<61>|"ab"|w(<61>)))`)
	mark := api.Item{Kind: 77, Node: 77}
	nodes := append(slices.Clone(d.Nodes), api.Node{Kind: 88})
	for _, x := range items(d) {
		for _, c := range some {
			s := api.State{x, inNode(len(d.Nodes) - 1), stop(3), inNode(2)}
			room := append(slices.Clone(s), mark, mark, mark)
			given := api.Desc{Nodes: slices.Clone(nodes)}
			given.Nodes = given.Nodes[:len(d.Nodes)]
			in := room[:len(s)]
			var lists []api.State
			if heads.Ready(given, in) {
				to, _ := next.Read(given, in, c)
				lists = append(lists, to)
			}
			branches := next.On(given, in, c)
			for _, b := range branches[:cap(branches)] {
				lists = append(lists, b.To)
			}
			next.Ends(given, in)
			list := next.Classes(given, in)
			clear(list[:cap(list)])
			var want []string
			for _, l := range lists {
				want = append(want, told(l))
			}
			// Whoever writes into an answer, and into the room behind it, changes nothing else.
			for i, l := range lists {
				if told(l) != want[i] {
					t.Fatalf("%s has become %s", want[i], told(l))
				}
				all := l[:cap(l)]
				for k := range all {
					all[k] = api.Item{Kind: 66}
				}
			}
			if !slices.Equal(room, append(slices.Clone(s), mark, mark, mark)) || !slices.Equal(given.Nodes[:len(nodes)], nodes) {
				t.Fatalf("%s: what was handed in has changed", told(s))
			}
		}
	}
}

// P15.4: answers don't hang on what was asked before, nor on what was done to earlier answers.
func TestSameEachTime(t *testing.T) {
	d := desc(t, `(()|.|"a"|.*)(()|.|"b"|.{0,3})(()|(.|b(.)){1,2})(()|.)`)
	s := api.State{inNode(len(d.Nodes) - 1), inNode(0), inNode(len(d.Nodes) - 1)}
	first, apart := toldAll(next.On(d, s, 'a')), toldClasses(next.Classes(d, s))
	ends := next.Ends(d, s)
	for range 100 {
		list, classes := next.On(d, s, 'a'), next.Classes(d, s)
		if toldAll(list) != first || toldClasses(classes) != apart || next.Ends(d, s) != ends {
			t.Fatal("another answer")
		}
		clear(list)
		clear(classes)
	}
	if !strings.Contains(first, "twice") || !strings.Contains(apart, "each") {
		t.Error(first, apart)
	}
}

// Whatever is handed in, a call ends, and doesn't panic: nodes and items without their form, and states that aren't ready.
func TestWithoutForm(t *testing.T) {
	far := []int{math.MinInt, -1, 0, 1, 2, 3, math.MaxInt}
	var descs []api.Desc
	for kind := -1; kind <= api.Kinds+1; kind++ {
		for _, a := range far {
			for _, text := range []string{"", "ab"} {
				n := api.Node{Kind: kind, A: a, B: a, Lo: a, Hi: a, Text: text, Class: api.Class{6}}
				descs = append(descs, api.Desc{Nodes: []api.Node{n, n, n}}, api.Desc{Nodes: []api.Node{{Kind: api.Empty}, n, {Kind: api.Or, B: 1}}})
			}
		}
	}
	void := []api.Node{{Kind: api.Empty}, {Kind: api.Star}, {Kind: api.Star, A: 1}, {Kind: api.Rep, A: 2, Lo: 3, Hi: math.MaxInt}}
	descs = append(descs, api.Desc{}, api.Desc{Nodes: void})
	for _, d := range descs {
		states := []api.State{nil, {}, item.Start(d), {inNode(0), inNode(1), inNode(2)}}
		for kind := -1; kind <= api.InStop+1; kind++ {
			for _, i := range far {
				for _, n := range far {
					states = append(states, api.State{{Kind: kind, Node: i, Lo: n, Hi: n}, stop(n)}, api.State{{Kind: kind, Node: 1, Lo: i, Hi: n}, inNode(2)})
				}
			}
		}
		for _, s := range states {
			if to, ok := next.Read(d, s, 'a'); !ok && to != nil || ok && len(s) == 0 {
				t.Fatal(d, s, to, ok)
			}
			next.On(d, s, 1)
			next.Ends(d, s)
			next.Classes(d, s)
		}
	}
}

// A state that isn't ready reads nothing, though On goes on from it.
func TestNotReady(t *testing.T) {
	d := desc(t, `(.{1,2}|.*)("ab"())`)
	for _, s := range []api.State{{inNode(1)}, {inRep(1, 1, 2)}, {inNode(3)}, {inNode(4)}, {inNode(5)}, {inNode(6)}, {inNode(7)}, {inNode(8)}, {stop(0), inNode(0)}, {stop(1)}} {
		if got, ok := next.Read(d, s, 'a'); ok || got != nil || heads.Ready(d, s) {
			t.Error(told(s), got, ok)
		}
	}
	if got := toldAll(next.On(d, api.State{inNode(4)}, 'a')); got != "[n3] [r1.0.1]" {
		t.Error(got)
	}
}

// The chapter's example: a Bytes goes on by its byte to the state without items.
func TestExample(t *testing.T) {
	d := set(2)
	list := next.On(d, item.Start(d), 1)
	if len(list) != 1 || len(list[0].To) != 0 || list[0].Many != 1 || next.Ends(d, list[0].To) != 1 {
		t.Error(toldAll(list))
	}
}
