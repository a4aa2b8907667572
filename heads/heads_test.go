package heads_test

import (
	"fmt"
	"math"
	"math/rand"
	"slices"
	"strings"
	"testing"

	"scantling/api"
	"scantling/heads"
	"scantling/item"
	"scantling/null"
	"scantling/sample"
	"scantling/valid"
)

// What descriptions are built of.
var (
	empty, text            = sample.Empty, sample.Text
	seq, or                = sample.Seq, sample.Or
	star, rep, frame, wide = sample.Star, sample.Rep, sample.Frame, sample.Wide
)

// set is a Bytes of some of the first bytes.
func set(first uint64) api.Desc { return sample.Bytes(api.Class{first}) }

// The items of each kind.
func inNode(node int) api.Item        { return api.Item{Kind: api.InNode, Node: node} }
func inRep(node, lo, hi int) api.Item { return api.Item{Kind: api.InRep, Node: node, Lo: lo, Hi: hi} }
func inText(node, lo int) api.Item    { return api.Item{Kind: api.InText, Node: node, Lo: lo} }
func inHalf(node, lo int) api.Item    { return api.Item{Kind: api.InHalf, Node: node, Lo: lo} }
func stop(lo int) api.Item            { return api.Item{Kind: api.InStop, Lo: lo} }

// read is the description of a text.
func read(t *testing.T, text string) api.Desc {
	t.Helper()
	d, fault, at := valid.Read(text)
	if fault != api.OK {
		t.Fatal(text, fault, at)
	}
	return d
}

// told tells a state shortly, by letters for the items' kinds.
func told(s api.State) string {
	var list []string
	for _, x := range s {
		switch x {
		case inNode(x.Node):
			list = append(list, fmt.Sprintf("n%d", x.Node))
		case inRep(x.Node, x.Lo, x.Hi):
			list = append(list, fmt.Sprintf("r%d.%d.%d", x.Node, x.Lo, x.Hi))
		case inText(x.Node, x.Lo):
			list = append(list, fmt.Sprintf("t%d.%d", x.Node, x.Lo))
		case inHalf(x.Node, x.Lo):
			list = append(list, fmt.Sprintf("h%d.%d", x.Node, x.Lo))
		case stop(x.Lo):
			list = append(list, fmt.Sprintf("s%d", x.Lo))
		default:
			list = append(list, fmt.Sprint(x))
		}
	}
	return "[" + strings.Join(list, " ") + "]"
}

// toldAll tells states, one behind the other.
func toldAll(states []api.State) string {
	var list []string
	for _, s := range states {
		list = append(list, told(s))
	}
	return strings.Join(list, " ")
}

// toldHeads tells heads, one behind the other, and of those of two ways so.
func toldHeads(heads []api.Branch) string {
	var list []string
	for _, h := range heads {
		switch h.Many {
		case 1:
			list = append(list, told(h.To))
		case 2:
			list = append(list, told(h.To)+"twice")
		default:
			list = append(list, fmt.Sprint(told(h.To), h.Many))
		}
	}
	return strings.Join(list, " ")
}

// readyState is Ready, by the chapter's words.
func readyState(d api.Desc, s api.State) bool {
	if len(s) == 0 {
		return true
	}
	switch x := s[0]; x.Kind {
	case api.InNode:
		return slices.Contains([]int{api.Bytes, api.Frame, api.Wide}, d.Nodes[x.Node].Kind)
	case api.InText:
		return true
	case api.InHalf:
		return true
	}
	return false
}

// opened is Open, by the chapter's words.
func opened(d api.Desc, s api.State) []api.State {
	x, behind := s[0], s[1:]
	to := func(list ...api.Item) api.State { return slices.Concat(list, behind) }
	if x.Kind == api.InStop {
		if x.Lo == 0 {
			return []api.State{to()}
		}
		return nil
	}
	n := d.Nodes[x.Node]
	if x.Kind == api.InRep {
		var list []api.State
		if x.Lo == 0 {
			list = append(list, to())
		}
		if x.Hi != 0 {
			less := 0
			if x.Lo != 0 {
				less = x.Lo - 1
			}
			list = append(list, to(inNode(n.A), inRep(x.Node, less, x.Hi-1)))
		}
		return list
	}
	return map[int][]api.State{
		api.Empty: {to()},
		api.Text:  {to(inText(x.Node, 0))},
		api.Seq:   {to(inNode(n.A), inNode(n.B))},
		api.Or:    {to(inNode(n.A)), to(inNode(n.B))},
		api.Star:  {to(), to(inNode(n.A), x)},
		api.Rep:   {to(inRep(x.Node, n.Lo, n.Hi))},
	}[n.Kind]
}

// headed is Heads, by the chapter's words: all ways gone one by one.
func headed(d api.Desc, s api.State) []api.Branch {
	var list []api.Branch
	var walk func(s api.State)
	walk = func(s api.State) {
		if !readyState(d, s) {
			for _, to := range opened(d, s) {
				walk(to)
			}
			return
		}
		i := slices.IndexFunc(list, func(h api.Branch) bool { return slices.Equal(h.To, s) })
		if i < 0 {
			list = append(list, api.Branch{To: s, Many: 1})
		} else {
			list[i].Many = 2
		}
	}
	walk(s)
	slices.SortFunc(list, func(a, b api.Branch) int { return item.Compare(a.To, b.To) })
	return list
}

// check holds the calls against the chapter's words, of one state.
func check(t *testing.T, d api.Desc, s api.State) {
	t.Helper()
	ready := heads.Ready(d, s)
	if ready != readyState(d, s) {
		t.Fatalf("%v: Ready of %s = %v", d, told(s), ready)
	}
	if !ready {
		if got, want := toldAll(heads.Open(d, s)), toldAll(opened(d, s)); got != want {
			t.Fatalf("%v: Open of %s = %s, want %s", d, told(s), got, want)
		}
	}
	if got, want := toldHeads(heads.Heads(d, s)), toldHeads(headed(d, s)); got != want {
		t.Fatalf("%v: Heads of %s = %s, want %s", d, told(s), got, want)
	}
}

// rightTo are all right descriptions of up to n nodes, of a few leaves and bounds.
func rightTo(n int) []api.Desc {
	leaves := []api.Desc{empty(), set(6), text("\u00e9b")}
	list := sample.AllTo(n, leaves, [2]int{0, 0}, [2]int{0, 2}, [2]int{1, 3})
	return slices.DeleteFunc(list, func(d api.Desc) bool { return !null.Right(d) })
}

// items are the items of a description: of stops, and of halves, the edges alone.
func items(d api.Desc) []api.Item {
	list := []api.Item{stop(0), stop(1), stop(65535)}
	for i, n := range d.Nodes {
		list = append(list, inNode(i))
		switch n.Kind {
		case api.Rep:
			for hi := 0; hi <= n.Hi; hi++ {
				for lo := 0; lo <= hi; lo++ {
					list = append(list, inRep(i, lo, hi))
				}
			}
		case api.Text:
			for lo := 0; lo < len(n.Text); lo++ {
				list = append(list, inText(i, lo))
			}
		case api.Wide:
			list = append(list, inHalf(i, 0), inHalf(i, 255))
		}
	}
	return list
}

// P14.1: Ready, of each kind of item and node, whatever stands behind.
func TestReadyWrittenOut(t *testing.T) {
	d := read(t, `(()|"ab")(.{1,2}|.*)(b(.)|w(.))`)
	kinds := []int{api.Empty, api.Text, api.Or, api.Bytes, api.Rep, api.Bytes, api.Star, api.Or, api.Seq, api.Bytes, api.Frame, api.Bytes, api.Wide, api.Or, api.Seq}
	if len(d.Nodes) != len(kinds) {
		t.Fatal(d)
	}
	if !heads.Ready(d, nil) || !heads.Ready(d, api.State{}) {
		t.Error("without items")
	}
	behind := []api.State{nil, {inNode(3)}, {inNode(0)}, {stop(0)}, {stop(5), inText(1, 1)}}
	hold := func(x api.Item, want bool) {
		t.Helper()
		for _, b := range behind {
			s := append(api.State{x}, b...)
			if got := heads.Ready(d, s); got != want {
				t.Errorf("Ready of %s = %v", told(s), got)
			}
		}
	}
	for i, kind := range kinds {
		if d.Nodes[i].Kind != kind {
			t.Fatal(d)
		}
		hold(inNode(i), kind == api.Bytes || kind == api.Frame || kind == api.Wide)
	}
	hold(inRep(4, 0, 0), false)
	hold(inRep(4, 0, 1), false)
	hold(inRep(4, 1, 2), false)
	hold(inText(1, 0), true)
	hold(inText(1, 1), true)
	hold(inHalf(12, 0), true)
	hold(inHalf(12, 255), true)
	hold(stop(0), false)
	hold(stop(1), false)
	hold(stop(65535), false)
}

// P14.1: Open, written out, of each kind of item and node, in the order that is told.
func TestOpenWrittenOut(t *testing.T) {
	// Nodes: 0 nothing, 1 a text, 2 their choice, 3 bytes, 4 their repeat, 5 bytes, 6 their star, 7 the choice of both, 8 the row of both choices.
	d := read(t, `(()|"ab")(.{2,3}|.*)`)
	for _, x := range []struct {
		s    api.State
		want string
	}{
		{api.State{stop(0)}, "[]"},
		{api.State{stop(1)}, ""},
		{api.State{stop(65535), inNode(0)}, ""},
		{api.State{stop(0), stop(0), inNode(3)}, "[s0 n3]"},
		{api.State{stop(0), stop(9)}, "[s9]"},
		{api.State{inNode(0)}, "[]"},
		{api.State{inNode(0), inNode(0), stop(3)}, "[n0 s3]"},
		{api.State{inNode(1)}, "[t1.0]"},
		{api.State{inNode(1), inNode(1)}, "[t1.0 n1]"},
		{api.State{inNode(8)}, "[n2 n7]"},
		{api.State{inNode(8), stop(4)}, "[n2 n7 s4]"},
		{api.State{inNode(2)}, "[n0] [n1]"},
		{api.State{inNode(7)}, "[n4] [n6]"},
		{api.State{inNode(7), inNode(8), inRep(4, 0, 1)}, "[n4 n8 r4.0.1] [n6 n8 r4.0.1]"},
		{api.State{inNode(6)}, "[] [n5 n6]"},
		{api.State{inNode(6), inNode(6)}, "[n6] [n5 n6 n6]"},
		{api.State{inNode(4)}, "[r4.2.3]"},
		{api.State{inNode(4), stop(2)}, "[r4.2.3 s2]"},
		{api.State{inRep(4, 2, 3)}, "[n3 r4.1.2]"},
		{api.State{inRep(4, 3, 3), stop(2)}, "[n3 r4.2.2 s2]"},
		{api.State{inRep(4, 1, 1)}, "[n3 r4.0.0]"},
		{api.State{inRep(4, 1, 2)}, "[n3 r4.0.1]"},
		{api.State{inRep(4, 0, 1)}, "[] [n3 r4.0.0]"},
		{api.State{inRep(4, 0, 3), inText(1, 1)}, "[t1.1] [n3 r4.0.2 t1.1]"},
		{api.State{inRep(4, 0, 0)}, "[]"},
		{api.State{inRep(4, 0, 0), inRep(4, 0, 0)}, "[r4.0.0]"},
	} {
		if got := toldAll(heads.Open(d, x.s)); got != x.want {
			t.Errorf("Open of %s = %s, want %s", told(x.s), got, x.want)
		}
	}
}

// P14.1: heads of starts, written out.
func TestHeadsOfStarts(t *testing.T) {
	for _, x := range []struct{ text, want string }{
		{`()`, "[]"},
		{`.`, "[n0]"},
		{`<>`, "[n0]"},
		{`"ab"`, "[t0.0]"},
		{`b(.)`, "[n1]"},
		{`w(())`, "[n1]"},
		{`..`, "[n0 n1]"},
		{`.*`, "[] [n0 n1]"},
		{`b(.)*`, "[] [n1 n2]"},
		{`.{0,0}`, "[]"},
		{`.{0,1}`, "[] [n0 r1.0.0]"},
		{`.{1,1}`, "[n0 r1.0.0]"},
		{`.{0,255}`, "[] [n0 r1.0.254]"},
		{`.{255,255}`, "[n0 r1.254.254]"},
		{`(.{2,3}){0,4}`, "[] [n0 r1.1.2 r2.0.3]"},
		{`.|()`, "[] [n0]"},
		{`.|.`, "[n0] [n1]"},
		{`()|()`, "[]twice"},
		{`()|()|()`, "[]twice"},
		{`()|.*`, "[]twice [n1 n2]"},
		{`.*|.{0,7}`, "[]twice [n0 n1] [n2 r3.0.6]"},
		{`()().`, "[n3]"},
		{`.*.*`, "[] [n2 n3] [n0 n1 n3]"},
		{`(()|())(()|())`, "[]twice"},
		{`(()|()).`, "[n3]twice"},
		{`(()|())(.|"a"*)`, "[]twice [n3]twice [t4.0 n5]twice"},
		{`(()|.)(()|())`, "[]twice [n1 n5]"},
		{`((.|"a")b(())){1,2}*`, "[] [n0 n4 r6.0.1 n7] [t1.0 n4 r6.0.1 n7]"},
		{`<>*`, "[] [n0 n1]"},
		{`(.|.)*`, "[] [n0 n3] [n1 n3]"},
		{`.*|(.*|(.*|()))`, "[]twice [n0 n1] [n2 n3] [n4 n5]"},
	} {
		d := read(t, x.text)
		if got := toldHeads(heads.Heads(d, item.Start(d))); got != x.want {
			t.Errorf("Heads of %s = %s, want %s", x.text, got, x.want)
		}
	}
}

// P14.1: heads of other states, written out.
func TestHeadsOfStates(t *testing.T) {
	// Nodes: 0 nothing, 1 a text, 2 their choice, 3 bytes, 4 their repeat, 5 its star, 6 a row, 7 nothing, 8 nothing, 9 its wide frame, 10 a choice, 11 the row of all.
	d := read(t, `((()|"ab")(.{1,3})*)(()|w(()))`)
	kinds := []int{api.Empty, api.Text, api.Or, api.Bytes, api.Rep, api.Star, api.Seq, api.Empty, api.Empty, api.Wide, api.Or, api.Seq}
	for i, n := range d.Nodes {
		if n.Kind != kinds[i] {
			t.Fatal(d)
		}
	}
	for _, x := range []struct {
		s    api.State
		want string
	}{
		{nil, "[]"},
		{api.State{}, "[]"},
		{api.State{stop(0)}, "[]"},
		{api.State{stop(0), stop(0), stop(0)}, "[]"},
		{api.State{stop(1)}, ""},
		{api.State{stop(0), stop(1), stop(0)}, ""},
		{api.State{stop(65535)}, ""},
		{api.State{inText(1, 0)}, "[t1.0]"},
		{api.State{inText(1, 1), stop(0)}, "[t1.1 s0]"},
		{api.State{inText(1, 1), stop(5), inNode(2)}, "[t1.1 s5 n2]"},
		{api.State{inHalf(9, 0)}, "[h9.0]"},
		{api.State{inHalf(9, 255), inNode(0)}, "[h9.255 n0]"},
		{api.State{inNode(3), inNode(0)}, "[n3 n0]"},
		{api.State{inNode(9), inNode(5)}, "[n9 n5]"},
		{api.State{inNode(5), stop(2)}, "[n3 r4.0.2 n5 s2]"},
		{api.State{inNode(5), stop(0)}, "[] [n3 r4.0.2 n5 s0]"},
		{api.State{inNode(0), stop(0), inNode(2)}, "[] [t1.0]"},
		{api.State{inNode(2), stop(0), inNode(2)}, "[] [t1.0] [t1.0 s0 n2]"},
		{api.State{inNode(2), stop(1), inNode(2)}, "[t1.0 s1 n2]"},
		{api.State{inNode(2), inNode(2), inNode(2)}, "[] [t1.0] [t1.0 n2] [t1.0 n2 n2]"},
		{api.State{inRep(4, 0, 0), inNode(3)}, "[n3]"},
		{api.State{inRep(4, 0, 0), inRep(4, 1, 1)}, "[n3 r4.0.0]"},
		{api.State{inRep(4, 0, 2), inRep(4, 0, 1)}, "[] [n3 r4.0.0] [n3 r4.0.1 r4.0.1]"},
		{api.State{inRep(4, 2, 2), inRep(4, 0, 1)}, "[n3 r4.1.1 r4.0.1]"},
		// Both ways come to one head: with the repeat gone on, and with the star's next one begun.
		{api.State{inRep(4, 0, 2), inNode(5)}, "[] [n3 r4.0.1 n5] [n3 r4.0.2 n5]"},
		{api.State{inRep(4, 0, 3), inNode(5)}, "[] [n3 r4.0.2 n5]twice"},
	} {
		if got := toldHeads(heads.Heads(d, x.s)); got != x.want {
			t.Errorf("Heads of %s = %s, want %s", told(x.s), got, x.want)
		}
	}
}

// P14.1: all right descriptions of a few nodes, from their starts; and from all their states of up to two items.
func TestAllStates(t *testing.T) {
	for _, d := range rightTo(5) {
		check(t, d, item.Start(d))
	}
	for _, d := range rightTo(3) {
		list := items(d)
		for _, a := range list {
			check(t, d, api.State{a})
			for _, b := range list {
				check(t, d, api.State{a, b})
			}
		}
	}
}

// P14.1: states of more items, of greater descriptions, some of which one comes to in many ways.
func TestSomeStates(t *testing.T) {
	twice := 0
	r := rand.New(rand.NewSource(14))
	for _, text := range []string{
		`((.{1,3})*|"ab"*)(()|.{0,2}|b(.*))`,
		`((.{2,3}(()|"x"))*|.)(()|())(w(.)|"a"*"a"*)`,
		`((.|"ab"){1,2}*)(()|(()|.)(()|.))`,
		`(.{0,2}(.{1,2}){1,2}){0,2}(.*|())`,
	} {
		d := read(t, text)
		list := items(d)
		for range 20000 {
			s := make(api.State, 1+r.Intn(5))
			for i := range s {
				s[i] = list[r.Intn(len(list))]
			}
			check(t, d, s)
			for _, h := range headed(d, s) {
				twice += h.Many - 1
			}
		}
	}
	if twice < 10000 {
		t.Error(twice)
	}
}

// P14.1: what is answered is ready, rises, and is there once; of a ready state it is itself.
func TestHeadsAreReady(t *testing.T) {
	for _, d := range rightTo(4) {
		for _, x := range items(d) {
			s := api.State{x, inNode(len(d.Nodes) - 1), stop(3)}
			list := heads.Heads(d, s)
			for i, h := range list {
				if !heads.Ready(d, h.To) || i > 0 && item.Compare(list[i-1].To, h.To) >= 0 || !item.Form(d, h.To) {
					t.Fatalf("%v: Heads of %s = %s", d, told(s), toldHeads(list))
				}
			}
			if heads.Ready(d, s) && toldHeads(list) != told(s) {
				t.Fatalf("%v: Heads of %s, which is ready, = %s", d, told(s), toldHeads(list))
			}
		}
	}
}

// P14.2: of a start the state without items is a head in as many ways as the description has of nothing.
func TestWaysOfNothing(t *testing.T) {
	seen := map[int]int{}
	for _, d := range rightTo(6) {
		ways := 0
		for _, h := range heads.Heads(d, item.Start(d)) {
			if len(h.To) == 0 {
				ways += h.Many
			}
		}
		if want := null.Ways(d, len(d.Nodes)-1); ways != want {
			t.Fatalf("%v: %d ways, of nothing %d", d, ways, want)
		}
		seen[ways]++
	}
	if seen[0] < 1000 || seen[1] < 1000 || seen[2] < 900 {
		t.Error(seen)
	}
}

// P14.1: ways that are as many as can't be gone one by one.
func TestVeryManyWays(t *testing.T) {
	choice := or(empty(), empty())
	both := or(choice, or(set(6), empty()))
	row, tail := choice, both
	for range 100 {
		row, tail = seq(row, choice), seq(both, tail)
	}
	for _, x := range []struct {
		d          api.Desc
		want, once int // how many heads, and which of them one comes to in one way
	}{{row, 1, -1}, {tail, 102, 2}, {or(row, row), 1, -1}, {seq(row, seq(row, tail)), 102, -1}} {
		list := heads.Heads(x.d, item.Start(x.d))
		if len(list) != x.want || len(list[0].To) != 0 {
			t.Error(len(list), list[0], x.want)
		}
		for i, h := range list {
			if (h.Many == 1) != (i == x.once) || h.Many > 2 {
				t.Errorf("head %d is come to in %d ways", i, h.Many)
			}
		}
	}
	// States of many items, each of which may be nothing.
	d := read(t, `(()|())(()|.)`)
	many := slices.Repeat(api.State{inNode(2), stop(0)}, 1000)
	if got := toldHeads(heads.Heads(d, many)); got != "[]twice" {
		t.Error(got)
	}
	once := append(slices.Repeat(api.State{inNode(0), stop(0)}, 1<<16), inNode(5))
	if got := toldHeads(heads.Heads(d, once)); got != "[] [n4]" {
		t.Error(got)
	}
	if got := heads.Heads(d, append(once, stop(1))); len(got) != 1 || len(got[0].To) != 2 {
		t.Error(got)
	}
}

// P14.1: descriptions as deep as may be, and states as long.
func TestDeep(t *testing.T) {
	const deep = 1 << 16
	single := api.Node{Kind: api.Bytes, Class: api.Class{6}}
	nothing := api.Node{Kind: api.Empty}
	rest := func(k int) string { return fmt.Sprintf("n%d", k) }
	for _, x := range []struct {
		d    api.Desc
		want string
	}{
		{sample.Chain(deep, nothing, api.Node{Kind: api.Seq}), "[]"},
		{sample.Chain(deep, nothing, api.Node{Kind: api.Or}), "[]twice"},
		{sample.Chain(deep, single, api.Node{Kind: api.Seq}), "[n0 " + rest(2*deep-1) + "]"},
		{left(deep, nothing), "[]"},
		{seq(left(deep, nothing), set(6)), "[" + rest(2*deep+1) + "]"},
	} {
		if got := toldHeads(heads.Heads(x.d, item.Start(x.d))); got != x.want {
			t.Errorf("%.60s, want %s", got, x.want)
		}
	}
	whole := heads.Heads(left(deep, single), api.State{inNode(2 * deep)})
	if len(whole) != 1 || len(whole[0].To) != deep+1 || whole[0].To[0] != inNode(0) || whole[0].To[deep] != inNode(2*deep-1) {
		t.Error(len(whole))
	}
	choices := heads.Heads(sample.Chain(deep, single, api.Node{Kind: api.Or}), api.State{inNode(2 * deep), stop(9)})
	if len(choices) != deep+1 || told(choices[deep].To) != "["+rest(deep)+" s9]" {
		t.Error(len(choices))
	}
	stars := sample.Chain(deep, single, api.Node{Kind: api.Frame})
	if got := toldHeads(heads.Heads(stars, item.Start(stars))); got != "["+rest(deep)+"]" {
		t.Error(got)
	}
	repeats := sample.Chain(deep, single, api.Node{Kind: api.Rep, Lo: 1, Hi: 2})
	if got := heads.Heads(repeats, item.Start(repeats)); len(got) != 1 || len(got[0].To) != deep+1 || got[0].To[1] != inRep(1, 0, 1) {
		t.Error(len(got))
	}
}

// left is a row of leaves, each of whose rows is the first part of the next one.
func left(steps int, leaf api.Node) api.Desc {
	list := []api.Node{leaf}
	for i := range steps {
		list = append(list, leaf, api.Node{Kind: api.Seq, A: 2 * i, B: 2*i + 1})
	}
	return api.Desc{Nodes: list}
}

// P14.3: what is handed in stays, the room behind it included; and all that is answered is new.
func TestArgumentsStay(t *testing.T) {
	d := read(t, `(()|"ab"|.*)(.{1,2}|b(.)|(.|()))`)
	mark := api.Item{Kind: 77, Node: 77}
	nodes := append(slices.Clone(d.Nodes), api.Node{Kind: 88})
	for _, x := range items(d) {
		s := api.State{x, inNode(len(d.Nodes) - 1), stop(0), inNode(2)}
		room := append(slices.Clone(s), mark, mark, mark)
		given := api.Desc{Nodes: slices.Clone(nodes)}
		given.Nodes = given.Nodes[:len(d.Nodes)]
		in := room[:len(s)]
		ready := heads.Ready(given, in)
		var lists []api.State
		if !ready {
			lists = heads.Open(given, in)
		}
		for _, h := range heads.Heads(given, in) {
			lists = append(lists, h.To)
		}
		var want []string
		for _, l := range lists {
			want = append(want, told(l))
		}
		// Whoever writes into an answer, and into the room behind it, changes nothing else.
		for i, l := range lists {
			if told(l) != want[i] {
				t.Fatalf("%s has become %s", want[i], told(l))
			}
			all := l[:cap(l)]
			for k := range all {
				all[k] = api.Item{Kind: 66}
			}
		}
		if !slices.Equal(room, append(slices.Clone(s), mark, mark, mark)) || !slices.Equal(given.Nodes[:len(nodes)], nodes) {
			t.Fatalf("%s: what was handed in has changed", told(s))
		}
	}
}

// P14.3: answers don't share the list that holds them with later ones, nor hang on what was asked before.
func TestSameEachTime(t *testing.T) {
	d := read(t, `(()|.|"a"|.*)(()|.|"b"|.{0,3})(()|(.|b(.)){1,2})(()|.)`)
	s := api.State{inNode(len(d.Nodes) - 1), inNode(0), inNode(len(d.Nodes) - 1)}
	first, opens := toldHeads(heads.Heads(d, s)), toldAll(heads.Open(d, s))
	for range 200 {
		list, open := heads.Heads(d, s), heads.Open(d, s)
		if toldHeads(list) != first || toldAll(open) != opens {
			t.Fatal("another answer")
		}
		clear(list)
		clear(open)
	}
	if !strings.Contains(first, "twice") {
		t.Error(first)
	}
}

// Whatever is handed in, a call ends, and doesn't panic: nodes and items without their form, parts that aren't ahead, that are shared, or go round.
func TestWithoutForm(t *testing.T) {
	far := []int{math.MinInt, -1, 0, 1, 2, 3, math.MaxInt}
	var descs []api.Desc
	for kind := -1; kind <= api.Kinds+1; kind++ {
		for _, a := range far {
			for _, b := range far {
				n := api.Node{Kind: kind, A: a, B: b, Lo: a, Hi: b}
				descs = append(descs, api.Desc{Nodes: []api.Node{n, n, n}}, api.Desc{Nodes: []api.Node{{Kind: api.Empty}, n, {Kind: api.Or, B: 1}}})
			}
		}
	}
	shared := []api.Node{{Kind: api.Or}, {Kind: api.Empty}, {Kind: api.Or, A: 1, B: 1}}
	for i := range 100 {
		shared = append(shared, api.Node{Kind: api.Seq + i%2, A: i + 2, B: i + 2})
	}
	loop := slices.Repeat([]api.Node{{Kind: api.Seq, A: 1000, B: 1000}, {Kind: api.Star, A: 0}}, 1000)
	loop[1000] = api.Node{Kind: api.Or, A: 1, B: 1001}
	void := []api.Node{{Kind: api.Empty}, {Kind: api.Star}, {Kind: api.Star, A: 1}, {Kind: api.Rep, A: 2, Lo: 3, Hi: math.MaxInt}}
	descs = append(descs, api.Desc{}, api.Desc{Nodes: shared}, api.Desc{Nodes: loop}, api.Desc{Nodes: void})
	for _, d := range descs {
		states := []api.State{nil, {}, item.Start(d), {inNode(0), inNode(1), inNode(2)}}
		for kind := -1; kind <= api.InStop+1; kind++ {
			for _, i := range far {
				for _, n := range far[:3] {
					states = append(states, api.State{{Kind: kind, Node: i, Lo: n, Hi: n}, stop(0)}, api.State{{Kind: kind, Node: 1, Lo: 0, Hi: i}, inNode(2)})
				}
			}
		}
		for _, s := range states {
			heads.Ready(d, s)
			heads.Open(d, s)
			heads.Heads(d, s)
		}
	}
}

// The chapter's example: of a Star of a Bytes there are two heads.
func TestExample(t *testing.T) {
	d := star(set(6))
	if list := heads.Heads(d, item.Start(d)); toldHeads(list) != "[] [n0 n1]" {
		t.Error(toldHeads(list))
	}
}
