package class_test

import (
	"slices"
	"testing"

	"scantling/api"
	"scantling/class"
)

// edges are the bytes at both ends of each of a class's words.
var edges = []byte{0, 63, 64, 127, 128, 191, 192, 255}

var (
	none = api.Class{}
	all  = api.Class{1<<64 - 1, 1<<64 - 1, 1<<64 - 1, 1<<64 - 1}
)

// model is a class told byte by byte: what the tests hold the package against.
type model [256]bool

// modelOf reads the bits as the chapter words them, not by the package's Has.
func modelOf(a api.Class) model {
	var m model
	for c := range m {
		m[c] = a[c/64]&(uint64(1)<<(c%64)) != 0
	}
	return m
}

func (m model) class() api.Class {
	var a api.Class
	for c, in := range m {
		if in {
			a[c/64] |= uint64(1) << (c % 64)
		}
	}
	return a
}

func modelWhere(in func(c int) bool) model {
	var m model
	for c := range m {
		m[c] = in(c)
	}
	return m
}

// samples are ordinary classes and the edges: no byte, all, one edge, all but one edge, and patterns over all words.
func samples() []api.Class {
	list := []api.Class{
		none,
		all,
		{0x6162, 0, 0, 0},
		{0, 1 << 33, 1, 0},
		{1 << 63, 1, 1 << 63, 1},
		{0xaaaaaaaaaaaaaaaa, 0x5555555555555555, 0xffffffff00000000, 0x00000000ffffffff},
		modelWhere(func(c int) bool { return c%3 == 0 }).class(),
		modelWhere(func(c int) bool { return c >= 0x61 && c <= 0x7a }).class(),
	}
	for _, e := range edges {
		list = append(list,
			modelWhere(func(c int) bool { return c == int(e) }).class(),
			modelWhere(func(c int) bool { return c != int(e) }).class(),
			modelWhere(func(c int) bool { return c >= int(e) }).class())
	}
	return list
}

// P1.1: Of, at all pairs of bytes, those whose first is greater among them.
func TestOfHasTheBytesFromTo(t *testing.T) {
	for from := range 256 {
		for to := range 256 {
			want := modelWhere(func(c int) bool { return from <= c && c <= to }).class()
			if got := class.Of(byte(from), byte(to)); got != want {
				t.Fatalf("Of(%02x, %02x) = %x, want %x", from, to, got, want)
			}
		}
	}
}

// P1.1: Of, the edges written out.
func TestOfAtEdges(t *testing.T) {
	for _, x := range []struct {
		from, to byte
		want     api.Class
	}{
		{0x61, 0x63, api.Class{0, 7 << 33, 0, 0}},
		{0, 0, api.Class{1, 0, 0, 0}},
		{255, 255, api.Class{0, 0, 0, 1 << 63}},
		{0, 255, all},
		{63, 64, api.Class{1 << 63, 1, 0, 0}},
		{127, 128, api.Class{0, 1 << 63, 1, 0}},
		{191, 192, api.Class{0, 0, 1 << 63, 1}},
		{64, 127, api.Class{0, 1<<64 - 1, 0, 0}},
		{1, 0, none},
		{255, 0, none},
		{255, 254, none},
		{64, 63, none},
	} {
		if got := class.Of(x.from, x.to); got != x.want {
			t.Errorf("Of(%02x, %02x) = %x, want %x", x.from, x.to, got, x.want)
		}
	}
}

// P1.1: Has, of each byte of each sample.
func TestHasIsTheBytesBit(t *testing.T) {
	for _, a := range samples() {
		m := modelOf(a)
		for c := range 256 {
			if class.Has(a, byte(c)) != m[c] {
				t.Errorf("Has(%x, %02x) = %v", a, c, !m[c])
			}
		}
	}
}

// P1.1: Add of one byte, each, to each sample: there already, or not.
func TestAddOfOneByte(t *testing.T) {
	for _, a := range samples() {
		for c := range 256 {
			m := modelOf(a)
			m[c] = true
			if got := class.Add(a, byte(c)); got != m.class() {
				t.Errorf("Add(%x, %02x) = %x", a, c, got)
			}
		}
	}
}

// P1.1: Add of lists: none, all edges, a byte twice, every byte.
func TestAddOfLists(t *testing.T) {
	every := make([]byte, 0, 256)
	for c := range 256 {
		every = append(every, byte(255-c))
	}
	lists := [][]byte{nil, {}, {7}, {7, 7}, {255, 0, 255}, edges, {0x61, 0x20, 0x62, 0x61}, every}
	for _, a := range samples() {
		if got := class.Add(a); got != a {
			t.Errorf("Add(%x) = %x", a, got)
		}
		for _, list := range lists {
			m := modelOf(a)
			for _, c := range list {
				m[c] = true
			}
			if got := class.Add(a, list...); got != m.class() {
				t.Errorf("Add(%x, %x...) = %x", a, list, got)
			}
		}
	}
}

// P1.1, and the rule that what is handed in stays: Add leaves its list, and the room behind it, and its class.
func TestAddLeavesWhatIsHandedIn(t *testing.T) {
	room := []byte{9, 9, 3, 200, 77}
	a := class.Of(10, 20)
	class.Add(a, room[:3]...)
	if !slices.Equal(room, []byte{9, 9, 3, 200, 77}) {
		t.Errorf("the list is now %v", room)
	}
	if a != class.Of(10, 20) {
		t.Errorf("the class is now %x", a)
	}
}

// P1.2: Join, Both, of each two samples.
func TestJoinAndBoth(t *testing.T) {
	for _, a := range samples() {
		for _, b := range samples() {
			m, n := modelOf(a), modelOf(b)
			either := modelWhere(func(c int) bool { return m[c] || n[c] }).class()
			both := modelWhere(func(c int) bool { return m[c] && n[c] }).class()
			if got := class.Join(a, b); got != either {
				t.Errorf("Join(%x, %x) = %x", a, b, got)
			}
			if got := class.Both(a, b); got != both {
				t.Errorf("Both(%x, %x) = %x", a, b, got)
			}
		}
	}
}

// P1.2: Not, of each sample.
func TestNot(t *testing.T) {
	for _, a := range samples() {
		m := modelOf(a)
		want := modelWhere(func(c int) bool { return !m[c] }).class()
		if got := class.Not(a); got != want {
			t.Errorf("Not(%x) = %x", a, got)
		}
	}
	if class.Not(none) != all || class.Not(all) != none {
		t.Error("Not of no byte, or of all")
	}
}

// P1.2: Least, of each byte alone, with greater ones, and of each sample; 0 and false of no byte.
func TestLeast(t *testing.T) {
	for c := range 256 {
		for _, top := range []byte{byte(c), 255} {
			if got, ok := class.Least(class.Of(byte(c), top)); got != byte(c) || !ok {
				t.Errorf("Least of %02x to %02x = %02x, %v", c, top, got, ok)
			}
		}
	}
	for _, a := range samples() {
		m := modelOf(a)
		i := slices.Index(m[:], true)
		got, ok := class.Least(a)
		if ok != (i >= 0) || got != byte(max(i, 0)) {
			t.Errorf("Least(%x) = %02x, %v", a, got, ok)
		}
	}
	if got, ok := class.Least(none); got != 0 || ok {
		t.Errorf("Least of no byte = %02x, %v", got, ok)
	}
}

// P1.2: Count, of each sample, no byte and all of them.
func TestCount(t *testing.T) {
	for _, a := range samples() {
		n := 0
		for _, in := range modelOf(a) {
			if in {
				n++
			}
		}
		if got := class.Count(a); got != n {
			t.Errorf("Count(%x) = %d, want %d", a, got, n)
		}
	}
	for _, x := range []struct {
		a    api.Class
		want int
	}{{none, 0}, {all, 256}, {class.Of(0x61, 0x63), 3}, {class.Add(none, 5, 5), 1}, {class.Add(none, edges...), 8}} {
		if got := class.Count(x.a); got != x.want {
			t.Errorf("Count(%x) = %d, want %d", x.a, got, x.want)
		}
	}
}

// P1.3: classes with the same bytes are the same, however they were made.
func TestSameBytesSameClass(t *testing.T) {
	a := class.Of(60, 70)
	for i, b := range []api.Class{
		class.Join(class.Of(60, 63), class.Of(64, 70)),
		class.Add(none, 70, 60, 61, 62, 63, 64, 65, 66, 67, 68, 69, 60),
		class.Both(class.Of(0, 70), class.Of(60, 255)),
		class.Not(class.Join(class.Of(0, 59), class.Of(71, 255))),
		class.Not(class.Not(a)),
	} {
		if a != b {
			t.Errorf("way %d: %x, want %x", i, b, a)
		}
	}
}

// P1.3: any two samples are the same just if each byte is of both, or of neither.
func TestSameClassJustIfSameBytes(t *testing.T) {
	for _, a := range samples() {
		for _, b := range samples() {
			same := true
			for c := range 256 {
				same = same && class.Has(a, byte(c)) == class.Has(b, byte(c))
			}
			if same != (a == b) {
				t.Errorf("%x and %x: the same bytes %v", a, b, same)
			}
		}
	}
}
