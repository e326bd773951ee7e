package sketch_test

import (
	"math"
	"math/cmplx"
	"slices"
	"strings"
	"testing"

	"sediment/api"
	"sediment/sketch"
)

// text is n bytes of which no stretch is like the next one.
func text(n int) string {
	b := make([]byte, n)
	x := uint32(n)*2654435761 + 12345
	for i := range b {
		x = x*1664525 + 1013904223
		b[i] = byte(x >> 24)
	}
	return string(b)
}

// whole are what the document says of a text's sketch, by another hand than the program's: real parts and imaginary ones, by whole numbers.
func whole(s string) (parts [4][2]int) {
	for i := range len(s) {
		k := s[i] % 4
		parts[k][0] += int(s[i]) % 16
		parts[k][1] += int(s[i]) / 16
	}
	return parts
}

// want is a text's sketch by that hand.
func want(s string) (k api.Sketch) {
	for i, p := range whole(s) {
		k[i] = complex(float64(p[0]), float64(p[1]))
	}
	return k
}

// wantFar is how far the sketches of two texts are apart, by that hand.
func wantFar(s, t string) int {
	far := 0
	a, b := whole(s), whole(t)
	for i := range a {
		for j := range a[i] {
			far += max(a[i][j]-b[i][j], b[i][j]-a[i][j])
		}
	}
	return far
}

// same says whether two sketches are the same to the bit: no nought of one is negative where the other's isn't.
func same(a, b api.Sketch) bool {
	for k := range a {
		if math.Float64bits(real(a[k])) != math.Float64bits(real(b[k])) || math.Float64bits(imag(a[k])) != math.Float64bits(imag(b[k])) {
			return false
		}
	}
	return true
}

// texts are some: short and long, alike and unlike.
func texts() []string {
	l := []string{"", "\x00", "\x00\x04", "\x04\x00", "a", "é", "日本é", "\xff", "the quick brown fox", "the quick brown fix", "xof nworb kciuq eht", strings.Repeat("\xff", 3000), strings.Repeat("\x00", 3000), strings.Repeat("\x0f\xf0", 1000)}
	for n := range 40 {
		l = append(l, text(n*n))
	}
	return l
}

func sketches(l []string) []api.Sketch {
	var out []api.Sketch
	for _, s := range l {
		out = append(out, sketch.Of(s))
	}
	return out
}

func TestOfEachByte(t *testing.T) { // P5.1
	for b := range 256 {
		got := sketch.Of(string([]byte{byte(b)}))
		var k api.Sketch
		k[b%4] = complex(float64(b%16), float64(b/16))
		if !same(got, k) {
			t.Errorf("byte %02x: %v, not %v", b, got, k)
		}
	}
}

func TestOfExamples(t *testing.T) { // P5.1
	for s, k := range map[string]api.Sketch{
		"":                         {},
		"\x00":                     {},
		"\x00\x00\x00\x00":         {},
		"\x00\x04":                 {4},
		"\x04\x00":                 {4},
		"\x04":                     {4},
		"\x01\x02\x03\x04":         {4, 1, 2, 3},
		"\x01\x01\x01\x01":         {0, 4},
		"\x10\x20\x40\x80":         {15i},
		"\x3a":                     {0, 0, 10 + 3i},
		"\x3a\x3b":                 {0, 0, 10 + 3i, 11 + 3i},
		"\xff\xff\xff\xff\xff":     {0, 0, 0, 75 + 75i},
		"abcd":                     {4 + 6i, 1 + 6i, 2 + 6i, 3 + 6i},
		"aaaa":                     {0, 4 + 24i},
		"\xc3\xa9":                 {0, 9 + 10i, 0, 3 + 12i}, // one rune, two bytes
		"\x0c\x08\x04\x00\xf0\x0c": {36 + 15i},
	} {
		if got := sketch.Of(s); !same(got, k) {
			t.Errorf("%q: %v, not %v", s, got, k)
		}
	}
}

func TestOf(t *testing.T) { // P5.1
	for _, s := range texts() {
		if got := sketch.Of(s); !same(got, want(s)) {
			t.Errorf("%d bytes: %v, not %v", len(s), got, want(s))
		}
	}
}

func TestOfParts(t *testing.T) { // P5.1
	if got := sketch.Of(); !same(got, api.Sketch{}) {
		t.Error("no part:", got)
	}
	if got := sketch.Of("", "", ""); !same(got, api.Sketch{}) {
		t.Error("empty parts:", got)
	}
	if got := sketch.Of([]string(nil)...); !same(got, api.Sketch{}) {
		t.Error("nil:", got)
	}
	s := text(201)
	for i := range len(s) + 1 {
		for k := range i + 1 {
			if got := sketch.Of(s[:k], s[k:i], "", s[i:]); !same(got, want(s)) {
				t.Fatalf("parted at %d and %d: %v, not %v", k, i, got, want(s))
			}
		}
	}
	if got := sketch.Of(strings.Split(s, "")...); !same(got, want(s)) {
		t.Error("parts of a rune each:", got)
	}
}

func TestOfLeavesItsParts(t *testing.T) { // P5.1
	room := []string{"ab", "cd", "spare", "room"}
	sketch.Of(room[:2]...)
	if !slices.Equal(room, []string{"ab", "cd", "spare", "room"}) {
		t.Error(room)
	}
}

// TestOfGreatest: of the longest texts nothing is rounded.
func TestOfGreatest(t *testing.T) { // P5.1
	const n = 1 << 24
	for s, k := range map[string]api.Sketch{
		"\xff": {0, 0, 0, complex(15*n, 15*n)},
		"\x0d": {0, complex(13*n, 0)},
		"\xf0": {complex(0, 15*n)},
	} {
		s = strings.Repeat(s, n-1) + s
		if got := sketch.Of(s); !same(got, k) {
			t.Errorf("%x: %v, not %v", s[0], got, k)
		}
		if far := sketch.Far(sketch.Of(s), sketch.Of()); far != n*(int(s[0])%16+int(s[0])/16) {
			t.Errorf("%x: %d from nothing", s[0], far)
		}
		if got := sketch.Plus(sketch.Of(s[:n/2-3]), sketch.Of(s[n/2-3:])); !same(got, k) {
			t.Errorf("%x put together: %v, not %v", s[0], got, k)
		}
		if near := sketch.Near(k, []api.Sketch{sketch.Of(s[1:], "\x00"), sketch.Of(s[1:], "\x01"), k}); near != 2 {
			t.Errorf("%x: near %d", s[0], near)
		}
	}
}

func TestPlus(t *testing.T) { // P5.1
	a, b := api.Sketch{1 + 2i, 3, 4i, 0}, api.Sketch{10 + 20i, 5i, 6, 7 + 8i}
	if got := sketch.Plus(a, b); !same(got, api.Sketch{11 + 22i, 3 + 5i, 6 + 4i, 7 + 8i}) {
		t.Error(got)
	}
	if got := sketch.Plus(b, a); !same(got, api.Sketch{11 + 22i, 3 + 5i, 6 + 4i, 7 + 8i}) {
		t.Error(got)
	}
	if got := sketch.Plus(a, api.Sketch{}); !same(got, a) {
		t.Error("and none:", got)
	}
	if got := sketch.Plus(api.Sketch{}, api.Sketch{}); !same(got, api.Sketch{}) {
		t.Error("of none:", got)
	}
	for k := range a { // each number by itself
		var one api.Sketch
		one[k] = 100 + 200i
		got := sketch.Plus(a, one)
		for j := range a {
			if j == k && got[j] != a[j]+100+200i || j != k && got[j] != a[j] {
				t.Errorf("number %d: %v", k, got)
			}
		}
	}
}

func TestFarExamples(t *testing.T) { // P5.2
	for _, c := range []struct {
		s, t string
		far  int
	}{
		{"", "", 0},
		{"\x00\x04", "", 4},
		{"", "\x00\x04", 4},
		{"\x04", "\x08", 4},
		{"\x04", "\x40", 8},
		{"\x01", "\x02", 3},
		{"\x01\x02", "\x02\x01", 0},
		{"\x11", "", 2},
		{"\x34", "", 7}, // by its size 5
		{"\xff", "", 30},
		{"\xff", "\xfb", 4},
		{"\xff", "\x3f", 12},
		{"\xff", "\x3b", 16},
		{"\xf3", "\x3f", 24},
		{"\x01\x02\x03\x04", "", 10},
		{"\x11\x22\x33\x44", "", 20},
		{"\x00\x00\x00", "\x00", 0},
		{"\x04\x04\x04", "\x0c", 0},
		{"\x04\x04\x04", "\x0c\x10", 1},
		{"a", "b", 15},
		{"a", "e", 4},
		{"some text", "some test", 25},
	} {
		if got := sketch.Far(sketch.Of(c.s), sketch.Of(c.t)); got != c.far {
			t.Errorf("%q and %q: %d, not %d", c.s, c.t, got, c.far)
		}
	}
}

// TestFarEachPart: each of the eight parts counts, either way, and each by its own size.
func TestFarEachPart(t *testing.T) { // P5.2
	base := api.Sketch{50 + 60i, 70 + 80i, 90 + 100i, 110 + 120i}
	for k := range base {
		for _, d := range []complex128{1, -1, 1i, -1i, 7, -7, 7i, -7i} {
			other := base
			other[k] += d
			if got, want := sketch.Far(base, other), int(cmplx.Abs(d)); got != want {
				t.Errorf("number %d by %v: %d", k, d, got)
			}
		}
		for _, d := range []complex128{3 + 4i, 3 - 4i, -3 + 4i, -3 - 4i} {
			other := base
			other[k] += d
			other[(k+1)%4] -= d
			if got := sketch.Far(base, other); got != 14 {
				t.Errorf("numbers %d and the next one by %v: %d", k, d, got)
			}
		}
	}
	if got := sketch.Far(base, api.Sketch{}); got != 680 {
		t.Error("from none:", got)
	}
}

func TestFar(t *testing.T) { // P5.2
	l := texts()
	for _, a := range l {
		for _, b := range l {
			if got := sketch.Far(sketch.Of(a), sketch.Of(b)); got != wantFar(a, b) {
				t.Errorf("%d and %d bytes: %d, not %d", len(a), len(b), got, wantFar(a, b))
			}
		}
	}
}

func TestNearExamples(t *testing.T) { // P5.2
	for _, c := range []struct {
		s    string
		l    []string
		near int
	}{
		{"a", nil, -1},
		{"", nil, -1},
		{"a", []string{"a"}, 0},
		{"a", []string{strings.Repeat("z", 3000)}, 0}, // however far
		{"", []string{"\xff", ""}, 1},
		{"", []string{"", "\xff"}, 0},
		{"", []string{"\x04", "\x08", "\x0c"}, 0},
		{"", []string{"\x0c", "\x08", "\x04"}, 2},
		{"", []string{"\x0c", "\x04", "\x08"}, 1},
		{"\x08", []string{"\x04", "\x0c"}, 0}, // as far below as above
		{"\x08", []string{"\x0c", "\x04"}, 0},
		{"\x08", []string{"\x00", "\x0c", "\x04"}, 1},
		{"\x08", []string{"\x08", "\x08", "\x08"}, 0},
		{"\x08", []string{"\x04", "\x08", "\x08"}, 1}, // of the same ones the first one
		{"\x08", []string{"\x04", "\x04\x04", "\x08"}, 1},
		{"ab", []string{"aa", "ba", "ab"}, 1},
		{"", []string{"\x33", "\x05"}, 1}, // 6 and 5; by sizes 4.2 and 5
		{"", []string{"\x05", "\x33"}, 0},
		{"", []string{"\x01\x02\x03", "\x05"}, 1},                                                         // over all four
		{"the quick brown fox", []string{"", "a quick brown fox", "the quick brown fix", "lazy dogs"}, 1}, // 29 and 36
	} {
		l := sketches(c.l)
		if got := sketch.Near(sketch.Of(c.s), l); got != c.near {
			t.Errorf("%q among %q: %d, not %d", c.s, c.l, got, c.near)
		}
	}
	if got := sketch.Near(api.Sketch{}, []api.Sketch{}); got != -1 {
		t.Error("among none:", got)
	}
}

// wantNear is what the document says of Near, by another hand: the first one than which no other is less far.
func wantNear(s string, l []string) int {
	for at, one := range l {
		if !slices.ContainsFunc(l, func(other string) bool { return wantFar(s, other) < wantFar(s, one) }) {
			return at
		}
	}
	return -1
}

func TestNear(t *testing.T) { // P5.2
	l := texts()
	k := sketches(l)
	before := slices.Clone(k)
	for i, s := range l {
		for n := range len(l) {
			if got, want := sketch.Near(k[i], k[n:]), wantNear(s, l[n:]); got != want {
				t.Fatalf("%d bytes from %d on: %d, not %d", len(s), n, got, want)
			}
		}
	}
	if !slices.Equal(k, before) {
		t.Error("what was handed in is changed")
	}
}

func TestOrderExamples(t *testing.T) { // P5.3
	for _, c := range []struct {
		l     []string
		order []int
	}{
		{nil, nil},
		{[]string{""}, []int{0}},
		{[]string{"\xff"}, []int{0}},
		{[]string{"", "\xff"}, []int{0, 1}},
		{[]string{"\xff", ""}, []int{0, 1}},
		{[]string{"", "\x0c", "\x04", "\x08"}, []int{0, 2, 3, 1}},
		{[]string{"\x0c", "", "\x04", "\x08"}, []int{0, 3, 2, 1}},
		{[]string{"\x08", "\x04", "\x0c", ""}, []int{0, 1, 3, 2}}, // of two as far the first one; of each next one, not of the first one
		{[]string{"\x08", "\x0c", "\x04", ""}, []int{0, 1, 2, 3}},
		{[]string{"a", "b", "a", "b", "a", "b"}, []int{0, 2, 4, 1, 3, 5}},
		{[]string{"b", "a", "a", "a", "b"}, []int{0, 4, 1, 2, 3}},
		{[]string{"a", "a", "a", "a"}, []int{0, 1, 2, 3}},
		{[]string{"\x08", "\x0c\x04", "\x04", "\x0c", "\x08\x08", "\x04\x04"}, []int{0, 5, 2, 3, 1, 4}},
	} {
		if got := sketch.Order(sketches(c.l)); !slices.Equal(got, c.order) {
			t.Errorf("%q: %v, not %v", c.l, got, c.order)
		}
	}
	if got := sketch.Order([]api.Sketch{}); len(got) != 0 {
		t.Error("of none:", got)
	}
}

// wantOrder is what the document says of Order, by another hand.
func wantOrder(l []string) []int {
	order := []int{0}
	for len(order) < len(l) {
		s, next := l[order[len(order)-1]], -1
		for at := range l {
			if !slices.Contains(order, at) && (next < 0 || wantFar(s, l[at]) < wantFar(s, l[next])) {
				next = at
			}
		}
		order = append(order, next)
	}
	return order
}

func TestOrder(t *testing.T) { // P5.3
	l := texts()
	for n := range l {
		twice := append(slices.Clone(l[n:]), l[n:]...)
		mixed := slices.Clone(twice)
		slices.Reverse(mixed[len(mixed)/3:])
		for _, some := range [][]string{l[n:], twice, mixed} {
			if got, want := sketch.Order(sketches(some)), wantOrder(some); !slices.Equal(got, want) {
				t.Fatalf("from %d on: %v, not %v", n, got, want)
			}
		}
	}
}

// TestOrderOfMany: texts that are put together of few bytes are as far apart as others, often.
func TestOrderOfMany(t *testing.T) { // P5.3
	var l []string
	x := uint32(7)
	for range 200 {
		x = x*1664525 + 1013904223
		l = append(l, strings.Repeat("\x04", int(x>>30))+strings.Repeat("\x10", int(x>>28&3))+strings.Repeat("\x01", int(x>>26&3)))
	}
	if got, want := sketch.Order(sketches(l)), wantOrder(l); !slices.Equal(got, want) {
		t.Errorf("%v, not %v", got, want)
	}
}

func TestOrderLeavesItsList(t *testing.T) { // P5.3
	k := sketches(texts())
	before := slices.Clone(k)
	order := sketch.Order(k[:len(k)-5])
	if !slices.Equal(k, before) {
		t.Error("what was handed in is changed, or what stands behind it")
	}
	kept := slices.Clone(order)
	clear(order[:cap(order)])
	if again := sketch.Order(k[:len(k)-5]); !slices.Equal(again, kept) {
		t.Error("a list that was answered is still in use")
	}
	clear(k)
	if again := sketch.Order(before[:len(k)-5]); !slices.Equal(again, kept) {
		t.Error("a list that was handed in is still in use")
	}
}

// TestAnySketch: of what is no text's sketch nothing is said, but that the calls end.
func TestAnySketch(t *testing.T) { // P5.1, P5.2, P5.3
	l := []api.Sketch{{cmplx.NaN()}, {cmplx.Inf()}, {complex(math.Inf(-1), math.NaN())}, {-1e300 + 1e300i, 0.5}, {complex(math.MaxFloat64, -math.MaxFloat64)}, {}, {cmplx.NaN()}}
	for n := range l {
		some := l[n:]
		for _, a := range some {
			sketch.Far(a, some[0])
			sketch.Plus(a, some[0])
			sketch.Near(a, some)
		}
		sketch.Order(some)
	}
}

func TestOneBehindTheOther(t *testing.T) { // P5.4
	l := texts()
	for _, a := range l {
		for _, b := range l {
			together := sketch.Of(a + b)
			if got := sketch.Plus(sketch.Of(a), sketch.Of(b)); !same(got, together) || !same(sketch.Of(a, b), together) {
				t.Errorf("%d and %d bytes: %v, not %v", len(a), len(b), got, together)
			}
		}
	}
}

func TestAnotherOrderOfBytes(t *testing.T) { // P5.4
	for _, s := range texts() {
		b := []byte(s)
		slices.Reverse(b)
		if got := sketch.Of(string(b)); !same(got, sketch.Of(s)) {
			t.Errorf("%d bytes turned round: %v, not %v", len(s), got, sketch.Of(s))
		}
		slices.Sort(b)
		if got := sketch.Of(string(b)); !same(got, sketch.Of(s)) {
			t.Errorf("%d bytes sorted: %v, not %v", len(s), got, sketch.Of(s))
		}
		for at := range min(5, len(s)) {
			if got := sketch.Of(s[at:] + s[:at]); !same(got, sketch.Of(s)) {
				t.Errorf("%d bytes from %d on: %v, not %v", len(s), at, got, sketch.Of(s))
			}
		}
	}
}

func TestFarIsAWay(t *testing.T) { // P5.5
	l := texts()
	k := sketches(l)
	for i, a := range k {
		if far := sketch.Far(a, a); far != 0 {
			t.Errorf("%d bytes: %d from itself", len(l[i]), far)
		}
		for j, b := range k {
			far := sketch.Far(a, b)
			if far != sketch.Far(b, a) || far < 0 || (far == 0) != (a == b) {
				t.Errorf("%d and %d bytes: %d, and %d back", len(l[i]), len(l[j]), far, sketch.Far(b, a))
			}
			for n, c := range k {
				if way := sketch.Far(a, c) + sketch.Far(c, b); far > way {
					t.Errorf("%d and %d bytes: %d, by %d bytes %d", len(l[i]), len(l[j]), far, len(l[n]), way)
				}
			}
		}
	}
}
