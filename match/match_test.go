package match_test

import (
	"math"
	"slices"
	"strings"
	"testing"
	"unsafe"

	"sediment/match"
)

const (
	size  = 16
	tries = 8
	whole = "0123456789abcdef"
)

// text is n bytes of some letters, of which no stretch is like the next one.
func text(n, seed int, letters string) string {
	b := make([]byte, n)
	x := uint32(seed)*2654435761 + 12345
	for i := range b {
		x = x*1664525 + 1013904223
		b[i] = letters[int(x>>16)%len(letters)]
	}
	return string(b)
}

// bytes are all that there are.
func bytes() string {
	b := make([]byte, 256)
	for i := range b {
		b[i] = byte(i)
	}
	return string(b)
}

// swapped is s with two of its bytes in each other's place.
func swapped(s string, i, k int) string {
	b := []byte(s)
	b[i], b[k] = b[k], b[i]
	return string(b)
}

// number is what the document says of a window's number, by another hand than the program's: by whole numbers, each byte turned step by step.
func number(s string) (h [2]int) {
	for k := range size {
		x, y := int(s[k])%16, int(s[k])/16
		for range 15 - k {
			x, y = -y, x
		}
		h[0], h[1] = h[0]+x, h[1]+y
	}
	return h
}

// numbers are those of all windows.
func numbers(s string) (l [][2]int) {
	for at := range max(0, len(s)-size+1) {
		l = append(l, number(s[at:at+size]))
	}
	return l
}

// wantPlaces are the places of a base whose windows have such numbers.
func wantPlaces(base [][2]int, s string, at int) (l []int) {
	if at < 0 || at > len(s)-size {
		return nil
	}
	asked := number(s[at : at+size])
	for p, h := range base {
		if h == asked && len(l) < tries {
			l = append(l, p)
		}
	}
	return l
}

// wantFind is what is found, by that hand: the longest piece first asked for, then the first place that has it.
func wantFind(base, s string, at int, places []int) (int, int) {
	for n := len(s) - at; n >= size; n-- {
		for _, p := range places {
			if p+n <= len(base) && base[p:p+n] == s[at:at+n] {
				return p, n
			}
		}
	}
	return 0, 0
}

// texts are some: short and long, alike and unlike.
func texts() []string {
	l := []string{"", "a", whole, whole[1:], whole + "XY", "--" + whole + "XZ", swapped(whole, 0, 4), swapped(whole, 11, 15) + whole, strings.Repeat(whole, 3), strings.Repeat("日本é", 12), strings.Repeat("\x00", 40), strings.Repeat("\xff", 23), strings.Repeat("ab", 30)}
	for n := range 12 {
		l = append(l, text(10+n*13, n, "ab"), text(200-n*9, n, "\x00\x0f\xf0\xff"), text(16*n, n, bytes()))
	}
	for n := range 6 { // what others have, moved and with other things between
		l = append(l, l[len(l)-3][n:]+"-"+whole[:3+n]+l[3*n+1]+l[len(l)-2*n-1])
	}
	return l
}

func TestBase(t *testing.T) { // P7.1
	for _, s := range append(texts(), text(5000, 1, bytes()), bytes(), " \t\n") {
		if got := match.New(s).Base(); got != s {
			t.Errorf("%q: %q", s, got)
		}
	}
}

func TestPlacesExamples(t *testing.T) { // P7.1
	for _, c := range []struct {
		base, s string
		at      int
		want    []int
	}{
		{whole + "XY", "--" + whole + "XZ", 2, []int{0}},
		{whole + "XY", "--" + whole + "XZ", 3, []int{1}},
		{whole + "XY", "--" + whole + "XZ", 4, nil}, // its last byte is another one
		{whole, whole, 0, []int{0}},
		{whole, whole, 1, nil},
		{whole[1:], whole, 0, nil},
		{"", whole, 0, nil},
		{whole, "", 0, nil},
		{"", "", 0, nil},
		{"xyz" + whole, whole, 0, []int{3}},
		{whole + "--" + whole + "-" + whole, whole, 0, []int{0, 18, 35}},
		{whole + whole, whole, 0, []int{0, 4, 8, 12, 16}}, // 4 of its bytes behind the other 12: the sums stay
		{strings.Repeat("a", 20), strings.Repeat("a", 17), 1, []int{0, 1, 2, 3, 4}},
		{strings.Repeat("a", 23), strings.Repeat("a", 16), 0, []int{0, 1, 2, 3, 4, 5, 6, 7}},
		{strings.Repeat("a", 24), strings.Repeat("a", 16), 0, []int{0, 1, 2, 3, 4, 5, 6, 7}},
		{strings.Repeat("a", 99), strings.Repeat("a", 16), 0, []int{0, 1, 2, 3, 4, 5, 6, 7}},
		{strings.Repeat("a", 18), strings.Repeat("b", 16), 0, []int{0, 1, 2}}, // unlike bytes of one number
		{swapped(whole, 0, 4) + "-" + whole, whole, 0, []int{0, 17}},
		{whole + "-" + swapped(whole, 3, 15), swapped(whole, 2, 10), 0, []int{0, 17}},
		{swapped(whole, 0, 1), whole, 0, nil},
	} {
		if got := match.New(c.base).Places(c.s, c.at); !slices.Equal(got, c.want) {
			t.Errorf("%q in %q at %d: %v, not %v", c.base, c.s, c.at, got, c.want)
		}
	}
}

func TestPlacesAndFind(t *testing.T) { // P7.1, P7.2
	found, met := 0, 0
	for _, base := range texts() {
		x, l := match.New(base), numbers(base)
		for _, s := range texts() {
			for at := -1; at <= len(s)+1; at++ {
				places := wantPlaces(l, s, at)
				if got := x.Places(s, at); !slices.Equal(got, places) {
					t.Fatalf("%q in %q at %d: %v, not %v", base, s, at, got, places)
				}
				p, n := wantFind(base, s, at, places)
				if gotP, gotN := x.Find(s, at); gotP != p || gotN != n {
					t.Fatalf("%q in %q at %d: %d, %d; not %d, %d", base, s, at, gotP, gotN, p, n)
				}
				found, met = found+min(n, 1), met+min(len(places), 1)
			}
		}
	}
	if found < 1000 || met-found < 1000 { // pieces, and numbers without a piece, or the texts would tell little
		t.Errorf("%d found, %d met", found, met)
	}
}

func TestWhereNoWindowBegins(t *testing.T) { // P7.1, P7.2
	for _, base := range []string{"", "a", whole[1:], whole, strings.Repeat("a", 100)} {
		x := match.New(base)
		for _, s := range []string{"", "a", whole[1:], whole, strings.Repeat("a", 100)} {
			for _, at := range []int{math.MinInt, math.MinInt + 1, -1 << 40, -17, -16, -15, -1, len(s) - 15, len(s) - 14, len(s) - 1, len(s), len(s) + 1, 1 << 40, math.MaxInt - 16, math.MaxInt - 15, math.MaxInt} {
				if at == 0 && len(s) >= size {
					continue
				}
				if l := x.Places(s, at); len(l) != 0 {
					t.Errorf("%q in %q at %d: %v", base, s, at, l)
				}
				if p, n := x.Find(s, at); p != 0 || n != 0 {
					t.Errorf("%q in %q at %d: %d, %d", base, s, at, p, n)
				}
			}
		}
	}
}

func TestFirstPlacesAreLookedAt(t *testing.T) { // P7.1, P7.2
	rare := strings.Repeat("\xf0\x00\x00\x0f", 4) // no other window's real part is that great
	var base string
	var want []int
	for k := range 20 {
		x := match.New(base)
		if got := x.Places(rare, 0); !slices.Equal(got, want[:min(k, tries)]) {
			t.Errorf("of %d places: %v", k, got)
		}
		// what stands behind the last of them goes on the longest, but only the first ones are looked at
		s := rare + text(50, k-1, "ABCDE")
		p, n := x.Find(s, 0)
		if k > 0 && k <= tries && (p != want[k-1] || n != len(s)) {
			t.Errorf("the last one of %d: %d, %d", k, p, n)
		}
		if k > tries && (n >= len(s) || !slices.Contains(want[:tries], p)) {
			t.Errorf("one behind the first ones of %d: %d, %d", k, p, n)
		}
		want = append(want, len(base))
		base += rare + text(50, k, "ABCDE")
	}
}

func TestPlacesWithoutPieceAreTriesToo(t *testing.T) { // P7.2
	other := swapped(whole, 0, 4)
	for k := range 12 {
		x := match.New(strings.Repeat(other+"..", k) + whole)
		p, n := x.Find(whole, 0)
		if k < tries && (p != 18*k || n != size) || k >= tries && (p != 0 || n != 0) {
			t.Errorf("behind %d places with other bytes: %d, %d", k, p, n)
		}
	}
}

func TestFindExamples(t *testing.T) { // P7.2
	for _, c := range []struct {
		base, s  string
		at, p, n int
	}{
		{whole + "XY", "--" + whole + "XZ", 2, 0, 17},
		{whole + "XY", "--" + whole + "XZ", 3, 1, 16},
		{whole + "XY", "--" + whole + "XZ", 4, 0, 0},
		{whole, whole, 0, 0, 16},
		{"x" + whole, whole, 0, 1, 16},
		{whole[:15], whole[:15], 0, 0, 0},
		{whole[:15], whole, 0, 0, 0},
		{whole + "XY", whole, 0, 0, 16},        // as far as the text goes
		{whole, whole + "XY", 0, 0, 16},        // as far as the base goes
		{whole + "XY", whole + "XY", 0, 0, 18}, // as far as both go
		{whole + "\x00", whole + "\x01", 0, 0, 16},
		{whole + "A" + whole + "AB" + whole + "ABC", whole + "ABCD", 0, 35, 19},
		{whole + "ABC" + whole + "AB" + whole + "A", whole + "ABCD", 0, 0, 19},
		{whole + "A" + whole + "AB" + whole + "AB" + whole, whole + "ABC", 0, 17, 18}, // the first of several
		{whole + "-" + whole + "-" + whole, whole, 0, 0, 16},
		{strings.Repeat("a", 100), strings.Repeat("a", 40), 0, 0, 40},
		{strings.Repeat("a", 40), strings.Repeat("a", 100), 0, 0, 40},
		{strings.Repeat("a", 40), strings.Repeat("a", 100), 84, 0, 16},
		{strings.Repeat("a", 40), strings.Repeat("b", 100), 0, 0, 0},
		{swapped(whole, 0, 4), whole, 0, 0, 0},
		{swapped(whole, 11, 15), whole, 0, 0, 0}, // 11 like bytes ahead
		{swapped(whole, 0, 4) + "XYZ" + whole, whole + "XYZ", 0, 19, 16},
		{"日本é日本é日本é", "é日本é日本é", 2, 0, 16},
	} {
		if p, n := match.New(c.base).Find(c.s, c.at); p != c.p || n != c.n {
			t.Errorf("%q in %q at %d: %d, %d; not %d, %d", c.base, c.s, c.at, p, n, c.p, c.n)
		}
	}
}

func TestNilIndex(t *testing.T) { // P7.2
	var x *match.Index
	if s := x.Base(); s != "" {
		t.Errorf("base %q", s)
	}
	for _, s := range texts() {
		for _, at := range []int{-1, 0, 1, len(s) - size, len(s), math.MaxInt, math.MinInt} {
			if l := x.Places(s, at); len(l) != 0 {
				t.Errorf("%q at %d: %v", s, at, l)
			}
			if p, n := x.Find(s, at); p != 0 || n != 0 {
				t.Errorf("%q at %d: %d, %d", s, at, p, n)
			}
		}
	}
}

// TestWhatIsFoundIsThere: the bytes are the same, and no further ones.
func TestWhatIsFoundIsThere(t *testing.T) { // P7.3
	for _, base := range texts() {
		x := match.New(base)
		for _, s := range texts() {
			for at := range len(s) + 1 {
				p, n := x.Find(s, at)
				if n == 0 && p == 0 {
					continue
				}
				if n < size || p < 0 || p+n > len(base) || at+n > len(s) || base[p:p+n] != s[at:at+n] {
					t.Fatalf("%q in %q at %d: %d, %d", base, s, at, p, n)
				}
				if p+n < len(base) && at+n < len(s) && base[p+n] == s[at+n] {
					t.Fatalf("%q in %q at %d: %d, %d is not all", base, s, at, p, n)
				}
			}
		}
	}
}

// often is how often the number comes that comes most often.
func often(s string) int {
	count := map[[2]int]int{}
	most := 0
	for _, h := range numbers(s) {
		count[h]++
		most = max(most, count[h])
	}
	return most
}

func TestOwnBase(t *testing.T) { // P7.4
	l := append(texts(), text(2000, 1, bytes()), strings.Repeat("a", 23), strings.Repeat("ab", 15))
	for k := range tries {
		l = append(l, strings.Repeat(whole+".", k+1)) // pieces that come so often
	}
	rare, most := 0, 0
	for _, s := range l {
		if n := often(s); n > tries {
			continue
		} else if n == tries {
			most++
		}
		rare++
		x := match.New(s)
		for at := range len(s) + 1 {
			p, n := x.Find(s, at)
			if len(s)-at < size && (p != 0 || n != 0) || len(s)-at >= size && (n != len(s)-at || s[p:p+n] != s[at:]) {
				t.Errorf("%q at %d: %d, %d", s, at, p, n)
			}
		}
	}
	if rare < 15 || most < 2 {
		t.Errorf("%d texts, %d with a number that comes as often as may be", rare, most)
	}
}

// TestOwnBaseWithTooMany: where a number comes more often, what stands at its last place isn't looked at.
func TestOwnBaseWithTooMany(t *testing.T) { // P7.2, P7.4
	s := strings.Repeat(whole+".", tries) + whole + "XYZ"
	at := 17 * tries
	if p, n := match.New(s).Find(s, at); p != 0 || n != size {
		t.Errorf("%d, %d", p, n)
	}
	if p, n := match.New(s[17:]).Find(s, at); p != at-17 || n != size+3 {
		t.Errorf("with one less: %d, %d", p, n)
	}
}

func TestAnswersAreNew(t *testing.T) { // P7.1, rule 4
	for k := 1; k < 12; k++ {
		base := strings.Repeat(whole+"-", k)
		x := match.New(base)
		a, b := x.Places(whole, 0), x.Places(whole, 0)
		want := slices.Clone(a)
		for _, l := range [][]int{a[:cap(a)], append(a, 99)} {
			for i := range l {
				l[i] = 7
			}
		}
		if again := x.Places(whole, 0); !slices.Equal(b, want) || !slices.Equal(again, want) {
			t.Errorf("%d places: %v and %v, not %v", k, b, again, want)
		}
		if p, n := x.Find(whole, 0); p != 0 || n != size {
			t.Errorf("%d places: %d, %d", k, p, n)
		}
	}
}

// TestNothingIsKept: what was handed in may be changed behind the call, and is as it was behind it.
func TestNothingIsKept(t *testing.T) { // P7.1, P7.2, rule 4
	b := []byte("ab" + whole + "XY")
	x := match.New(unsafe.String(&b[2], size+1))
	if string(b) != "ab"+whole+"XY" {
		t.Errorf("changed: %q", b)
	}
	clear(b)
	if got := x.Base(); got != whole+"X" {
		t.Errorf("base %q", got)
	}
	s := []byte("--" + whole + "XY")
	asked := unsafe.String(&s[0], len(s))
	for range 2 {
		if p, n := x.Find(asked, 2); p != 0 || n != size+1 {
			t.Errorf("found %d, %d", p, n)
		}
		if l := x.Places(asked, 3); !slices.Equal(l, []int{1}) {
			t.Errorf("places %v", l)
		}
	}
	s[2+size] = '-'
	if p, n := x.Find(asked, 2); p != 0 || n != size {
		t.Errorf("found behind a change %d, %d", p, n)
	}
	if l := x.Places(asked, 3); len(l) != 0 {
		t.Errorf("places behind a change %v", l)
	}
}

// TestIndexesStandAlone: what is asked of one changes neither what it answers nor what another one does.
func TestIndexesStandAlone(t *testing.T) { // P7.1, rule 6
	a, b := match.New(whole+"A"), match.New("."+whole+"B")
	for range 3 {
		if p, n := a.Find(whole+"B", 0); p != 0 || n != size {
			t.Errorf("the first one: %d, %d", p, n)
		}
		if p, n := b.Find(whole+"B", 0); p != 1 || n != size+1 {
			t.Errorf("the second one: %d, %d", p, n)
		}
		if l := a.Places("none of its windows", 0); len(l) != 0 {
			t.Errorf("places %v", l)
		}
	}
	if a.Base() != whole+"A" || b.Base() != "."+whole+"B" {
		t.Errorf("%q and %q", a.Base(), b.Base())
	}
}

func TestLongTexts(t *testing.T) { // P7.1, P7.2
	const n = 1 << 20
	for _, base := range []string{text(n, 1, bytes()), text(n, 2, "ab"), strings.Repeat("a", n), strings.Repeat(whole, n/size)} {
		x := match.New(base)
		if x.Base() != base {
			t.Error("another base")
		}
		if p, m := x.Find(base, 0); p != 0 || m != n {
			t.Errorf("all of it: %d, %d", p, m)
		}
		if p, m := x.Find("-"+base[:n/2]+"-", 1); p != 0 || m != n/2 {
			t.Errorf("half of it: %d, %d", p, m)
		}
		last := base[n-size:]
		want := wantPlaces(numbers(base), last, 0)
		if got := x.Places(last, 0); !slices.Equal(got, want) {
			t.Errorf("places for the last window: %v, not %v", got, want)
		}
	}
}
