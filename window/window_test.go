package window_test

import (
	"math"
	"math/cmplx"
	"slices"
	"strings"
	"testing"

	"sediment/window"
)

const size = 16

// text is n bytes of which no stretch is like the next one.
func text(n int) string {
	b := make([]byte, n)
	x := uint32(n)*2654435761 + 12345
	for i := range b {
		x = x*1664525 + 1013904223
		b[i] = byte(x >> 24)
	}
	return string(b)
}

// parts are what the document says of a window's number, by another hand than the program's: by whole numbers, each byte turned step by step.
func parts(s string) (re, im int) {
	for k := range size {
		x, y := int(s[k])%16, int(s[k])/16
		for range 15 - k {
			x, y = -y, x
		}
		re, im = re+x, im+y
	}
	return re, im
}

// want is a window's number by that hand.
func want(s string) complex128 {
	re, im := parts(s)
	return complex(float64(re), float64(im))
}

// same says whether two numbers are the same to the bit: no nought of one is negative where the other's isn't.
func same(a, b complex128) bool {
	return math.Float64bits(real(a)) == math.Float64bits(real(b)) && math.Float64bits(imag(a)) == math.Float64bits(imag(b))
}

// windows are some of 16 bytes: all alike, one byte unlike the others at each place, and others.
func windows() []string {
	var l []string
	for _, b := range []string{"\x00", "\x01", "\x0f", "\x10", "\xf0", "\xff", "a"} {
		l = append(l, strings.Repeat(b, size))
	}
	for k := range size {
		for _, b := range []string{"\x01", "\x0f", "\x10", "\xf0", "\x3a", "\xff"} {
			l = append(l, strings.Repeat("\x00", k)+b+strings.Repeat("\x00", size-1-k))
		}
	}
	for n := range 200 {
		l = append(l, text(size + n)[n:])
	}
	return append(l, greatest(0), greatest(1), greatest(2), greatest(3))
}

// greatest is the window of which the sum, turned so often, has the greatest real part that there is.
func greatest(turns int) string {
	b := make([]byte, size)
	for k := range b {
		switch (15 - k + turns) % 4 {
		case 0:
			b[k] = 0x0f
		case 3: // turned by i thrice, the higher half is the real part
			b[k] = 0xf0
		}
	}
	return string(b)
}

func TestByte(t *testing.T) { // P4.1
	for b := range 256 {
		if got := window.Byte(byte(b)); !same(got, complex(float64(b%16), float64(b/16))) {
			t.Errorf("byte %02x: %v", b, got)
		}
	}
	for b, h := range map[byte]complex128{0x3a: 10 + 3i, 0: 0, 1: 1, 0x0f: 15, 0x10: 1i, 0xf0: 15i, 0xff: 15 + 15i, 'a': 1 + 6i} {
		if got := window.Byte(b); got != h {
			t.Errorf("byte %02x: %v, not %v", b, got, h)
		}
	}
}

func TestOfExamples(t *testing.T) { // P4.1
	zeros := strings.Repeat("\x00", 15)
	for s, h := range map[string]complex128{
		strings.Repeat("\x01", 16):            0,
		zeros + "\x01":                        1,
		"\x01" + zeros:                        -1i,
		zeros + "\x00":                        0,
		zeros[:14] + "\x01\x00":               1i,
		zeros[:13] + "\x01\x00\x00":           -1,
		zeros[:12] + "\x01\x00\x00\x00":       -1i,
		zeros[:11] + "\x01\x00\x00\x00\x00":   1,
		zeros[:14] + "\x3a\x00":               -3 + 10i,
		zeros[:14] + "\x3a\x01":               -2 + 10i,
		strings.Repeat("\x0f\x00\x00\x00", 4): -60i,
		strings.Repeat("\x00\x0f\x00\x00", 4): -60,
		strings.Repeat("\x00\x00\x0f\x00", 4): 60i,
		strings.Repeat("\x00\x00\x00\x0f", 4): 60,
		strings.Repeat("\xf0\x00\x00\x0f", 4): 120,
		strings.Repeat("\x00\x0f\xf0\x00", 4): -120,
		"0123456789abcdef":                    -4 + 2i,
	} {
		if got, ok := window.Of(s); got != h || !ok {
			t.Errorf("%q: %v, %t; not %v", s, got, ok, h)
		}
	}
}

func TestOf(t *testing.T) { // P4.1
	for _, s := range windows() {
		if got, ok := window.Of(s); !same(got, want(s)) || !ok {
			t.Errorf("%x: %v, %t; not %v", s, got, ok, want(s))
		}
	}
}

func TestOfEachByteAtEachPlace(t *testing.T) { // P4.1
	for k := range size {
		for b := range 256 {
			s := []byte(text(size))
			s[k] = byte(b)
			if got, ok := window.Of(string(s)); !same(got, want(string(s))) || !ok {
				t.Fatalf("%x: %v, %t; not %v", s, got, ok, want(string(s)))
			}
		}
	}
}

func TestOfOtherLengths(t *testing.T) { // P4.1
	for n := range 200 {
		got, ok := window.Of(text(n))
		if n != size && (!same(got, 0) || ok) {
			t.Errorf("%d bytes: %v, %t", n, got, ok)
		}
	}
	for _, s := range []string{strings.Repeat("é", 16), strings.Repeat("日", 16), strings.Repeat("a", 1<<20)} { // as many runes, or more
		if got, ok := window.Of(s); !same(got, 0) || ok {
			t.Errorf("%d bytes: %v, %t", len(s), got, ok)
		}
	}
	if got, ok := window.Of(strings.Repeat("é", 8)); !ok || got != want(strings.Repeat("é", 8)) {
		t.Errorf("eight runes of 16 bytes: %v, %t", got, ok)
	}
}

func TestPartsStayWithin(t *testing.T) { // P4.1
	for _, s := range windows() {
		h, _ := window.Of(s)
		for _, x := range []float64{real(h), imag(h)} {
			if x != math.Trunc(x) || math.Abs(x) > 240 {
				t.Errorf("%x: %v", s, h)
			}
		}
	}
}

func TestRoll(t *testing.T) { // P4.2
	for _, s := range windows() {
		for in := range 256 {
			next := s[1:] + string([]byte{byte(in)})
			if got := window.Roll(want(s), s[0], byte(in)); !same(got, want(next)) {
				t.Fatalf("%x and %02x: %v, not %v", s, in, got, want(next))
			}
		}
	}
}

func TestRollEachByteOut(t *testing.T) { // P4.2
	tail := text(size - 1)
	for out := range 256 {
		s := string([]byte{byte(out)}) + tail
		for _, in := range []byte{0, 1, 0x0f, 0x10, 0xf0, 0xff, byte(out)} {
			next := tail + string([]byte{in})
			if got := window.Roll(want(s), byte(out), in); !same(got, want(next)) {
				t.Errorf("%x and %02x: %v, not %v", s, in, got, want(next))
			}
		}
	}
}

func TestRollExamples(t *testing.T) { // P4.2
	for _, c := range []struct {
		h       complex128
		out, in byte
		want    complex128
	}{
		{0, 0, 0, 0},
		{0, 0, 0x3a, 10 + 3i},
		{1, 0, 0, 1i},
		{1i, 0, 0, -1},
		{-1, 0, 0, -1i},
		{-1i, 0, 0, 1},
		{-1i, 1, 0, 0},
		{0, 1, 1, 0},
	} {
		if got := window.Roll(c.h, c.out, c.in); !same(got, c.want) {
			t.Errorf("Roll(%v, %02x, %02x) %v, not %v", c.h, c.out, c.in, got, c.want)
		}
	}
}

func TestAll(t *testing.T) { // P4.2
	for n := range 300 {
		s := text(n)
		l := window.All(s)
		if len(l) != max(0, n-15) {
			t.Fatalf("%d bytes: %d windows", n, len(l))
		}
		for at, h := range l {
			if !same(h, want(s[at:at+size])) {
				t.Fatalf("%d bytes at %d: %v, not %v", n, at, h, want(s[at:at+size]))
			}
		}
	}
}

func TestAllExamples(t *testing.T) { // P4.2
	for s, l := range map[string][]complex128{
		"":                                   nil,
		"a":                                  nil,
		strings.Repeat("\x01", 15):           nil,
		strings.Repeat("\x01", 16):           {0},
		strings.Repeat("\x01", 19):           {0, 0, 0, 0},
		strings.Repeat("\x00", 15) + "\x01":  {1},
		"\x01" + strings.Repeat("\x00", 16):  {-1i, 0},
		strings.Repeat("\x00", 16) + "\x3a":  {0, 10 + 3i},
		"\x00" + strings.Repeat("\x01", 16):  {1i, 0},
		strings.Repeat("é", 8):               {want(strings.Repeat("é", 8))},
		strings.Repeat("\x00", 16) + "\x01a": {0, 1, 1 + 7i},
	} {
		if got := window.All(s); !slices.Equal(got, l) {
			t.Errorf("%x: %v, not %v", s, got, l)
		}
	}
}

func TestAllIsNew(t *testing.T) { // P4.2
	s := text(100)
	l := window.All(s)
	clear(l[:cap(l)])
	if again := window.All(s); len(again) != 85 || again[0] != want(s[:size]) || again[84] != want(s[84:]) {
		t.Error("a list that was answered is still in use")
	}
}

func TestSpot(t *testing.T) { // P4.3
	for _, s := range windows() {
		re, im := parts(s)
		x, y := window.Spot(want(s))
		if x != re+240 || y != im+240 || x < 0 || x > 480 || y < 0 || y > 480 {
			t.Errorf("%x: %d, %d; not %d, %d", s, x, y, re+240, im+240)
		}
	}
	for h, want := range map[complex128][2]int{0: {240, 240}, 1: {241, 240}, -1i: {240, 239}, 10 + 3i: {250, 243}, -60 + 60i: {180, 300}, 120 - 120i: {360, 120}, -240 - 240i: {0, 0}, 240 + 240i: {480, 480}} {
		if x, y := window.Spot(h); x != want[0] || y != want[1] {
			t.Errorf("%v: %d, %d; not %d, %d", h, x, y, want[0], want[1])
		}
	}
}

// TestSpotTellsNumbersApart: two windows have one spot just if they have one number.
func TestSpotTellsNumbersApart(t *testing.T) { // P4.3
	seen := map[[2]int]complex128{}
	for _, s := range windows() {
		h, _ := window.Of(s)
		x, y := window.Spot(h)
		if other, ok := seen[[2]int{x, y}]; ok && other != h {
			t.Errorf("%v and %v at %d, %d", h, other, x, y)
		}
		seen[[2]int{x, y}] = h
	}
}

// TestAnyNumber: of numbers of no window nothing is said, but that the calls end.
func TestAnyNumber(t *testing.T) { // P4.2, P4.3
	for _, h := range []complex128{cmplx.NaN(), cmplx.Inf(), complex(math.Inf(-1), math.NaN()), complex(math.MaxFloat64, -math.MaxFloat64), 0.5 - 0.5i, complex(math.Copysign(0, -1), 1e300)} {
		window.Roll(h, 0xff, 0)
		window.Spot(h)
	}
}

func TestRolledAlong(t *testing.T) { // P4.4
	for _, s := range []string{
		text(5000),
		strings.Repeat("\xff", 1000) + strings.Repeat("\x00", 1000) + strings.Repeat("\xff", 1000),
		strings.Repeat("\x0f\xf0", 500) + strings.Repeat("\xf0\x00\x00\x0f", 500) + text(33),
		strings.Repeat("日本é", 300),
	} {
		h, _ := window.Of(s[:size])
		l := window.All(s)
		for at := range len(s) - size + 1 {
			if at > 0 {
				h = window.Roll(h, s[at-1], s[at+size-1])
			}
			own, ok := window.Of(s[at : at+size])
			if !ok || !same(h, own) || !same(l[at], own) || !same(own, want(s[at:at+size])) {
				t.Fatalf("at %d: rolled %v, of all %v, its own %v", at, h, l[at], own)
			}
		}
	}
}

// TestLongRoll: however far a number is rolled, nothing is rounded.
func TestLongRoll(t *testing.T) { // P4.4
	s := text(1 << 20)
	l := window.All(s)
	if len(l) != len(s)-15 {
		t.Fatal(len(l), "windows")
	}
	for at, h := range l {
		if !same(h, want(s[at:at+size])) {
			t.Fatalf("at %d: %v, not %v", at, h, want(s[at:at+size]))
		}
	}
}

// turnedInto is s with the bytes at k, k + 4, k + 8 and k + 12 turned to others.
func turnedInto(s string, k int, four [4]byte) string {
	b := []byte(s)
	for j, x := range four {
		b[k+4*j] = x
	}
	return string(b)
}

func TestFourBytesWhoseSumStays(t *testing.T) { // P4.5
	for k := range 4 {
		for n := range 50 {
			s := turnedInto(text(size + n)[n:], k, [4]byte{0x21, 0x43, 0x65, 0x07}) // their halves: 16, and 12
			for _, four := range [][4]byte{
				{0x43, 0x21, 0x65, 0x07}, {0x07, 0x65, 0x43, 0x21}, {0x34, 0x34, 0x34, 0x34}, {0xcf, 0x01, 0, 0}, {0, 0, 0x6f, 0x61}, {0x0f, 0x01, 0xc0, 0},
			} {
				if got, _ := window.Of(turnedInto(s, k, four)); !same(got, want(s)) {
					t.Errorf("%x at %d of %x: %v, not %v", four, k, s, got, want(s))
				}
			}
			for _, four := range [][4]byte{ // a sum that doesn't stay
				{0x22, 0x43, 0x65, 0x07}, {0x21, 0x43, 0x65, 0x06}, {0x31, 0x43, 0x65, 0x07}, {0xcf, 0, 0, 0}, {0xff, 0xff, 0xff, 0xff},
			} {
				if got, _ := window.Of(turnedInto(s, k, four)); got == want(s) {
					t.Errorf("%x at %d of %x changes nothing", four, k, s)
				}
			}
		}
	}
}

// TestBytesChangePlaces: at places 4 apart bytes may change places, at others they may not.
func TestBytesChangePlaces(t *testing.T) { // P4.5
	for n := range 20 {
		s := text(size + n)[n:]
		for i := range size {
			for k := range i {
				b := []byte(s)
				b[i], b[k] = b[k], b[i]
				got, _ := window.Of(string(b))
				if stays := (i-k)%4 == 0 || s[i] == s[k]; stays != (got == want(s)) {
					t.Errorf("%x with %d and %d changed: %v, not changed %v", s, i, k, got, want(s))
				}
			}
		}
	}
}
