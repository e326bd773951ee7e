package crc_test

import (
	"hash/crc32"
	"math"
	"slices"
	"strings"
	"testing"

	"sediment/crc"
)

// text is n bytes of which no stretch is like the next one.
func text(n int) string {
	b := make([]byte, n)
	x := uint32(n)*2654435761 + 12345
	for i := range b {
		x = x*1664525 + 1013904223
		b[i] = byte(x >> 24)
	}
	return string(b)
}

// fed is the number behind the text's bytes, step by step as the document tells it.
func fed(x uint32, s string) uint32 {
	for _, b := range []byte(s) {
		x ^= uint32(b)
		for range 8 {
			low := x & 1
			x /= 2
			if low == 1 {
				x ^= 0xedb88320
			}
		}
	}
	return x
}

// want is the sum by another hand.
func want(s string) uint32 {
	return crc32.ChecksumIEEE([]byte(s))
}

// numbers are some of 32 bits: each bit alone, and others.
func numbers() []uint32 {
	l := []uint32{0, 0xffffffff, 0x12345678, 0xdeadbeef, 0xedb88320, 0xcbf43926, 0x7fffffff}
	for i := range 32 {
		l = append(l, 1<<i)
	}
	return l
}

func TestSumExamples(t *testing.T) { // P2.1
	for s, sum := range map[string]uint32{
		"":                       0,
		"123456789":              0xcbf43926,
		"a":                      0xe8b7be43,
		"\x00":                   0xd202ef8d,
		"\xff":                   0xff000000,
		"\xff\xff\xff\xff":       0xffffffff,
		"\x00\x00\x00\x00":       0x2144df1c,
		strings.Repeat("a", 100): 0xaf707a64,
		"The quick brown fox jumps over the lazy dog": 0x414fa339,
	} {
		if got := crc.Sum(s); got != sum {
			t.Errorf("Sum(%.20q) %08x, not %08x", s, got, sum)
		}
	}
}

func TestSumOfNothing(t *testing.T) { // P2.1
	for _, parts := range [][]string{nil, {}, {""}, {"", "", ""}} {
		if got := crc.Sum(parts...); got != 0 {
			t.Errorf("%q: %08x", parts, got)
		}
	}
}

func TestSumOfEachByte(t *testing.T) { // P2.1
	for b := range 256 {
		for _, s := range []string{string([]byte{byte(b)}), string([]byte{byte(b), byte(b)}), string([]byte{'x', byte(b), 'y'})} {
			if got := crc.Sum(s); got != want(s) {
				t.Errorf("Sum(%q) %08x, not %08x", s, got, want(s))
			}
		}
	}
	for _, s := range []string{"é", "\xff\xfe", "日本", "a\x00b", "\u2028"} {
		if crc.Sum(s) != want(s) {
			t.Errorf("%q", s)
		}
	}
}

func TestSumOfEachLength(t *testing.T) { // P2.1
	for n := range 600 {
		s := text(n)
		if crc.Sum(s) != want(s) || crc.Sum(s) != ^fed(^uint32(0), s) {
			t.Errorf("%d bytes", n)
		}
	}
	for _, n := range []int{4095, 4096, 4099, 1 << 16, 1<<20 - 1, 1 << 20, 1<<20 + 1, 3 << 20} {
		if s := text(n); crc.Sum(s) != want(s) {
			t.Errorf("%d bytes", n)
		}
	}
}

func TestSumPutsPartsBehindOneAnother(t *testing.T) { // P2.1
	for _, c := range []struct {
		parts []string
		all   string
	}{
		{[]string{"ab", "c"}, "abc"},
		{[]string{"c", "ab"}, "cab"},
		{[]string{"", "a", "", "", "bc", ""}, "abc"},
		{[]string{"1234", "", "56789"}, "123456789"},
		{strings.Split("123456789", ""), "123456789"},
	} {
		if got := crc.Sum(c.parts...); got != want(c.all) {
			t.Errorf("%q: %08x", c.parts, got)
		}
	}
	parts := []string{"x", text(70), "", text(64)}
	kept := slices.Clone(parts)
	crc.Sum(parts...)
	if !slices.Equal(parts, kept) {
		t.Error("the parts were changed")
	}
}

func TestSumOfEachCut(t *testing.T) { // P2.1
	s := text(90)
	for a := range len(s) + 1 {
		for b := a; b <= len(s); b++ {
			if crc.Sum(s[:a], s[a:b], s[b:]) != want(s) {
				t.Fatalf("cut at %d and %d", a, b)
			}
		}
	}
}

func TestAdd(t *testing.T) { // P2.1
	for n := range 100 {
		head, tail := text(n), text(2*n+1)
		if crc.Add(want(head), tail) != want(head+tail) {
			t.Errorf("%d bytes behind %d", len(tail), n)
		}
		if crc.Add(0, tail) != want(tail) {
			t.Errorf("%d bytes behind nothing", len(tail))
		}
	}
}

func TestAddToAnyNumber(t *testing.T) { // P2.1
	for _, x := range numbers() {
		if crc.Add(x, "") != x {
			t.Errorf("nothing behind %08x: %08x", x, crc.Add(x, ""))
		}
		for _, s := range []string{"\x00", "\xff", "a", "é", text(33)} {
			if got := crc.Add(x, s); got != ^fed(^x, s) {
				t.Errorf("%q behind %08x: %08x", s, x, got)
			}
		}
	}
}

func TestZeros(t *testing.T) { // P2.2
	for _, x := range numbers() {
		for n := range 70 {
			if got := crc.Zeros(x, n); got != fed(x, strings.Repeat("\x00", n)) {
				t.Errorf("Zeros(%08x, %d) %08x", x, n, got)
			}
		}
	}
	for n, sum := range map[int]uint32{1: 0x77073096, 2: 0x191b3141, 3: 0x01c26a37, 4: 0xb8bc6765} {
		if got := crc.Zeros(1, n); got != sum {
			t.Errorf("Zeros(1, %d) %08x, not %08x", n, got, sum)
		}
	}
}

func TestZerosOfNone(t *testing.T) { // P2.2
	for _, x := range numbers() {
		for _, n := range []int{0, -1, -2, -1 << 20, -1<<20 - 1, math.MinInt32, math.MinInt} {
			if got := crc.Zeros(x, n); got != x {
				t.Errorf("Zeros(%08x, %d) %08x", x, n, got)
			}
			if got := crc.Join(x, 0x0f1e2d3c, n); got != x^0x0f1e2d3c {
				t.Errorf("Join(%08x, .., %d) %08x", x, n, got)
			}
		}
	}
}

func TestZerosOfNought(t *testing.T) { // P2.2
	for _, n := range []int{0, 1, 255, 1 << 20, math.MaxInt} {
		if got := crc.Zeros(0, n); got != 0 {
			t.Errorf("Zeros(0, %d) %08x", n, got)
		}
	}
}

// TestZerosThatCount: behind 2^20 bytes no more are fed.
func TestZerosThatCount(t *testing.T) { // P2.2
	const most = 1 << 20
	for _, x := range []uint32{1, 0xdeadbeef, 0xffffffff} {
		before := fed(x, strings.Repeat("\x00", most-1))
		last := fed(before, "\x00")
		if before == last || last == fed(last, "\x00") {
			t.Fatalf("%08x tells none apart", x)
		}
		if got := crc.Zeros(x, most-1); got != before {
			t.Errorf("Zeros(%08x, 2^20 - 1) %08x", x, got)
		}
		for _, n := range []int{most, most + 1, most + 2, 2 * most, math.MaxInt32, math.MaxInt} {
			if got := crc.Zeros(x, n); got != last {
				t.Errorf("Zeros(%08x, %d) %08x", x, n, got)
			}
			if got := crc.Join(x, 0x0f1e2d3c, n); got != last^0x0f1e2d3c {
				t.Errorf("Join(%08x, .., %d) %08x", x, n, got)
			}
		}
	}
}

func TestJoinOfAnyNumbers(t *testing.T) { // P2.2
	for _, a := range numbers() {
		for _, b := range numbers() {
			for _, n := range []int{0, 1, 2, 3, 4, 5, 17} {
				if got := crc.Join(a, b, n); got != fed(a, strings.Repeat("\x00", n))^b {
					t.Errorf("Join(%08x, %08x, %d) %08x", a, b, n, got)
				}
			}
		}
	}
}

func TestSumIsAddPartByPart(t *testing.T) { // P2.4
	parts := []string{"", "a", text(15), "", text(16), "\x00\x00", text(1000), "\xff"}
	var sum uint32
	for i, part := range parts {
		sum = crc.Add(sum, part)
		if got := crc.Sum(parts[:i+1]...); got != sum {
			t.Errorf("%d parts: %08x, not %08x", i+1, got, sum)
		}
	}
	if sum != want(strings.Join(parts, "")) {
		t.Errorf("all: %08x", sum)
	}
}

func TestJoinOfTwoTexts(t *testing.T) { // P2.4
	for _, n := range []int{0, 1, 2, 3, 4, 5, 16, 255, 256, 257, 4099} {
		for _, m := range []int{0, 1, 2, 3, 4, 5, 16, 255, 256, 257, 4099} {
			a, b := text(n), text(m + 1)[1:]
			if got := crc.Join(crc.Sum(a), crc.Sum(b), m); got != want(a+b) {
				t.Errorf("%d bytes and %d: %08x", n, m, got)
			}
		}
	}
	for _, m := range []int{1<<20 - 1, 1 << 20} { // as long as all of its bytes count
		a, b := text(100), text(m)
		if got := crc.Join(crc.Sum(a), crc.Sum(b), m); got != want(a+b) {
			t.Errorf("100 bytes and %d: %08x", m, got)
		}
	}
}

func TestJoinOfEachCut(t *testing.T) { // P2.4
	s := text(300)
	for at := range len(s) + 1 {
		if got := crc.Join(crc.Sum(s[:at]), crc.Sum(s[at:]), len(s)-at); got != want(s) {
			t.Errorf("cut at %d: %08x", at, got)
		}
	}
}
