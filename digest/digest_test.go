package digest_test

import (
	"crypto/sha256"
	"slices"
	"strings"
	"sync"
	"testing"

	"sediment/api"
	"sediment/digest"
)

// text is n bytes of which no stretch is like the next one.
func text(n int) string {
	b := make([]byte, n)
	x := uint32(n)*2654435761 + 12345
	for i := range b {
		x = x*1664525 + 1013904223
		b[i] = byte(x >> 24)
	}
	return string(b)
}

// want is the digest by another hand.
func want(s string) api.Id {
	return api.Id(sha256.Sum256([]byte(s)))
}

// edges are lengths at and about those where a text's lengthening changes.
func edges() []int {
	l := []int{0, 1, 2, 3, 54, 55, 56, 57, 62, 63, 64, 65}
	for _, n := range []int{128, 192, 256, 512, 1024, 4096} {
		l = append(l, n-10, n-9, n-8, n-7, n-2, n-1, n, n+1)
	}
	return l
}

func TestSumExamples(t *testing.T) { // P1.1
	for s, hex := range map[string]string{
		"":    "e3b0c44298fc1c149afbf4c8996fb92427ae41e4649b934ca495991b7852b855",
		"abc": "ba7816bf8f01cfea414140de5dae2223b00361a396177a9cb410ff61f20015ad",
		"abcdbcdecdefdefgefghfghighijhijkijkljklmklmnlmnomnopnopq": "248d6a61d20638b8e5c026930c3e6039a33ce45964ff2167f6ecedd419db06c1",
		strings.Repeat("a", 1000000):                               "cdc76e5c9914fb9281a1c7e284d73e67f1809a48a497200e046d39ccc7112cd0",
	} {
		if got := digest.Hex(digest.Sum(s)); got != hex {
			t.Errorf("Sum of %d bytes: %s, not %s", len(s), got, hex)
		}
	}
}

func TestSumOfEachLength(t *testing.T) { // P1.1
	for n := range 1030 {
		if s := text(n); digest.Sum(s) != want(s) {
			t.Errorf("%d bytes", n)
		}
	}
	for _, n := range edges() {
		for _, b := range []string{"\x00", "\x80", "\xff"} { // the bytes that texts are lengthened by
			if s := strings.Repeat(b, n); digest.Sum(s) != want(s) {
				t.Errorf("%d bytes %x", n, b)
			}
		}
	}
}

func TestSumOfEachByte(t *testing.T) { // P1.1
	for b := range 256 {
		s := string([]byte{byte(b)})
		if digest.Sum(s) != want(s) {
			t.Errorf("byte %02x", b)
		}
	}
	for _, s := range []string{"é", "\xff\xfe", "日本", "a\x00b"} {
		if digest.Sum(s) != want(s) {
			t.Errorf("%q", s)
		}
	}
}

func TestSumOfNothing(t *testing.T) { // P1.1
	nothing := want("")
	for _, parts := range [][]string{nil, {}, {""}, {"", "", ""}} {
		if digest.Sum(parts...) != nothing {
			t.Errorf("%q", parts)
		}
	}
}

func TestSumPutsPartsBehindOneAnother(t *testing.T) { // P1.1
	if digest.Sum("ab", "c") != want("abc") {
		t.Error("ab, c")
	}
	if digest.Sum("c", "ab") != want("cab") {
		t.Error("c, ab")
	}
	if digest.Sum("", "a", "", "", "bc", "") != want("abc") {
		t.Error("with empty parts")
	}
	parts := []string{"x", text(70), "", text(64)}
	kept := slices.Clone(parts)
	digest.Sum(parts...)
	if !slices.Equal(parts, kept) {
		t.Error("the parts were changed")
	}
}

// TestLongText: so long that its bits' number needs more than 32 bits.
func TestLongText(t *testing.T) { // P1.1, P1.2
	if testing.Short() {
		t.Skip("half a gigabyte is hashed twice")
	}
	part := text(1 << 20)
	times := 1<<9 + 1
	other := sha256.New()
	var h digest.Hash
	for range times {
		other.Write([]byte(part))
		h.Write(part)
	}
	if h.Sum() != api.Id(other.Sum(nil)) {
		t.Error("the digest")
	}
	if h.Len() != uint64(times)<<20 {
		t.Error("the length", h.Len())
	}
}

func TestHashTakes(t *testing.T) { // P1.2
	var h digest.Hash
	var all string
	for n := range 200 {
		s := text(n)
		h.Write(s)
		all += s
		if h.Len() != uint64(len(all)) {
			t.Fatalf("behind %d bytes Len %d", len(all), h.Len())
		}
		if h.Sum() != want(all) {
			t.Fatalf("behind %d bytes the digest", len(all))
		}
	}
}

func TestHashTakesParts(t *testing.T) { // P1.2
	var h digest.Hash
	h.Write("a", "", text(63), text(64), "z")
	all := "a" + text(63) + text(64) + "z"
	if h.Sum() != want(all) || h.Len() != uint64(len(all)) {
		t.Error("several parts")
	}
	h.Write()
	h.Write("")
	h.Write("", "")
	if h.Sum() != want(all) || h.Len() != uint64(len(all)) {
		t.Error("behind empty parts")
	}
}

func TestZeroHash(t *testing.T) { // P1.2
	var h digest.Hash
	if h.Len() != 0 || h.Sum() != want("") {
		t.Error("the zero value")
	}
	h.Write()
	h.Write("", "")
	if h.Len() != 0 || h.Sum() != want("") {
		t.Error("that took empty parts")
	}
	h.Write("abc")
	if h.Len() != 3 || h.Sum() != want("abc") {
		t.Error("that took a text behind them")
	}
}

func TestNilHash(t *testing.T) { // P1.2
	var h *digest.Hash
	if h.Len() != 0 || h.Sum() != want("") {
		t.Error("a nil hash")
	}
	h.Write()
	h.Write("abc", text(100))
	if h.Len() != 0 || h.Sum() != want("") {
		t.Error("a nil hash that was written to")
	}
}

func TestSumChangesNothing(t *testing.T) { // P1.2
	for _, n := range edges() {
		head, tail := text(n), text(n+70)
		var h digest.Hash
		h.Write(head)
		first := h.Sum()
		if h.Sum() != first || first != want(head) {
			t.Errorf("%d bytes: Sum twice", n)
		}
		if h.Len() != uint64(n) {
			t.Errorf("%d bytes: Len %d behind Sum", n, h.Len())
		}
		h.Write(tail)
		if h.Sum() != want(head+tail) {
			t.Errorf("%d bytes: Sum between writes", n)
		}
	}
}

func TestCutInTwo(t *testing.T) { // P1.3
	for _, n := range []int{1, 55, 56, 63, 64, 65, 119, 120, 127, 128, 129, 200} {
		s := text(n)
		id := want(s)
		for at := range n + 1 {
			if digest.Sum(s[:at], s[at:]) != id {
				t.Fatalf("Sum of %d bytes, cut at %d", n, at)
			}
			var h digest.Hash
			h.Write(s[:at])
			h.Write(s[at:])
			if h.Sum() != id {
				t.Fatalf("a hash of %d bytes, cut at %d", n, at)
			}
		}
	}
}

func TestCutInMany(t *testing.T) { // P1.3
	s := text(777)
	id := want(s)
	for size := 1; size <= len(s); size++ {
		var parts []string
		var h digest.Hash
		for b := range slices.Chunk([]byte(s), size) {
			parts = append(parts, string(b), "")
			h.Write(string(b))
		}
		if digest.Sum(parts...) != id || h.Sum() != id || h.Len() != uint64(len(s)) {
			t.Fatalf("pieces of %d bytes", size)
		}
	}
}

func TestCutInThree(t *testing.T) { // P1.3
	s := text(130)
	id := want(s)
	for a := range len(s) + 1 {
		for b := a; b <= len(s); b++ {
			if digest.Sum(s[:a], s[a:b], s[b:]) != id {
				t.Fatalf("cut at %d and %d", a, b)
			}
		}
	}
}

func TestCopyGoesOnByItself(t *testing.T) { // P1.4
	for _, n := range edges() {
		head := text(n)
		var h digest.Hash
		h.Write(head)
		c := h
		all, copied := head, head
		for k := range 140 { // by turns, so that what they share would be overwritten
			h.Write("x", text(k%5))
			all += "x" + text(k%5)
			c.Write("y")
			copied += "y"
			if h.Sum() != want(all) || h.Len() != uint64(len(all)) {
				t.Fatalf("%d bytes and %d writes: the first one", n, k+1)
			}
			if c.Sum() != want(copied) || c.Len() != uint64(len(copied)) {
				t.Fatalf("%d bytes and %d writes: the copy", n, k+1)
			}
		}
	}
}

func TestCopyOfZeroHash(t *testing.T) { // P1.4
	var h digest.Hash
	c := h
	h.Write("abc")
	if c.Len() != 0 || c.Sum() != want("") {
		t.Error("the copy")
	}
	c.Write("d")
	if c.Sum() != want("d") || h.Sum() != want("abc") {
		t.Error("both behind writes")
	}
}

// TestCopyWhileTheFirstGoesOn: each copy is written to by a goroutine of its own, so that the race detector sees what is shared.
func TestCopyWhileTheFirstGoesOn(t *testing.T) { // P1.4
	var h digest.Hash
	h.Write(text(100))
	var copies [8]digest.Hash
	var group sync.WaitGroup
	for i := range copies {
		copies[i] = h
		group.Go(func() {
			for range 500 {
				copies[i].Write(text(i + 1))
			}
		})
	}
	for range 500 {
		h.Write(text(9))
	}
	group.Wait()
	if h.Sum() != want(text(100)+strings.Repeat(text(9), 500)) {
		t.Error("the first one")
	}
	for i := range copies {
		if copies[i].Sum() != want(text(100)+strings.Repeat(text(i+1), 500)) {
			t.Error("copy", i)
		}
	}
}
