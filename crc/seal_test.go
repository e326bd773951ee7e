package crc_test

import (
	"encoding/binary"
	"strings"
	"testing"
	"unsafe"

	"sediment/crc"
)

// sealed is the sealed text by another hand.
func sealed(s string) string {
	return string(binary.LittleEndian.AppendUint32([]byte(s), want(s)))
}

// refused says that s is no text sealed.
func refused(t *testing.T, s string) {
	t.Helper()
	if got, ok := crc.Unseal(s); got != "" || ok {
		t.Errorf("Unseal(%.80q) %.80q, %t", s, got, ok)
	}
}

// edges are texts at which a seal may go wrong.
func edges() []string {
	return []string{"", "a", "\x00", "\x00\x00\x00\x00", "\xff\xff\xff\xff", "é", "123456789", sealed(""), sealed("a"), text(15), text(64), text(4099)}
}

func TestSealExamples(t *testing.T) { // P2.3
	for s, all := range map[string]string{
		"":          "\x00\x00\x00\x00",
		"a":         "\x61\x43\xbe\xb7\xe8",
		"123456789": "123456789\x26\x39\xf4\xcb",
	} {
		if got := crc.Seal(s); got != all {
			t.Errorf("Seal(%q) %q", s, got)
		}
		if got, ok := crc.Unseal(all); got != s || !ok {
			t.Errorf("Unseal(%q) %q, %t", all, got, ok)
		}
	}
}

func TestSealAndUnseal(t *testing.T) { // P2.3
	texts := edges()
	for n := range 300 {
		texts = append(texts, text(n))
	}
	texts = append(texts, text(1<<20))
	for _, s := range texts {
		all := crc.Seal(s)
		if all != sealed(s) {
			t.Errorf("Seal(%.80q) %.80q", s, all)
		}
		if got, ok := crc.Unseal(all); got != s || !ok {
			t.Errorf("Unseal(%.80q) %.80q, %t", all, got, ok)
		}
	}
}

func TestUnsealTakesOneSeal(t *testing.T) { // P2.3
	all := "abc"
	for range 5 {
		all = crc.Seal(all)
	}
	for range 5 {
		var ok bool
		if all, ok = crc.Unseal(all); !ok {
			t.Fatal("a text sealed five times")
		}
	}
	if all != "abc" {
		t.Errorf("%q", all)
	}
	refused(t, all)
}

func TestUnsealOfShortTexts(t *testing.T) { // P2.3
	for _, s := range []string{"", "\x00", "\x00\x00", "\x00\x00\x00", "a", "ab", "abc", "\xff\xff\xff", "\x00\x00\x00\x01", "\x01\x00\x00\x00", "\xff\xff\xff\xff", "abcd"} {
		refused(t, s)
	}
}

// TestUnsealOfOtherBytes: what is cut, lengthened, or has its sum in another order, is no text sealed.
func TestUnsealOfOtherBytes(t *testing.T) { // P2.3
	for _, s := range []string{"a", "é", "123456789", text(40), text(4099)} {
		all := sealed(s)
		for n := range min(len(all), 64) {
			refused(t, all[:len(all)-1-n])
			refused(t, all[n+1:]+all[:n])
		}
		for _, x := range []string{"\x00", "a", "\xff", "\x00\x00\x00\x00"} {
			refused(t, all+x)
			refused(t, x+all)
		}
		refused(t, s)
		refused(t, all[len(s):]+s)
		refused(t, string(binary.BigEndian.AppendUint32([]byte(s), want(s))))
		refused(t, string(binary.LittleEndian.AppendUint32([]byte(s), ^want(s))))
	}
}

func TestUnsealTellsNewMemory(t *testing.T) { // P2.3
	all := sealed(text(100))
	got, _ := crc.Unseal(all)
	from, to := uintptr(unsafe.Pointer(unsafe.StringData(all))), uintptr(unsafe.Pointer(unsafe.StringData(got)))
	if from <= to && to < from+uintptr(len(all)) {
		t.Error("what was unsealed lies in what was handed in")
	}
}

// turned is s, of whose bits (of each byte the lowest first) some are turned: those of mask, whose lowest stands at a place.
func turned(s string, at int, mask uint32) string {
	b := []byte(s)
	for i := range 32 {
		if mask>>i&1 == 1 {
			b[(at+i)/8] ^= 1 << ((at + i) % 8)
		}
	}
	return string(b)
}

// masks are bits within n one behind the other, the first and the last of them turned.
func masks(n int) []uint32 {
	ends := uint32(1) | 1<<(n-1)
	all := uint32(1<<n - 1)
	l := []uint32{ends, all, ends | 0x55555555&all, ends | 0xaaaaaaaa&all, ends | 0xedb88320&all, ends | 0xdb710641&all}
	x := uint32(n)
	for range 8 {
		x = x*1664525 + 1013904223
		l = append(l, ends|x&all)
	}
	return l
}

// TestTurnedBits turns bits at each place, in the text, in its sum, and over the edge between them.
func TestTurnedBits(t *testing.T) { // P2.5
	for _, s := range []string{"", "a", "abc", "\x00\x00\x00\x00\x00", strings.Repeat("\xff", 9), text(30)} {
		all := crc.Seal(s)
		for n := 1; n <= 32; n++ {
			for at := 0; at+n <= 8*len(all); at++ {
				for _, mask := range masks(n) {
					refused(t, turned(all, at, mask))
				}
			}
		}
	}
}

// TestAllTurnedBits turns whatever bits there are within some few.
func TestAllTurnedBits(t *testing.T) { // P2.5
	all := crc.Seal("abcdef")
	for mask := uint32(1); mask < 1<<12; mask++ {
		for at := 0; at+12 <= 8*len(all); at++ {
			refused(t, turned(all, at, mask))
		}
	}
}

// TestTurnedBitsOfLongTexts turns bits about the ends of a text as long as a file may be.
func TestTurnedBitsOfLongTexts(t *testing.T) { // P2.5
	all := crc.Seal(text(1<<20 - 4))
	for _, at := range []int{0, 1, 12345, 4 << 20, 8*len(all) - 63, 8*len(all) - 48, 8*len(all) - 33, 8*len(all) - 32} {
		for _, mask := range []uint32{1, 0x80000001, 0xffffffff, 0xdb710641} {
			refused(t, turned(all, at, mask))
		}
	}
}

// TestTurnedBitsFartherApart: 33 bits one behind the other can be turned unseen, so that no more than 32 is to be promised.
func TestTurnedBitsFartherApart(t *testing.T) { // P2.5
	all := crc.Seal(text(30))
	unseen := turned(turned(all, 40, 0xdb710641), 72, 1) // 1DB710641: the steps' own number, all 33 bits of it
	if got, ok := crc.Unseal(unseen); !ok || got == text(30) {
		t.Error("bits turned as the steps turn them were seen")
	}
}
