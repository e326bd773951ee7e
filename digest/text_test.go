package digest_test

import (
	"encoding/hex"
	"strings"
	"testing"

	"sediment/api"
	"sediment/digest"
)

func TestHex(t *testing.T) { // P1.5
	for _, c := range []struct {
		id   api.Id
		text string
	}{
		{api.Id{}, strings.Repeat("0", 64)},
		{api.Id{0, 1, 0x10, 0xab, 0xba, 31: 0xff}, "000110abba" + strings.Repeat("0", 52) + "ff"},
		{api.Id{0: 0x0f, 31: 0xf0}, "0f" + strings.Repeat("0", 60) + "f0"},
		{want("abc"), "ba7816bf8f01cfea414140de5dae2223b00361a396177a9cb410ff61f20015ad"},
	} {
		if got := digest.Hex(c.id); got != c.text {
			t.Errorf("Hex %q, not %q", got, c.text)
		}
		if id, ok := digest.Unhex(c.text); id != c.id || !ok {
			t.Errorf("Unhex(%q) %x, %t", c.text, id, ok)
		}
	}
}

func TestHexOfEachByte(t *testing.T) { // P1.5
	for at := range 32 {
		for b := range 256 {
			id := want("a")
			id[at] = byte(b)
			s := digest.Hex(id)
			if s != hex.EncodeToString(id[:]) {
				t.Fatalf("%02x at %d: %q", b, at, s)
			}
			if back, ok := digest.Unhex(s); back != id || !ok {
				t.Fatalf("%q: %x, %t", s, back, ok)
			}
		}
	}
}

// refused says that s is no id's text.
func refused(t *testing.T, s string) {
	t.Helper()
	if id, ok := digest.Unhex(s); id != (api.Id{}) || ok {
		t.Errorf("Unhex(%q) %x, %t", s, id, ok)
	}
}

func TestUnhexOfOtherLengths(t *testing.T) { // P1.5
	for n := range 200 {
		if n != 64 {
			refused(t, strings.Repeat("a", n))
		}
	}
	good := digest.Hex(want("abc"))
	for _, s := range []string{good[1:], good[:63], good[:62], good + "0", "0" + good, good + "00", good + good, good + "\n", " " + good, "0x" + good[2:]} {
		refused(t, s)
	}
}

// TestUnhexOfOtherSigns puts each byte that is no digit at each place: of a pair only one half is wrong.
func TestUnhexOfOtherSigns(t *testing.T) { // P1.5
	good := digest.Hex(want("abc"))
	for at := range good {
		for b := range 256 {
			s := good[:at] + string([]byte{byte(b)}) + good[at+1:]
			if strings.IndexByte("0123456789abcdef", byte(b)) < 0 {
				refused(t, s)
			} else if id, ok := digest.Unhex(s); digest.Hex(id) != s || !ok {
				t.Errorf("Unhex(%q) %x, %t", s, id, ok)
			}
		}
	}
}

func TestUnhexOfUpperCase(t *testing.T) { // P1.5
	good := digest.Hex(want("abc"))
	refused(t, strings.ToUpper(good))
	refused(t, strings.Repeat("A", 64))
	refused(t, strings.Repeat("aF", 32))
	refused(t, strings.Repeat("é", 32)) // 64 bytes, but no 64 digits
}
