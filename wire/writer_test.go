package wire_test

import (
	"math"
	"slices"
	"strings"
	"testing"

	"sediment/api"
	"sediment/wire"
)

// text is n bytes of which no stretch is like the next one.
func text(n int) string {
	b := make([]byte, n)
	x := uint32(n)*2654435761 + 12345
	for i := range b {
		x = x*1664525 + 1013904223
		b[i] = byte(x >> 24)
	}
	return string(b)
}

// id is one whose bytes begin with b.
func id(b byte) api.Id {
	var x api.Id
	for i := range x {
		x[i] = b + byte(i)
	}
	return x
}

// digits are a number's bytes, as the document tells them.
func digits(n int) string {
	var b []byte
	for {
		b = append(b, byte(n%128))
		n /= 128
		if n == 0 {
			break
		}
		b[len(b)-1] += 128
	}
	return string(b)
}

// numbers are those at the edges of each count of digits, and others.
func numbers() []int {
	l := []int{0, 1, 2, 127, 128, 129, 255, 256, 300, 4099, 1<<20 - 1, 1 << 20, 1<<40 - 1, 1<<40 - 2, 1 << 39}
	for k := 7; k < 40; k += 7 {
		l = append(l, 1<<k-1, 1<<k, 1<<k+1)
	}
	x := 1
	for range 300 {
		x = (x*6364136223846793005 + 1442695040888963407) & (1<<62 - 1)
		l = append(l, x>>(22+x%40))
	}
	return l
}

func TestWriterExamples(t *testing.T) { // P3.1
	for n, s := range map[int]string{
		0: "\x00", 1: "\x01", 127: "\x7f", 128: "\x80\x01", 255: "\xff\x01", 300: "\xac\x02", 16383: "\xff\x7f", 16384: "\x80\x80\x01",
		1<<35 - 1: "\xff\xff\xff\xff\x7f", 1 << 35: "\x80\x80\x80\x80\x80\x01", 1<<40 - 1: "\xff\xff\xff\xff\xff\x1f",
	} {
		var w wire.Writer
		w.Number(n)
		if got := w.String(); got != s {
			t.Errorf("Number(%d) %x, not %x", n, got, s)
		}
	}
	var w wire.Writer
	w.Text("ab")
	if got := w.String(); got != "\x02ab" {
		t.Errorf("Text(ab) %x", got)
	}
}

func TestWriterBegins(t *testing.T) { // P3.1
	var w wire.Writer
	if got := w.String(); got != "" {
		t.Errorf("%q", got)
	}
	w.Number()
	w.Text()
	w.Id()
	w.Raw()
	w.Raw("", "")
	if got := w.String(); got != "" {
		t.Errorf("behind nothing: %q", got)
	}
	w.Text("")
	if got := w.String(); got != "\x00" {
		t.Errorf("an empty text: %q", got)
	}
}

func TestNumbersWritten(t *testing.T) { // P3.1
	for _, n := range numbers() {
		var w wire.Writer
		w.Number(n)
		if got := w.String(); got != digits(n) {
			t.Errorf("Number(%d) %x, not %x", n, got, digits(n))
		}
	}
}

func TestNumbersOutsideTheBounds(t *testing.T) { // P3.1
	for _, n := range []int{-1, -2, -128, math.MinInt32, math.MinInt} {
		var w wire.Writer
		w.Number(n)
		if got := w.String(); got != "\x00" {
			t.Errorf("Number(%d) %x", n, got)
		}
	}
	for _, n := range []int{1 << 40, 1<<40 + 1, 1 << 42, 1 << 62, math.MaxInt} {
		var w wire.Writer
		w.Number(n)
		if got := w.String(); got != "\xff\xff\xff\xff\xff\x1f" {
			t.Errorf("Number(%d) %x", n, got)
		}
	}
}

func TestTextsWritten(t *testing.T) { // P3.1
	for _, n := range []int{0, 1, 2, 126, 127, 128, 129, 300, 16383, 16384, 1 << 20, 1<<21 + 5} {
		var w wire.Writer
		w.Text(text(n))
		if w.String() != digits(n)+text(n) {
			t.Errorf("a text of %d bytes", n)
		}
	}
	var w wire.Writer
	w.Text("é", "\xff\x80", "\x00")
	if got := w.String(); got != "\x02\xc3\xa9\x02\xff\x80\x01\x00" {
		t.Errorf("%x", got)
	}
}

func TestWriterPutsAllInOrder(t *testing.T) { // P3.1
	var w wire.Writer
	a, b := id(1), id(200)
	w.Number(1, 300, -5)
	w.Text("x", "", "yz")
	w.Id(a, b)
	w.Raw("raw", "", "\x80")
	w.Number(1<<41, 0)
	w.Id(api.Id{})
	want := "\x01\xac\x02\x00" + "\x01x\x00\x02yz" + string(a[:]) + string(b[:]) + "raw\x80" + "\xff\xff\xff\xff\xff\x1f\x00" + strings.Repeat("\x00", 32)
	if got := w.String(); got != want {
		t.Errorf("%x, not %x", got, want)
	}
}

func TestStringStays(t *testing.T) { // P3.1
	var w wire.Writer
	var l []string
	for i := range 200 {
		l = append(l, w.String())
		w.Number(i)
	}
	for i, s := range l {
		want := ""
		for n := range i {
			want += digits(n)
		}
		if s != want {
			t.Fatalf("what was had behind %d numbers: %x", i, s)
		}
	}
}

func TestTwoWriters(t *testing.T) { // P3.1
	var a, b wire.Writer
	a.Raw("a")
	b.Raw("b")
	a.Number(1)
	b.Number(2)
	if a.String() != "a\x01" || b.String() != "b\x02" {
		t.Errorf("%q %q", a.String(), b.String())
	}
}

func TestWriterKeepsArguments(t *testing.T) { // P3.1
	var w wire.Writer
	numbers, texts, ids := []int{-1, 1 << 50, 3}, []string{"a", "b"}, []api.Id{id(1), id(2)}
	w.Number(numbers...)
	w.Text(texts...)
	w.Raw(texts...)
	w.Id(ids...)
	before := w.String()
	if !slices.Equal(numbers, []int{-1, 1 << 50, 3}) || !slices.Equal(texts, []string{"a", "b"}) || !slices.Equal(ids, []api.Id{id(1), id(2)}) {
		t.Error("the arguments were changed")
	}
	numbers[0], texts[0], ids[0] = 9, "z", api.Id{}
	if w.String() != before {
		t.Error("the arguments were kept")
	}
}

func TestNilWriter(t *testing.T) { // P3.1
	var w *wire.Writer
	w.Number(1, 2)
	w.Text("a", "b")
	w.Id(id(1))
	w.Raw("a", "b")
	w.Number()
	w.Text()
	w.Id()
	w.Raw()
	if got := w.String(); got != "" {
		t.Errorf("%q", got)
	}
}
