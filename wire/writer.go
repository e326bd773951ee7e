package wire

import "sediment/api"

// Writer has what was written.
type Writer struct{ b []byte }

// Number writes numbers.
func (w *Writer) Number(l ...int) {
	if w == nil {
		return
	}
	for _, n := range l {
		w.number(min(max(n, 0), api.MaxNumber))
	}
}

// Text writes texts.
func (w *Writer) Text(l ...string) {
	for _, s := range l {
		w.Number(len(s))
		w.Raw(s)
	}
}

// Id writes ids.
func (w *Writer) Id(l ...api.Id) {
	if w == nil {
		return
	}
	for _, id := range l {
		w.b = append(w.b, id[:]...)
	}
}

// Raw writes bytes.
func (w *Writer) Raw(l ...string) {
	if w == nil {
		return
	}
	for _, s := range l {
		w.b = append(w.b, s...)
	}
}

// String is what was written.
func (w *Writer) String() string {
	if w == nil {
		return ""
	}
	return string(w.b)
}

// number writes a number that is within the bounds.
func (w *Writer) number(n int) {
	for n >= base {
		w.b = append(w.b, byte(n%base+more))
		n /= base
	}
	w.b = append(w.b, byte(n))
}
