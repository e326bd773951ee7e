package wire

import (
	"strings"

	"sediment/api"
)

// Reader is read from.
type Reader struct {
	s   string
	at  int
	err api.Errno // the first one
}

// NewReader reads bytes.
func NewReader(s string) *Reader {
	return &Reader{s: strings.Clone(s)} // so that no answer, which is a piece of it, shares memory with what was handed in
}

// Number reads a number.
func (r *Reader) Number(most int) int {
	if r.Err() != api.OK {
		return 0
	}
	n, size, err := number(r.s[r.at:], most)
	if err != api.OK {
		r.err = err
		return 0
	}
	r.at += size
	return n
}

// Text reads a text.
func (r *Reader) Text(most int) string {
	if r.Err() != api.OK {
		return ""
	}
	began := r.at
	s := r.Raw(r.Number(most))
	if r.err != api.OK {
		r.at = began // the number may have been read ahead of the error
	}
	return s
}

// Id reads an id.
func (r *Reader) Id() api.Id {
	var id api.Id
	copy(id[:], r.Raw(len(id)))
	return id
}

// Raw reads bytes.
func (r *Reader) Raw(n int) string {
	if r.Err() != api.OK {
		return ""
	}
	if n < 0 {
		r.err = api.ErrForm
		return ""
	}
	if n > len(r.s)-r.at {
		r.err = api.ErrShort
		return ""
	}
	s := r.s[r.at : r.at+n]
	r.at += n
	return s
}

// At is where the reader stands.
func (r *Reader) At() int {
	if r == nil {
		return 0
	}
	return r.at
}

// Err is the first error.
func (r *Reader) Err() api.Errno {
	if r == nil {
		return api.ErrShort
	}
	return r.err
}

// End says whether all was read.
func (r *Reader) End() api.Errno {
	if err := r.Err(); err != api.OK {
		return err
	}
	if r.at < len(r.s) {
		return api.ErrMore
	}
	return api.OK
}

// number is the number of at most most that some bytes begin with, and how many bytes it has.
func number(s string, most int) (n, size int, err api.Errno) {
	var b byte
next:
	if size == maxDigits {
		err = api.ErrMany
		goto wrong
	}
	if size == len(s) {
		err = api.ErrShort
		goto wrong
	}
	b = s[size]
	n += int(b%base) << (size * digitBits)
	size++
	if b >= more {
		goto next
	}
	if b == 0 && size > 1 {
		err = api.ErrForm
		goto wrong
	}
	if n > api.MaxNumber || n > most {
		err = api.ErrMany
		goto wrong
	}
	return n, size, api.OK
wrong:
	return 0, 0, err
}
