package delta

import (
	"math"
	"strings"

	"sediment/api"
	"sediment/wire"
)

// copyOf is a piece that copies n bytes from a place on.
func copyOf(place, n int) api.Piece {
	return api.Piece{Copy: complex(float64(place), float64(n))}
}

// isCopy says whether a piece is to be taken for a copy, right or not.
func isCopy(p api.Piece) bool {
	return p.Copy != 0
}

// span is from where on a right copy copies, and how many bytes.
func span(p api.Piece) (place, n int) {
	return int(real(p.Copy)), int(imag(p.Copy))
}

// addBytes is l with a piece of bytes behind it, if there are any.
func addBytes(l []api.Piece, s string) []api.Piece {
	if s == "" {
		return l
	}
	return append(l, api.Piece{Text: strings.Clone(s)}) // a piece would keep what was handed in
}

// right says whether a piece is right for a base of b bytes.
func right(b int, p api.Piece) bool {
	if !isCopy(p) {
		return len(p.Text) >= 1 && len(p.Text) <= api.MaxFrame
	}
	// held against the bounds as they are: what is beyond all whole numbers, or no number, would come to any of them
	place, n := real(p.Copy), imag(p.Copy)
	return p.Text == "" && within(n, 1, api.MaxFrame) && within(place, 0, float64(b)-n)
}

// within says whether x is a whole number from least to most.
func within(x, least, most float64) bool {
	return x >= least && x <= most && x == math.Trunc(x)
}

// size is how many bytes a right piece's text has.
func size(p api.Piece) int {
	if !isCopy(p) {
		return len(p.Text)
	}
	_, n := span(p)
	return n
}

// length is how many bytes the text of pieces by a base of b bytes has, or why there is none.
func length(b int, l []api.Piece) (int, api.Errno) {
	if b < 0 || b > api.MaxFrame {
		return 0, api.ErrArg
	}
	n := 0
	for _, p := range l {
		if !right(b, p) { // even behind too many bytes: it is told first
			return 0, api.ErrArg
		}
		n += size(p)
	}
	if n > api.MaxFrame {
		return 0, api.ErrRange
	}
	return n, api.OK
}

// join is the text of right pieces.
func join(base string, l []api.Piece) string {
	var s strings.Builder
	for _, p := range l {
		if !isCopy(p) {
			s.WriteString(p.Text)
			continue
		}
		place, n := span(p)
		s.WriteString(base[place : place+n])
	}
	return s.String()
}

// writePiece writes a right piece.
func writePiece(w *wire.Writer, p api.Piece) {
	if !isCopy(p) {
		w.Number(2 * len(p.Text))
		w.Raw(p.Text)
		return
	}
	place, n := span(p)
	w.Number(2*n+1, place)
}

// readPiece reads a piece, right or not.
func readPiece(r *wire.Reader) api.Piece {
	k := r.Number(api.MaxNumber)
	n := k / 2
	if k%2 == 0 {
		return api.Piece{Text: r.Raw(n)}
	}
	return copyOf(r.Number(api.MaxNumber), n)
}
