package digest

import "sediment/api"

const digits = "0123456789abcdef"

// Hex is an id as text.
func Hex(id api.Id) string {
	var text [2 * len(id)]byte
	for i, b := range id {
		text[2*i] = digits[b>>4]
		text[2*i+1] = digits[b&15]
	}
	return string(text[:])
}

// Unhex is the id of a text.
func Unhex(s string) (api.Id, bool) {
	var id api.Id
	if len(s) != 2*len(id) {
		return api.Id{}, false
	}
	for i := range id {
		high, highOk := half(s[2*i])
		low, lowOk := half(s[2*i+1])
		if !highOk || !lowOk {
			return api.Id{}, false
		}
		id[i] = high<<4 | low
	}
	return id, true
}

// half is the half of a byte that a digit tells. Upper-case letters are no digits: an id has just one text.
func half(digit byte) (byte, bool) {
	switch {
	case '0' <= digit && digit <= '9':
		return digit - '0', true
	case 'a' <= digit && digit <= 'f':
		return digit - 'a' + 10, true
	}
	return 0, false
}
