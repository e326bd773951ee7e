package crc

import "strings"

// sealSize is how many bytes of a sealed text are its sum.
const sealSize = 4

// Seal is a text with its sum.
func Seal(s string) string {
	seal := sealOf(s)
	return s + string(seal[:])
}

// Unseal is what was sealed.
func Unseal(s string) (string, bool) {
	at := len(s) - sealSize
	if at < 0 {
		return "", false
	}
	if seal := sealOf(s[:at]); s[at:] != string(seal[:]) {
		return "", false
	}
	return strings.Clone(s[:at]), true // an answer shares no memory with what was handed in
}

// sealOf are the four bytes of a text's sum, the lowest first.
func sealOf(s string) [sealSize]byte {
	sum := Sum(s)
	return [sealSize]byte{byte(sum), byte(sum >> 8), byte(sum >> 16), byte(sum >> 24)}
}
