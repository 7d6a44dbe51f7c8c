// Package packet makes bytes with checksums.
package packet

// modulus is the number modulo which checksums are computed.
const modulus = 65521

// Checksum returns the checksum of any bytes.
func Checksum(b string) int {
	sum := len(b) % modulus
	for i := range len(b) {
		sum = (sum + (i+1)%modulus*int(b[i])) % modulus
	}
	return sum
}

// Number appends a number that is not negative.
func Number(b []byte, x int) []byte {
	for ; x >= 128; x >>= 7 {
		b = append(b, byte(x&127|128))
	}
	return append(b, byte(x))
}

// Sealed returns bytes with their checksum behind them.
func Sealed(b []byte) string {
	sum := Checksum(string(b))
	return string(append(b, byte(sum>>8), byte(sum)))
}

// Intact reports whether there are at least six bytes, the last two of which are the checksum of all others.
func Intact(b string) bool {
	if len(b) < 6 {
		return false
	}
	body := b[:len(b)-2]
	return Sealed([]byte(body)) == b
}

// Message returns the message of a place with a symbol.
func Message(round, from, to, symbol int) string {
	return Sealed(Number([]byte{byte(round), byte(from), byte(to)}, symbol))
}
