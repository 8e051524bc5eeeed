package gcm

import (
	"testing"

	"binnacle/aes"
)

// P6.1: the counter's four bytes, big-endian, behind the nonce; its first byte would take more blocks than a test seals.
func TestCounter(t *testing.T) {
	n := Nonce{0: 0xa1, 5: 0xa2, 11: 0xa3}
	want := aes.Block{0: 0xa1, 5: 0xa2, 11: 0xa3, 12: 0x12, 13: 0x34, 14: 0x56, 15: 0x78}
	if got := counter(n, 0x12345678); got != want {
		t.Errorf("counter = %x, want %x", got, want)
	}
}
