package vault_test

import (
	"crypto/sha256"
	"encoding/hex"
	"strings"
	"testing"

	"vault/vault"
)

// TestDigest: P3, at lengths about multiples of 64 above all.
func TestDigest(t *testing.T) {
	empty := "e3b0c44298fc1c149afbf4c8996fb92427ae41e4649b934ca495991b7852b855"
	if d := hex.EncodeToString([]byte(vault.Digest(""))); d != empty {
		t.Errorf("P3: Digest of the empty text = %s, want %s", d, empty)
	}
	for multiple := range 10 {
		for near := range 64 {
			length := 64*multiple + near
			for _, letter := range []string{"\x00", "a", "\xff"} {
				text := strings.Repeat(letter, length)
				want := sha256.Sum256([]byte(text))
				if d := vault.Digest(text); d != string(want[:]) {
					t.Fatalf("P3: Digest of %d times %q = %x, want %x", length, letter, d, want)
				}
			}
		}
	}
}
