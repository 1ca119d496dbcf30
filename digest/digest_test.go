package digest

import (
	"crypto/sha256"
	"encoding/hex"
	"math/rand"
	"strings"
	"testing"
)

func TestKnown(t *testing.T) {
	for _, c := range []struct{ text, want string }{
		{"", "e3b0c44298fc1c149afbf4c8996fb92427ae41e4649b934ca495991b7852b855"},
		{"abc", "ba7816bf8f01cfea414140de5dae2223b00361a396177a9cb410ff61f20015ad"},
		{"abcdbcdecdefdefgefghfghighijhijkijkljklmklmnlmnomnopnopq", "248d6a61d20638b8e5c026930c3e6039a33ce45964ff2167f6ecedd419db06c1"},
		{strings.Repeat("a", 1000000), "cdc76e5c9914fb9281a1c7e284d73e67f1809a48a497200e046d39ccc7112cd0"},
	} {
		if d := hex.EncodeToString([]byte(Of(c.text))); d != c.want {
			t.Errorf("P3: the digest of %d bytes (%.9q) = %s, want %s", len(c.text), c.text, d, c.want)
		}
	}
}

// TestLengths: each length up to beyond the fourth multiple of 64, and those about some later ones.
func TestLengths(t *testing.T) {
	random := rand.New(rand.NewSource(1))
	bytes := make([]byte, 1<<16+9)
	random.Read(bytes)
	check := func(length int) {
		want := sha256.Sum256(bytes[:length])
		if d := Of(string(bytes[:length])); d != string(want[:]) {
			t.Errorf("P3: the digest of %d bytes = %x, want %x", length, d, want)
		}
	}
	for length := range 300 {
		check(length)
	}
	for _, multiple := range []int{1 << 10, 1 << 12, 60032, 1 << 16} {
		for near := -9; near <= 9; near++ {
			check(multiple + near)
		}
	}
}
