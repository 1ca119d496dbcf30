package varint

import (
	"encoding/binary"
	"math"
	"testing"
)

func TestOf(t *testing.T) {
	for _, c := range []struct {
		number uint32
		want   string
	}{
		{0, "\x00"},
		{1, "\x01"},
		{127, "\x7f"},
		{128, "\x80\x01"},
		{200, "\xc8\x01"},
		{255, "\xff\x01"},
		{256, "\x80\x02"},
		{4096, "\x80\x20"},
		{16383, "\xff\x7f"},
		{16384, "\x80\x80\x01"},
		{math.MaxUint32, "\xff\xff\xff\xff\x0f"},
	} {
		if told := Of(c.number); told != c.want {
			t.Errorf("Of(%d) = %x, want %x", c.number, told, c.want)
		}
	}
}

// TestOfAll: against the library's own, which tests may ask.
func TestOfAll(t *testing.T) {
	for bit := range 32 {
		for _, number := range []uint32{1<<bit - 1, 1 << bit, 1<<bit + 1, math.MaxUint32 - 1<<bit} {
			if told, want := Of(number), string(binary.AppendUvarint(nil, uint64(number))); told != want {
				t.Errorf("Of(%d) = %x, want %x", number, told, want)
			}
		}
	}
}
