package varint

import (
	"encoding/binary"
	"math"
	"testing"
)

func TestOf(t *testing.T) {
	for _, c := range []struct {
		number uint32
		want   string
	}{
		{0, "\x00"},
		{1, "\x01"},
		{127, "\x7f"},
		{128, "\x80\x01"},
		{200, "\xc8\x01"},
		{255, "\xff\x01"},
		{256, "\x80\x02"},
		{4096, "\x80\x20"},
		{16383, "\xff\x7f"},
		{16384, "\x80\x80\x01"},
		{math.MaxUint32, "\xff\xff\xff\xff\x0f"},
	} {
		if told := Of(c.number); told != c.want {
			t.Errorf("Of(%d) = %x, want %x", c.number, told, c.want)
		}
	}
}

// TestOfAll: against the library's own, which tests may ask.
func TestOfAll(t *testing.T) {
	for bit := range 32 {
		for _, number := range []uint32{1<<bit - 1, 1 << bit, 1<<bit + 1, math.MaxUint32 - 1<<bit} {
			if told, want := Of(number), string(binary.AppendUvarint(nil, uint64(number))); told != want {
				t.Errorf("Of(%d) = %x, want %x", number, told, want)
			}
		}
	}
}

// TestRead: what Of wrote is read, of strings and of bytes, whatever follows; and of less than all of it nothing.
func TestRead(t *testing.T) {
	for bit := range 32 {
		for _, number := range []uint32{1<<bit - 1, 1 << bit, 1<<bit + 1, math.MaxUint32 - 1<<bit} {
			told := Of(number)
			for _, more := range []string{"", "\x00", "\x80", "\xff\xff\xff\xff\xff\xff"} {
				checkRead(t, told+more, number, len(told))
			}
			for length := range told {
				checkRead(t, told[:length], 0, 0)
			}
		}
	}
}

// TestReadNone: no number below 2 to the 32, or not in its shortest form.
func TestReadNone(t *testing.T) {
	for _, text := range []string{
		"", "\x80", "\xff\xff\xff\xff", "\xff\xff\xff\xff\xff",
		"\x80\x00", "\x81\x00", "\xff\x00", "\x80\x80\x00", "\xff\xff\x00", "\x80\x80\x80\x80\x00", "\xff\xff\xff\xff\x00",
		"\x80\x80\x80\x80\x10", "\x81\x80\x80\x80\x10", "\xff\xff\xff\xff\x10", "\x80\x80\x80\x80\x40", "\xff\xff\xff\xff\x7f",
		"\x80\x80\x80\x80\x80\x00", "\x81\x80\x80\x80\x80\x00", "\x80\x80\x80\x80\x80\x01", "\xff\xff\xff\xff\xff\xff\xff\xff\xff\x01", "\x80\x80\x80\x80\x80\x80\x80\x80\x80\x80\x01",
	} {
		checkRead(t, text, 0, 0)
	}
}

func checkRead(t *testing.T, text string, number uint32, length int) {
	t.Helper()
	if n, l := Read(text); n != number || l != length {
		t.Errorf("Read(%x) = %d, %d, want %d, %d", text, n, l, number, length)
	}
	if n, l := Read([]byte(text)); n != number || l != length {
		t.Errorf("Read(bytes %x) = %d, %d, want %d, %d", text, n, l, number, length)
	}
}
