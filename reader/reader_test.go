package reader

import "testing"

type named string

type bytes []byte

// TestEach: the same of strings and of bytes, and of types that are made of them.
func TestEach(t *testing.T) {
	text := "word\x05three\xff\x01rest"
	testFields(t, New(text))
	testFields(t, New([]byte(text)))
	testFields(t, New(named(text)))
	testFields(t, New(bytes(text)))
}

func testFields[T Text](t *testing.T, r *Reader[T]) {
	r.Word("word")
	checkAt(t, r, 4)
	if n := r.Number(5, 5); n != 5 {
		t.Errorf("a number: %d", n)
	}
	checkAt(t, r, 5)
	if s := r.Bytes(5); s != "three" {
		t.Errorf("some bytes: %q", s)
	}
	checkAt(t, r, 10)
	if s := r.Bytes(0); s != "" {
		t.Errorf("no bytes: %q", s)
	}
	if n := r.Number(0, 255); n != 255 {
		t.Errorf("a number of two bytes: %d", n)
	}
	if s := r.Since(4); s != "\x05three\xff\x01" {
		t.Errorf("what was read: %q", s)
	}
	if s := r.Rest(); s != "rest" {
		t.Errorf("the rest: %q", s)
	}
	checkAt(t, r, 16)
	if s := r.Rest(); s != "" {
		t.Errorf("the rest behind the rest: %q", s)
	}
	checkAt(t, r, 16)
}

func checkAt[T Text](t *testing.T, r *Reader[T], place int) {
	t.Helper()
	if _, wrong := r.Wrong(); wrong || r.Place() != place {
		t.Errorf("at %d (wrong: %v), want %d", r.Place(), wrong, place)
	}
}

// TestWrong: a wrong field is told by its place, and nothing is read from there on, nor told of anything behind it.
func TestWrong(t *testing.T) {
	for _, c := range []struct {
		what  string
		field func(r *Reader[string])
	}{
		{"another word", func(r *Reader[string]) { r.Word("thrice") }},
		{"a word too long", func(r *Reader[string]) { r.Word("three, and more") }},
		{"bytes too many", func(r *Reader[string]) { r.Bytes(12) }},
		{"a number too small", func(r *Reader[string]) { r.Number('t'+1, 200) }},
		{"a number too great", func(r *Reader[string]) { r.Number(0, 't'-1) }},
		{"bytes that are refused", func(r *Reader[string]) { r.Bytes(3); r.Refuse() }},
		{"bytes that are refused twice", func(r *Reader[string]) { r.Bytes(3); r.Refuse(); r.Refuse() }},
		{"a number that is refused", func(r *Reader[string]) { r.Number(0, 255); r.Refuse() }},
		{"no bytes that are refused", func(r *Reader[string]) { r.Bytes(0); r.Refuse() }},
	} {
		r := New("word\x05three\x04rest")
		r.Word("word")
		r.Number(0, 9)
		c.field(r)
		checkStopped(t, c.what, r, 5)
	}
	r := New("\x80\x00")
	if n := r.Number(0, 9); n != 0 {
		t.Errorf("no varint: %d", n)
	}
	checkStopped(t, "no varint", r, 0)
}

func checkStopped(t *testing.T, what string, r *Reader[string], place int) {
	t.Helper()
	next := r.Place()
	for range 2 {
		if at, wrong := r.Wrong(); !wrong || at != place || r.Place() != next {
			t.Errorf("%s: wrong %v at %d, now at %d, want %d", what, wrong, at, r.Place(), place)
		}
		r.Word("three")
		if s := r.Bytes(1) + r.Bytes(99) + r.Rest(); s != "" {
			t.Errorf("%s: read %q behind it", what, s)
		}
		if n := r.Number(0, 255); n != 0 {
			t.Errorf("%s: read the number %d behind it", what, n)
		}
		r.Refuse()
	}
}

// TestCopies: what was read stays as it was.
func TestCopies(t *testing.T) {
	text := []byte("some bytes")
	r := New(text)
	some, all := r.Bytes(4), r.Since(0)
	clear(text)
	if some != "some" || all != "some" {
		t.Errorf("what was read became %q, %q", some, all)
	}
}
