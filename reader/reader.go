// Package reader reads a text field by field.
package reader

import (
	"strings"

	"vault/varint"
)

// Text is what can be read.
type Text interface{ ~string | ~[]byte }

// Reader reads the fields of a text in their order. Once one of them is wrong it goes no further: all that it gives from there on is nothing.
type Reader[T Text] struct {
	text  T
	field int // the place of the field that was read last
	next  int // the place behind it
	wrong bool
}

// New gives a Reader at the beginning of a text.
func New[T Text](text T) *Reader[T] {
	return &Reader[T]{text: text}
}

// Place gives the place of the first byte that was not read.
func (r *Reader[T]) Place() int { return r.next }

// Wrong gives the place of the wrong field, if there is one.
func (r *Reader[T]) Wrong() (place int, wrong bool) { return r.field, r.wrong }

// Refuse says that the field that was read last is wrong.
func (r *Reader[T]) Refuse() { r.wrong = true }

// Bytes reads a field of so many bytes.
func (r *Reader[T]) Bytes(count int) string {
	if !r.begin() {
		return ""
	}
	if count > len(r.text)-r.next {
		r.Refuse()
		return ""
	}
	r.next += count
	return r.Since(r.field)
}

// Word reads a field that has to be this word.
func (r *Reader[T]) Word(word string) {
	if r.Bytes(len(word)) != word {
		r.Refuse()
	}
}

// Number reads a field that has to be the varint of a number from least to greatest.
func (r *Reader[T]) Number(least int, greatest int) int {
	if !r.begin() {
		return 0
	}
	told, length := varint.Read(r.text[r.next:])
	number := int(told)
	if length == 0 || number < least || number > greatest {
		r.Refuse()
		return 0
	}
	r.next += length
	return number
}

// Rest reads all that is left, as one field.
func (r *Reader[T]) Rest() string {
	return r.Bytes(len(r.text) - r.next)
}

// Since gives the bytes that were read, from a place on.
func (r *Reader[T]) Since(place int) string {
	// A copy, since what is read of a text may be kept longer than the text.
	return strings.Clone(string(r.text[place:r.next]))
}

// begin begins a field, unless one was wrong.
func (r *Reader[T]) begin() bool {
	if !r.wrong {
		r.field = r.next
	}
	return !r.wrong
}
