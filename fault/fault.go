// Package fault makes the errors of the calls, and lists them.
package fault

import (
	"errors"

	"vault/api"
)

// At gives the error of a kind at a place, over nothing.
// It answers an error and no *api.Fault, so that nobody hands on a nil pointer as an error that is there.
func At(kind api.Kind, where int) error {
	return &api.Fault{Kind: kind, Where: where}
}

// Over gives the error of a kind at a place, which wraps another one.
func Over(kind api.Kind, where int, inner error) error {
	return &api.Fault{Kind: kind, Where: where, Inner: inner}
}

// Lost gives the error of what can't be had any more, at a place, which wraps the names of the objects.
func Lost(where int, names []string) error {
	return Over(api.ErrLost, where, &api.Missing{Names: names})
}

// Names lists the names of the objects that an error tells as lost.
func Names(err error) []string {
	names := []string{}
	var missing *api.Missing
	if errors.As(err, &missing) {
		names = append(names, missing.Names...)
	}
	return names
}

// Marks lists an error's Fault and those that it wraps, the outermost first.
func Marks(err error) []api.Mark {
	marks := []api.Mark{}
	var fault *api.Fault
	for errors.As(err, &fault) {
		marks = append(marks, api.Mark{Kind: fault.Kind, Where: fault.Where})
		err = fault.Inner
	}
	return marks
}
