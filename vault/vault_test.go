package vault_test

import (
	"errors"
	"slices"
	"testing"

	"vault/api"
	"vault/vault"
)

// checkFault: the error is that of a kind at a place, over nothing, by every way to ask.
func checkFault(t *testing.T, call string, err error, want api.Mark) {
	t.Helper()
	var fault *api.Fault
	if !errors.As(err, &fault) || *fault != (api.Fault{Kind: want.Kind, Where: want.Where}) {
		t.Errorf("%s: %v, want error %d at %d over nothing", call, err, want.Kind, want.Where)
		return
	}
	if direct, ok := err.(*api.Fault); !ok || direct != fault {
		t.Errorf("%s: the error is no *api.Fault itself: %#v", call, err)
	}
	for kind := api.ErrParams; kind <= api.ErrRange; kind++ {
		if errors.Is(err, kind) != (kind == want.Kind) {
			t.Errorf("%s: %v, asked for the kind %d", call, err, kind)
		}
	}
	if marks := vault.Faults(err); !slices.Equal(marks, []api.Mark{want}) {
		t.Errorf("P17: Faults(%v) = %v, want %v", err, marks, want)
	}
}

// TestFaults: P17.
func TestFaults(t *testing.T) {
	if marks := vault.Faults(nil); len(marks) != 0 {
		t.Errorf("P17: Faults(nil) = %v", marks)
	}
	inner := &api.Fault{Kind: api.ErrName, Where: 0}
	outer := &api.Fault{Kind: api.ErrUnfinished, Where: 3, Inner: inner}
	want := []api.Mark{{Kind: api.ErrUnfinished, Where: 3}, {Kind: api.ErrName, Where: 0}}
	if marks := vault.Faults(outer); !slices.Equal(marks, want) {
		t.Errorf("P17: Faults(%v) = %v, want %v", outer, marks, want)
	}
	lost := &api.Fault{Kind: api.ErrLost, Where: 2, Inner: &api.Missing{Names: []string{"a", "b"}}}
	if marks := vault.Faults(lost); !slices.Equal(marks, []api.Mark{{Kind: api.ErrLost, Where: 2}}) {
		t.Errorf("P17: Faults(%v) = %v, want the Fault alone", lost, marks)
	}
}

// TestFaultsIsNew: P2: what comes out is new each time, its spare room too.
func TestFaultsIsNew(t *testing.T) {
	_, err := vault.Parity(0, 0, nil)
	first, second := vault.Faults(err), vault.Faults(err)
	clear(first[:cap(first)])
	want := []api.Mark{{Kind: api.ErrParams, Where: 0}}
	if !slices.Equal(second, want) || !slices.Equal(vault.Faults(err), want) {
		t.Errorf("P2: writing into one answer changed another: %v, %v", second, vault.Faults(err))
	}
}
