package vault_test

import (
	"errors"
	"slices"
	"testing"

	"vault/api"
	"vault/vault"
)

func marks(list ...api.Mark) []api.Mark { return list }

func at(kind api.Kind, where int) api.Mark { return api.Mark{Kind: kind, Where: where} }

// checkFaults: the error is a Fault with the first of these marks over one with the next, and so on, the last over nothing; none is wanted if there are none.
func checkFaults(t *testing.T, call string, err error, want ...api.Mark) {
	t.Helper()
	if !slices.Equal(vault.Faults(err), want) {
		t.Errorf("%s: %v, want %v", call, err, want)
		return
	}
	for kind := api.ErrParams; kind <= api.ErrRange; kind++ {
		wanted := slices.ContainsFunc(want, func(mark api.Mark) bool { return mark.Kind == kind })
		if errors.Is(err, kind) != wanted {
			t.Errorf("%s: %v, asked for the kind %d", call, err, kind)
		}
	}
	for _, mark := range want {
		fault, ok := err.(*api.Fault)
		if !ok || fault.Kind != mark.Kind || fault.Where != mark.Where {
			t.Errorf("%s: %#v is no *api.Fault with %v", call, err, mark)
			return
		}
		err = fault.Inner
	}
	if err != nil {
		t.Errorf("%s: the last Fault wraps %#v", call, err)
	}
}

// TestFaults: P17.
func TestFaults(t *testing.T) {
	if marks := vault.Faults(nil); len(marks) != 0 {
		t.Errorf("P17: Faults(nil) = %v", marks)
	}
	inner := &api.Fault{Kind: api.ErrName, Where: 0}
	outer := &api.Fault{Kind: api.ErrUnfinished, Where: 3, Inner: inner}
	want := []api.Mark{{Kind: api.ErrUnfinished, Where: 3}, {Kind: api.ErrName, Where: 0}}
	if marks := vault.Faults(outer); !slices.Equal(marks, want) {
		t.Errorf("P17: Faults(%v) = %v, want %v", outer, marks, want)
	}
	lost := &api.Fault{Kind: api.ErrLost, Where: 2, Inner: &api.Missing{Names: []string{"a", "b"}}}
	if marks := vault.Faults(lost); !slices.Equal(marks, []api.Mark{{Kind: api.ErrLost, Where: 2}}) {
		t.Errorf("P17: Faults(%v) = %v, want the Fault alone", lost, marks)
	}
}

// TestFaultsIsNew: P2: what comes out is new each time, its spare room too.
func TestFaultsIsNew(t *testing.T) {
	_, err := vault.Parity(0, 0, nil)
	first, second := vault.Faults(err), vault.Faults(err)
	clear(first[:cap(first)])
	want := []api.Mark{{Kind: api.ErrParams, Where: 0}}
	if !slices.Equal(second, want) || !slices.Equal(vault.Faults(err), want) {
		t.Errorf("P2: writing into one answer changed another: %v, %v", second, vault.Faults(err))
	}
}
