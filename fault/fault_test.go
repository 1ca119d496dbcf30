package fault

import (
	"errors"
	"slices"
	"testing"

	"vault/api"
)

func TestAt(t *testing.T) {
	err := At(api.ErrRange, -3)
	var fault *api.Fault
	if !errors.As(err, &fault) || *fault != (api.Fault{Kind: api.ErrRange, Where: -3}) {
		t.Errorf("At(ErrRange, -3) = %#v", err)
	}
	if !errors.Is(err, api.ErrRange) || errors.Is(err, api.ErrBig) {
		t.Errorf("At(ErrRange, -3) is of the wrong kind")
	}
}

func TestOver(t *testing.T) {
	inner := At(api.ErrName, 0)
	err := Over(api.ErrState, 5, inner)
	var fault *api.Fault
	if !errors.As(err, &fault) || *fault != (api.Fault{Kind: api.ErrState, Where: 5, Inner: inner}) {
		t.Errorf("Over(ErrState, 5, ErrName at 0) = %#v", err)
	}
	if !errors.Is(err, api.ErrState) || !errors.Is(err, api.ErrName) || errors.Is(err, api.ErrBig) {
		t.Errorf("Over(ErrState, 5, ErrName at 0) is of the wrong kinds")
	}
}

func TestLost(t *testing.T) {
	err := Lost(7, []string{"a", "b"})
	var fault *api.Fault
	var missing *api.Missing
	if !errors.As(err, &fault) || fault.Kind != api.ErrLost || fault.Where != 7 || !errors.Is(err, api.ErrLost) || errors.Is(err, api.ErrBig) {
		t.Errorf("Lost(7, a b) = %#v", err)
	}
	if !errors.As(err, &missing) || !slices.Equal(missing.Names, []string{"a", "b"}) {
		t.Errorf("Lost(7, a b) has the names %v", missing)
	}
}

// TestNames: P17, and P2: the names that come out are new each time.
func TestNames(t *testing.T) {
	lost := Lost(2, []string{"a", "b"})
	for _, c := range []struct {
		err  error
		want []string
	}{
		{nil, nil}, {At(api.ErrLost, 2), nil}, {Over(api.ErrState, 2, At(api.ErrLost, 2)), nil}, {lost, []string{"a", "b"}}, {Over(api.ErrState, 1, lost), []string{"a", "b"}},
	} {
		first, second := Names(c.err), Names(c.err)
		if !slices.Equal(first, c.want) {
			t.Errorf("P17: Names(%v) = %q, want %q", c.err, first, c.want)
		}
		clear(first[:cap(first)])
		if !slices.Equal(second, c.want) || !slices.Equal(Names(c.err), c.want) {
			t.Errorf("P2: Names(%v): writing into one answer changed another", c.err)
		}
	}
}

// TestMarks: P17, also for the errors over others that later calls answer.
func TestMarks(t *testing.T) {
	code := &api.Fault{Kind: api.ErrCode, Where: 0}
	header := &api.Fault{Kind: api.ErrHeader, Where: 7, Inner: code}
	missing := &api.Missing{Names: []string{"a"}}
	for _, c := range []struct {
		err  error
		want []api.Mark
	}{
		{nil, nil},
		{code, []api.Mark{{Kind: api.ErrCode, Where: 0}}},
		{header, []api.Mark{{Kind: api.ErrHeader, Where: 7}, {Kind: api.ErrCode, Where: 0}}},
		{&api.Fault{Kind: api.ErrEmpty, Where: 1, Inner: header}, []api.Mark{{Kind: api.ErrEmpty, Where: 1}, {Kind: api.ErrHeader, Where: 7}, {Kind: api.ErrCode, Where: 0}}},
		{&api.Fault{Kind: api.ErrLost, Where: 1, Inner: missing}, []api.Mark{{Kind: api.ErrLost, Where: 1}}},
		{&api.Fault{Kind: api.ErrState, Where: 0, Inner: &api.Fault{Kind: api.ErrState, Where: 0}}, []api.Mark{{Kind: api.ErrState, Where: 0}, {Kind: api.ErrState, Where: 0}}},
	} {
		if marks := Marks(c.err); !slices.Equal(marks, c.want) {
			t.Errorf("P17: Marks(%v) = %v, want %v", c.err, marks, c.want)
		}
	}
}
