package vault_test

import (
	"errors"
	"math"
	"strings"
	"testing"

	"vault/api"
	"vault/vault"
)

// TestNewWriter: P7: each param at its least and its greatest, and beyond.
func TestNewWriter(t *testing.T) {
	for _, p := range []api.Params{
		params(1, 0, 1, 1), params(255, 0, 1, 1), params(1, 254, 1, 1), params(2, 253, 1, 1), params(254, 1, 1, 1), params(128, 127, 1, 1),
		params(1, 0, 64, 1), params(1, 0, 1, 16), params(255, 0, 64, 16), params(1, 254, 64, 16),
	} {
		newWriter(t, p)
	}
	for _, c := range []struct {
		p     api.Params
		where int
	}{
		{params(0, 0, 1, 1), 0}, {params(256, 0, 1, 1), 0}, {params(-1, 0, 1, 1), 0}, {params(0, 0, 0, 0), 0}, {params(256, -1, 65, 17), 0},
		{params(math.MinInt, math.MinInt, math.MinInt, math.MinInt), 0}, {params(math.MaxInt, math.MaxInt, math.MaxInt, math.MaxInt), 0},
		{params(1, -1, 1, 1), 1}, {params(1, 255, 1, 1), 1}, {params(255, 1, 1, 1), 1}, {params(128, 128, 1, 1), 1}, {params(2, 254, 0, 0), 1},
		{params(1, math.MinInt, 1, 1), 1}, {params(255, math.MaxInt, math.MaxInt, math.MaxInt), 1},
		{params(1, 0, 0, 1), 2}, {params(1, 0, -1, 1), 2}, {params(1, 0, 65, 1), 2}, {params(255, 0, 65, 0), 2}, {params(1, 254, math.MinInt, 17), 2}, {params(1, 0, math.MaxInt, 1), 2},
		{params(1, 0, 1, 0), 3}, {params(1, 0, 1, -1), 3}, {params(1, 0, 64, 17), 3}, {params(1, 0, 1, math.MinInt), 3}, {params(1, 254, 1, math.MaxInt), 3},
	} {
		writer, err := vault.NewWriter(c.p)
		checkFaults(t, "P7: NewWriter", err, api.Mark{Kind: api.ErrParams, Where: c.where})
		if writer != nil {
			t.Errorf("P7: NewWriter(%+v): refused, and yet a Writer", c.p)
		}
	}
}

// step: a call on a Writer, and what it answers: marks, the outermost first, or none.
type step struct {
	call string // Begin, Write or Close
	text string
	want []api.Mark
}

// take: the steps, one after the other.
func take(t *testing.T, what string, writer *vault.Writer, steps []step) {
	t.Helper()
	for i, s := range steps {
		var err error
		switch s.call {
		case "Begin":
			err = writer.Begin(s.text)
		case "Write":
			var n int
			n, err = writer.Write(s.text)
			if err != nil && n != 0 || err == nil && n != len(s.text) {
				t.Errorf("P9: %s, step %d: Write(%d bytes) = %d, %v", what, i, len(s.text), n, err)
			}
		case "Close":
			var volumes []string
			var root string
			volumes, root, err = writer.Close()
			if err != nil && (volumes != nil || root != "") || err == nil && len(volumes) == 0 {
				t.Errorf("P10: %s, step %d: Close() = %x, %x, %v", what, i, volumes, root, err)
			}
		}
		checkFaults(t, what+", step "+s.call, err, s.want...)
	}
}

// allBegun: the steps that begin MaxObjects objects, x00 the first of them.
func allBegun(more ...step) []step {
	var steps []step
	for i := range api.MaxObjects {
		steps = append(steps, step{"Begin", "x" + strings.Repeat("0", 2+i), nil})
	}
	return append(steps, more...)
}

// TestRefuses: P8 to P10: what a Writer that is whole refuses, at the edges too.
func TestRefuses(t *testing.T) {
	long, data := strings.Repeat("n", api.MaxName+1), strings.Repeat("d", api.MaxTotal+1)
	for _, c := range []struct {
		what  string
		steps []step
	}{
		{"an empty name", []step{{"Begin", "", marks(at(api.ErrName, 0))}}},
		{"an empty name behind others", []step{{"Begin", "a", nil}, {"Begin", "b", nil}, {"Begin", "", marks(at(api.ErrName, 2))}}},
		{"a name too long", []step{{"Begin", long, marks(at(api.ErrName, 0))}}},
		{"a name that is just not too long", []step{{"Begin", long[1:], nil}, {"Begin", long, marks(at(api.ErrName, 1))}}},
		{"a name much too long", []step{{"Begin", strings.Repeat(long, 100), marks(at(api.ErrName, 0))}}},
		{"a name twice", []step{{"Begin", "a", nil}, {"Begin", "a", marks(at(api.ErrDuplicate, 0))}}},
		{"a name twice, with others", []step{{"Begin", "c", nil}, {"Begin", "b", nil}, {"Write", "x", nil}, {"Begin", "a", nil}, {"Begin", "b", marks(at(api.ErrDuplicate, 1))}}},
		{"the last name twice", []step{{"Begin", "c", nil}, {"Begin", "b", nil}, {"Begin", "a", nil}, {"Begin", "a", marks(at(api.ErrDuplicate, 2))}}},
		{"an object too many", allBegun(step{"Begin", "y", marks(at(api.ErrBig, api.MaxObjects))})},
		{"an object too many, and its name twice", allBegun(step{"Begin", "x0000", marks(at(api.ErrDuplicate, 2))})},
		{"an object too many, and its name empty", allBegun(step{"Begin", "", marks(at(api.ErrName, api.MaxObjects))})},
		{"an object too many, and its name too long", allBegun(step{"Begin", long, marks(at(api.ErrName, api.MaxObjects))})},
		{"just as many objects as there may be", allBegun(step{"Write", "x", nil}, step{"Close", "", nil})},
		{"bytes too many", []step{{"Begin", "a", nil}, {"Write", data, marks(at(api.ErrBig, 0))}}},
		{"bytes far too many", []step{{"Begin", "a", nil}, {"Write", "xyz", nil}, {"Write", strings.Repeat(data, 100), marks(at(api.ErrBig, 3))}}},
		{"one byte too many", []step{{"Begin", "a", nil}, {"Write", data[1:], nil}, {"Write", "", nil}, {"Write", "x", marks(at(api.ErrBig, api.MaxTotal))}}},
		{"one byte too many in two Writes", []step{{"Begin", "a", nil}, {"Write", "xyz", nil}, {"Write", data[3:], marks(at(api.ErrBig, 3))}}},
		{"one byte too many in two objects", []step{{"Begin", "b", nil}, {"Write", data[2000:], nil}, {"Begin", "a", nil}, {"Write", data[:2000], marks(at(api.ErrBig, len(data)-2000))}}},
		{"just as many bytes as there may be", []step{{"Begin", "b", nil}, {"Write", data[2000:], nil}, {"Begin", "a", nil}, {"Write", data[:1999], nil}, {"Write", "", nil}, {"Begin", "c", nil}, {"Write", "", nil}, {"Close", "", nil}}},
		{"a Write ahead of any Begin", []step{{"Write", "x", marks(at(api.ErrState, -1))}}},
		{"an empty Write ahead of any Begin", []step{{"Write", "", marks(at(api.ErrState, -1))}}},
		{"too great a Write ahead of any Begin", []step{{"Write", data, marks(at(api.ErrState, -1))}}},
		{"a Write ahead of any Begin breaks nothing", []step{{"Write", data, marks(at(api.ErrState, -1))}, {"Write", "x", marks(at(api.ErrState, -1))}, {"Begin", "a", nil}, {"Write", data[1:], nil}, {"Close", "", nil}}},
	} {
		take(t, c.what, newWriter(t, params(4, 1, 64, 2)), c.steps)
	}
}

// TestBroken: P8 to P10: whatever broke a Writer, all calls answer over that, and go on to do so, were they wrong themselves.
func TestBroken(t *testing.T) {
	long, data := strings.Repeat("n", api.MaxName+1), strings.Repeat("d", api.MaxTotal+1)
	for _, c := range []struct {
		what  string
		steps []step
		first api.Mark
		n     int
	}{
		{"ErrName", []step{{"Begin", "", marks(at(api.ErrName, 0))}}, at(api.ErrName, 0), 0},
		{"ErrName behind objects", []step{{"Begin", "a", nil}, {"Write", "x", nil}, {"Begin", "b", nil}, {"Begin", long, marks(at(api.ErrName, 2))}}, at(api.ErrName, 2), 2},
		{"ErrDuplicate", []step{{"Begin", "b", nil}, {"Begin", "a", nil}, {"Begin", "c", nil}, {"Begin", "a", marks(at(api.ErrDuplicate, 1))}}, at(api.ErrDuplicate, 1), 3},
		{"ErrBig of Begin", allBegun(step{"Begin", "y", marks(at(api.ErrBig, 16))}), at(api.ErrBig, 16), 16},
		{"ErrBig of Write", []step{{"Begin", "a", nil}, {"Begin", "b", nil}, {"Write", "four", nil}, {"Write", data, marks(at(api.ErrBig, 4))}}, at(api.ErrBig, 4), 2},
		{"ErrName behind ErrState", []step{{"Write", "x", marks(at(api.ErrState, -1))}, {"Begin", "", marks(at(api.ErrName, 0))}}, at(api.ErrName, 0), 0},
	} {
		writer := newWriter(t, params(4, 1, 64, 2))
		state := marks(at(api.ErrState, c.n), c.first)
		take(t, c.what, writer, c.steps)
		for range 2 {
			take(t, c.what+", then", writer, []step{
				{"Begin", "new", state}, {"Write", "x", state}, {"Begin", "", state}, {"Begin", long, state}, {"Begin", "a", state}, {"Write", data, state}, {"Write", "", state},
			})
		}
		closed := marks(at(api.ErrState, c.n))
		take(t, c.what+", closed", writer, []step{
			{"Close", "", marks(at(api.ErrUnfinished, c.n), c.first)}, {"Close", "", closed}, {"Begin", "new", closed}, {"Begin", "", closed}, {"Write", "x", closed}, {"Write", data, closed}, {"Close", "", closed},
		})
	}
}

// TestClosed: P8 to P10: a Writer that was closed does nothing more, whatever Close answered.
func TestClosed(t *testing.T) {
	long, data := strings.Repeat("n", api.MaxName+1), strings.Repeat("d", api.MaxTotal+1)
	for _, c := range []struct {
		what  string
		p     api.Params
		steps []step
		n     int
	}{
		{"without an object", params(1, 0, 1, 1), []step{{"Close", "", nil}}, 0},
		{"with objects", params(1, 0, 1, 1), []step{{"Begin", "a", nil}, {"Write", "x", nil}, {"Begin", "b", nil}, {"Close", "", nil}}, 2},
		{"with all objects", params(1, 0, 1, 1), allBegun(step{"Close", "", nil}), 16},
		{"with too many blocks", params(1, 1, 1, 1), []step{{"Begin", "a", nil}, {"Write", data[:257], nil}, {"Close", "", marks(at(api.ErrBig, 514))}}, 1},
	} {
		writer := newWriter(t, c.p)
		take(t, c.what, writer, c.steps)
		closed := marks(at(api.ErrState, c.n))
		for range 2 {
			take(t, c.what+", closed", writer, []step{
				{"Begin", "new", closed}, {"Begin", "", closed}, {"Begin", long, closed}, {"Begin", "a", closed}, {"Write", "x", closed}, {"Write", "", closed}, {"Write", data, closed}, {"Close", "", closed},
			})
		}
	}
}

// TestTooManyBlocks: P10: blocks are counted with their parity, and by whole stripes.
func TestTooManyBlocks(t *testing.T) {
	for _, c := range []struct {
		p            api.Params
		length, want int // how many blocks; the answer is an error if they are too many
	}{
		{params(1, 0, 1, 1), 512, 512}, {params(1, 0, 1, 1), 513, 513}, {params(1, 0, 1, 1), 4096, 4096},
		{params(1, 1, 1, 1), 256, 512}, {params(1, 1, 1, 1), 257, 514},
		{params(1, 0, 8, 16), 4096, 512}, {params(1, 0, 7, 16), 3584, 512}, {params(1, 0, 7, 16), 3585, 513},
		{params(255, 0, 1, 1), 510, 510}, {params(255, 0, 1, 1), 511, 765},
		{params(1, 254, 64, 1), 128, 510}, {params(1, 254, 64, 1), 129, 765}, {params(1, 254, 1, 1), 4096, 4096 * 255},
		{params(5, 2, 3, 4), 15 * 73, 511}, {params(5, 2, 3, 4), 15*73 + 1, 518},
	} {
		steps := []step{{"Begin", "a", nil}, {"Write", strings.Repeat("x", c.length), nil}, {"Close", "", nil}}
		if c.want > api.MaxBlocks {
			steps[2].want = marks(at(api.ErrBig, c.want))
		}
		take(t, "P10: blocks", newWriter(t, c.p), steps)
	}
}

// TestFaultsAreNew: whoever is given an error may write into it: those that come later tell the same.
func TestFaultsAreNew(t *testing.T) {
	writer := newWriter(t, params(1, 0, 1, 1))
	first := at(api.ErrName, 0)
	spoil := func(err error) {
		var fault *api.Fault
		for errors.As(err, &fault) {
			err = fault.Inner
			*fault = api.Fault{Kind: api.ErrRange, Where: 99}
		}
	}
	spoil(writer.Begin(""))
	for range 2 {
		err := writer.Begin("x")
		checkFaults(t, "P8: Begin", err, at(api.ErrState, 0), first)
		spoil(err)
	}
	_, _, err := writer.Close()
	checkFaults(t, "P10: Close", err, at(api.ErrUnfinished, 0), first)
}
