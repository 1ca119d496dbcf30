package vault_test

import (
	"fmt"
	"math"
	"math/rand"
	"slices"
	"strings"
	"testing"
	"unsafe"

	"vault/api"
	"vault/vault"
)

// product, quotient: by the section Words, and by trying all numbers.
func product(a, b int) int {
	p := 0
	for ; b > 0; b >>= 1 {
		if b&1 == 1 {
			p ^= a
		}
		if a <<= 1; a > 255 {
			a ^= 285
		}
	}
	return p
}

func quotient(a, b int) int {
	for q := range 256 {
		if product(q, b) == a {
			return q
		}
	}
	panic("a division by zero in the test")
}

// valueAt: the value at x of the polynomial that has these values at the points.
func valueAt(points, values []int, x int) int {
	sum := 0
	for i := range points {
		above, below := values[i], 1
		for j := range points {
			if j != i {
				above, below = product(above, x^points[j]), product(below, points[i]^points[j])
			}
		}
		sum ^= quotient(above, below)
	}
	return sum
}

// blockAt: the same for blocks.
func blockAt(points []int, blocks []string, x int) string {
	out := make([]byte, len(blocks[0]))
	for at := range out {
		values := make([]int, len(points))
		for i := range points {
			values[i] = int(blocks[i][at])
		}
		out[at] = byte(valueAt(points, values, x))
	}
	return string(out)
}

func randomBlocks(random *rand.Rand, count, length int) []string {
	list := make([]string, count)
	for i := range list {
		block := make([]byte, length)
		random.Read(block)
		list[i] = string(block)
	}
	return list
}

func upTo(n int) []int {
	list := make([]int, n)
	for i := range list {
		list[i] = i
	}
	return list
}

func parity(t *testing.T, k, m int, data []string) []string {
	t.Helper()
	list, err := vault.Parity(k, m, data)
	if err != nil || len(list) != m {
		t.Fatalf("P4: Parity(%d, %d, ..) = %d blocks, %v", k, m, len(list), err)
	}
	return list
}

func TestParityExamples(t *testing.T) {
	for _, c := range []struct {
		k, m       int
		data, want []string
	}{
		{2, 1, []string{"\x01", "\x03"}, []string{"\x05"}},
		{1, 2, []string{"\xab"}, []string{"\xab", "\xab"}},
		{2, 1, []string{"", ""}, []string{""}},
		{3, 0, []string{"a", "b", "c"}, nil},
		{2, 1, []string{"\x01\x00\x07", "\x03\x00\x07"}, []string{"\x05\x00\x07"}},
	} {
		list, err := vault.Parity(c.k, c.m, c.data)
		if err != nil || !slices.Equal(list, c.want) {
			t.Errorf("P4: Parity(%d, %d, %q) = %q, %v, want %q", c.k, c.m, c.data, list, err, c.want)
		}
	}
}

// TestParityValues: P4 against the section's words, up to the edges of k and m.
func TestParityValues(t *testing.T) {
	random := rand.New(rand.NewSource(3))
	for _, c := range []struct{ k, m, length int }{
		{1, 0, 3}, {1, 1, 3}, {1, 254, 2}, {2, 253, 2}, {3, 4, 9}, {10, 6, 5}, {16, 16, 3}, {128, 127, 1}, {254, 0, 2}, {254, 1, 2}, {255, 0, 2}, {5, 3, 0}, {4, 2, 300},
	} {
		data := randomBlocks(random, c.k, c.length)
		for j, block := range parity(t, c.k, c.m, data) {
			if j > 9 && j < c.m-9 {
				continue // the slow way through all of them takes too long
			}
			if want := blockAt(upTo(c.k), data, c.k+j); block != want {
				t.Errorf("P4: Parity(%d, %d, ..): block %d = %q, want %q", c.k, c.m, j, block, want)
			}
		}
	}
}

func TestParityRefuses(t *testing.T) {
	for _, c := range []struct {
		k, m int
		data []string
		want api.Mark
	}{
		{0, 0, nil, api.Mark{Kind: api.ErrParams, Where: 0}},
		{-1, -1, nil, api.Mark{Kind: api.ErrParams, Where: 0}},
		{256, 0, make([]string, 256), api.Mark{Kind: api.ErrParams, Where: 0}},
		{256, -1, nil, api.Mark{Kind: api.ErrParams, Where: 0}},
		{math.MinInt, 5, nil, api.Mark{Kind: api.ErrParams, Where: 0}},
		{math.MaxInt, math.MaxInt, nil, api.Mark{Kind: api.ErrParams, Where: 0}},
		{1, -1, []string{"a"}, api.Mark{Kind: api.ErrParams, Where: 1}},
		{1, 255, []string{"a"}, api.Mark{Kind: api.ErrParams, Where: 1}},
		{255, 1, []string{"a"}, api.Mark{Kind: api.ErrParams, Where: 1}},
		{100, 156, nil, api.Mark{Kind: api.ErrParams, Where: 1}},
		{1, math.MaxInt, nil, api.Mark{Kind: api.ErrParams, Where: 1}},
		{255, math.MinInt, nil, api.Mark{Kind: api.ErrParams, Where: 1}},
		{1, 0, nil, api.Mark{Kind: api.ErrRange, Where: 0}},
		{1, 254, []string{"a", "bb"}, api.Mark{Kind: api.ErrRange, Where: 2}},
		{3, 1, []string{"a", "bb"}, api.Mark{Kind: api.ErrRange, Where: 2}},
		{2, 0, []string{"a", "bb"}, api.Mark{Kind: api.ErrBig, Where: 1}},
		{4, 1, []string{"aa", "bb", "c", "ddd"}, api.Mark{Kind: api.ErrBig, Where: 2}},
		{3, 1, []string{"", "", "a"}, api.Mark{Kind: api.ErrBig, Where: 2}},
		{3, 1, []string{"a", "", ""}, api.Mark{Kind: api.ErrBig, Where: 1}},
	} {
		call := fmt.Sprintf("P4: Parity(%d, %d, %d blocks)", c.k, c.m, len(c.data))
		list, err := vault.Parity(c.k, c.m, c.data)
		checkFaults(t, call, err, c.want)
		if list != nil {
			t.Errorf("%s: refused, and yet %q", call, list)
		}
	}
}

func TestRestoreExamples(t *testing.T) {
	for _, c := range []struct {
		k, m   int
		blocks []string
		has    []bool
		want   []string
	}{
		{2, 1, []string{"", "\x03", "\x05"}, []bool{false, true, true}, []string{"\x01", "\x03", "\x05"}},
		{2, 1, []string{"\x01", "another length", "\x05"}, []bool{true, false, true}, []string{"\x01", "\x03", "\x05"}},
		{2, 1, []string{"\x01", "\x03", "\x99"}, []bool{true, true, true}, []string{"\x01", "\x03", "\x05"}},
		{2, 2, []string{"?", "\x03", "\x05", "\x99"}, []bool{false, true, true, true}, []string{"\x01", "\x03", "\x05", "\x07"}},
		{2, 2, []string{"", "", "", ""}, []bool{false, true, false, true}, []string{"", "", "", ""}},
		{1, 0, []string{"x"}, []bool{true}, []string{"x"}},
		{1, 2, []string{"", "", "xy"}, []bool{false, false, true}, []string{"xy", "xy", "xy"}},
	} {
		list, err := vault.Restore(c.k, c.m, c.blocks, c.has)
		if err != nil || !slices.Equal(list, c.want) {
			t.Errorf("P5: Restore(%d, %d, %q, %v) = %q, %v, want %q", c.k, c.m, c.blocks, c.has, list, err, c.want)
		}
	}
}

// TestRestoreSubsets: of each choice of at least k blocks all of them come back.
func TestRestoreSubsets(t *testing.T) {
	random := rand.New(rand.NewSource(4))
	for k := 1; k <= 5; k++ {
		for m := range 5 {
			data := randomBlocks(random, k, 3)
			all := append(slices.Clone(data), parity(t, k, m, data)...)
			for choice := range 1 << (k + m) {
				blocks, has, count := slices.Clone(all), make([]bool, k+m), 0
				for i := range all {
					if has[i] = choice>>i&1 == 1; has[i] {
						count++
					} else {
						blocks[i] = "lost"
					}
				}
				list, err := vault.Restore(k, m, blocks, has)
				if count < k {
					checkFaults(t, fmt.Sprintf("P5: Restore(%d, %d, .., %v)", k, m, has), err, api.Mark{Kind: api.ErrLost, Where: count})
					if list != nil {
						t.Fatalf("P5: refused, and yet %q", list)
					}
				} else if err != nil || !slices.Equal(list, all) {
					t.Fatalf("P5: Restore(%d, %d, %q, %v) = %q, %v, want %q", k, m, blocks, has, list, err, all)
				}
			}
		}
	}
}

// TestRestoreAny: blocks that lie on no polynomial: only the first k that has are asked, wherever they are.
func TestRestoreAny(t *testing.T) {
	random := rand.New(rand.NewSource(5))
	for range 60 {
		k, m := 1+random.Intn(6), random.Intn(6)
		blocks, has := randomBlocks(random, k+m, 2), make([]bool, k+m)
		for _, i := range random.Perm(k + m)[:k+random.Intn(m+1)] {
			has[i] = true
		}
		var points []int
		var known []string
		for i := range blocks {
			if has[i] && len(points) < k {
				points, known = append(points, i), append(known, blocks[i])
			}
		}
		list, err := vault.Restore(k, m, blocks, has)
		if err != nil || len(list) != k+m {
			t.Fatalf("P5: Restore(%d, %d, %q, %v) = %q, %v", k, m, blocks, has, list, err)
		}
		for i, block := range list {
			if want := blockAt(points, known, i); block != want {
				t.Fatalf("P5: Restore(%d, %d, %q, %v): block %d = %q, want %q", k, m, blocks, has, i, block, want)
			}
		}
	}
}

// TestRestoreEdges: the greatest and least k and m, with just k blocks that has: the last ones, and some.
func TestRestoreEdges(t *testing.T) {
	random := rand.New(rand.NewSource(6))
	for _, c := range []struct{ k, m, length int }{
		{1, 0, 3}, {1, 254, 3}, {2, 253, 3}, {128, 127, 3}, {127, 128, 64}, {254, 1, 3}, {255, 0, 3}, {100, 155, 0},
	} {
		data := randomBlocks(random, c.k, c.length)
		all := append(slices.Clone(data), parity(t, c.k, c.m, data)...)
		last := upTo(c.k + c.m)[c.m:]
		for _, kept := range [][]int{last, random.Perm(c.k + c.m)[:c.k]} {
			blocks, has := make([]string, c.k+c.m), make([]bool, c.k+c.m)
			for _, i := range kept {
				blocks[i], has[i] = all[i], true
			}
			list, err := vault.Restore(c.k, c.m, blocks, has)
			if err != nil || !slices.Equal(list, all) {
				t.Errorf("P5: Restore(%d, %d, ..) of %v: not the blocks that were there, %v", c.k, c.m, kept, err)
			}
		}
	}
}

func TestRestoreRefuses(t *testing.T) {
	yes, no := []bool{true, true, true}, []bool{false, false, false}
	for _, c := range []struct {
		k, m   int
		blocks []string
		has    []bool
		want   api.Mark
	}{
		{0, 3, make([]string, 3), yes, api.Mark{Kind: api.ErrParams, Where: 0}},
		{256, -1, nil, nil, api.Mark{Kind: api.ErrParams, Where: 0}},
		{math.MinInt, math.MinInt, nil, nil, api.Mark{Kind: api.ErrParams, Where: 0}},
		{4, -1, make([]string, 3), yes, api.Mark{Kind: api.ErrParams, Where: 1}},
		{1, 255, nil, nil, api.Mark{Kind: api.ErrParams, Where: 1}},
		{255, math.MaxInt, nil, nil, api.Mark{Kind: api.ErrParams, Where: 1}},
		{2, 1, nil, nil, api.Mark{Kind: api.ErrRange, Where: 0}},
		{2, 1, []string{"a", "b"}, yes, api.Mark{Kind: api.ErrRange, Where: 2}},
		{2, 1, []string{"a", "b", "c", "d"}, []bool{true}, api.Mark{Kind: api.ErrRange, Where: 4}},
		{2, 1, []string{"a", "bb", "c"}, nil, api.Mark{Kind: api.ErrRange, Where: 0}},
		{2, 1, []string{"a", "bb", "c"}, []bool{true, true, true, true}, api.Mark{Kind: api.ErrRange, Where: 4}},
		{2, 1, []string{"a", "bb", "c"}, yes, api.Mark{Kind: api.ErrBig, Where: 1}},
		{2, 1, []string{"a", "b", ""}, yes, api.Mark{Kind: api.ErrBig, Where: 2}},
		{2, 1, []string{"aaa", "b", "cc"}, []bool{false, true, true}, api.Mark{Kind: api.ErrBig, Where: 2}},
		{3, 0, []string{"a", "?", "cc"}, []bool{true, false, true}, api.Mark{Kind: api.ErrBig, Where: 2}},
		{3, 0, []string{"a", "b", "?"}, []bool{true, true, false}, api.Mark{Kind: api.ErrLost, Where: 2}},
		{2, 1, []string{"a", "bb", "ccc"}, []bool{false, false, true}, api.Mark{Kind: api.ErrLost, Where: 1}},
		{1, 2, []string{"a", "bb", "ccc"}, no, api.Mark{Kind: api.ErrLost, Where: 0}},
	} {
		call := fmt.Sprintf("P5: Restore(%d, %d, %q, %v)", c.k, c.m, c.blocks, c.has)
		list, err := vault.Restore(c.k, c.m, c.blocks, c.has)
		checkFaults(t, call, err, c.want)
		if list != nil {
			t.Errorf("%s: refused, and yet %q", call, list)
		}
	}
}

// TestAllNumbers: P1: no panic, and an answer or an error, whatever numbers and lists meet.
func TestAllNumbers(t *testing.T) {
	edges := []int{math.MinInt, math.MinInt + 1, -256, -1, 0, 1, 2, 127, 128, 254, 255, 256, math.MaxInt - 1, math.MaxInt}
	lengths := []int{0, 1, 2, 3, 127, 255, 256, 257}
	for _, k := range edges {
		for _, m := range edges {
			for _, n := range lengths {
				list, err := vault.Parity(k, m, make([]string, n))
				if (list == nil) != (err != nil) {
					t.Errorf("P1: Parity(%d, %d, %d blocks) = %d blocks, %v", k, m, n, len(list), err)
				}
				for _, flags := range lengths {
					list, err = vault.Restore(k, m, make([]string, n), slices.Repeat([]bool{true}, flags))
					if (list == nil) != (err != nil) {
						t.Errorf("P1: Restore(%d, %d, %d blocks, %d flags) = %d blocks, %v", k, m, n, flags, len(list), err)
					}
				}
			}
		}
	}
}

// behind: a list with something of its owner's in its spare room.
func behind[T any](list []T, more T) []T {
	return append(slices.Clone(list), more, more, more)[:len(list)]
}

// TestHandedIn: P2: neither the lists that are handed in are written into, nor what lies behind them.
func TestHandedIn(t *testing.T) {
	data := behind([]string{"ab", "cd", "ef"}, "mine")
	blocks := behind([]string{"?", "cd", "ef", "?", "gh"}, "mine")
	has := behind([]bool{false, true, true, false, true}, true)
	whole := [][]string{slices.Clone(data[:6]), slices.Clone(blocks[:8])}
	flags := slices.Clone(has[:8])
	made := parity(t, 3, 2, data)
	all, err := vault.Restore(3, 2, blocks, has)
	if err != nil {
		t.Fatal(err)
	}
	for range 2 {
		if !slices.Equal(data[:6], whole[0]) || !slices.Equal(blocks[:8], whole[1]) || !slices.Equal(has[:8], flags) {
			t.Fatalf("P2: what was handed in is now %q, %q, %v", data[:6], blocks[:8], has[:8])
		}
		// Once more, with all that came out overwritten: it shares no room with what went in.
		clear(made[:cap(made)])
		clear(all[:cap(all)])
	}
}

// TestComesOut: P2: the owner may change a list later, and no two answers share room.
func TestComesOut(t *testing.T) {
	data := []string{"\x01", "\x03"}
	first, second := parity(t, 2, 1, data), parity(t, 2, 1, data)
	clear(first[:cap(first)])
	clear(data)
	if second[0] != "\x05" {
		t.Errorf("P2: a block of parity became %q", second[0])
	}
	blocks, has := []string{"\x01", "\x03"}, []bool{true, true}
	one, err := vault.Restore(2, 0, blocks, has)
	if err != nil {
		t.Fatal(err)
	}
	two, _ := vault.Restore(2, 0, blocks, has)
	clear(one[:cap(one)])
	clear(blocks)
	clear(has)
	if !slices.Equal(two, []string{"\x01", "\x03"}) {
		t.Errorf("P2: the blocks became %q", two)
	}
}

// TestTextsAreNew: not even the bytes of a text that comes out are those of one that went in.
func TestTextsAreNew(t *testing.T) {
	blocks := []string{strings.Repeat("a", 99), strings.Repeat("b", 99), "?"}
	list, err := vault.Restore(2, 1, blocks, []bool{true, true, false})
	if err != nil {
		t.Fatal(err)
	}
	for i := range 2 {
		if unsafe.StringData(list[i]) == unsafe.StringData(blocks[i]) {
			t.Errorf("block %d is the very text that was handed in", i)
		}
	}
}
