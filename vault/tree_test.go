package vault_test

import (
	"crypto/sha256"
	"fmt"
	"math"
	"math/rand"
	"slices"
	"strings"
	"testing"
	"unsafe"

	"vault/api"
	"vault/vault"
)

func sha(text string) string {
	sum := sha256.Sum256([]byte(text))
	return string(sum[:])
}

func joined(left, right string) string { return sha("\x01" + left + right) }

// below: the greatest power of two below n, by trying.
func below(n int) int {
	power := 1
	for power < n-power {
		power *= 2
	}
	return power
}

// topOf, pathOf: by the section Words.
func topOf(leaves []string) string {
	if len(leaves) == 0 {
		return sha("")
	}
	if len(leaves) == 1 {
		return leaves[0]
	}
	p := below(len(leaves))
	return joined(topOf(leaves[:p]), topOf(leaves[p:]))
}

func pathOf(leaves []string, i int) []string {
	if len(leaves) == 1 {
		return []string{}
	}
	p := below(len(leaves))
	if i < p {
		return append(pathOf(leaves[:p], i), topOf(leaves[p:]))
	}
	return append(pathOf(leaves[p:], i-p), topOf(leaves[:p]))
}

// topBy: the top that comes of a path, and whether that has just as many entries as there are steps.
func topBy(n, i int, leaf string, path []string) (string, bool) {
	if n == 1 {
		return leaf, len(path) == 0
	}
	if len(path) == 0 {
		return "", false
	}
	p, last, rest := below(n), path[len(path)-1], path[:len(path)-1]
	if i < p {
		half, ok := topBy(p, i, leaf, rest)
		return joined(half, last), ok
	}
	half, ok := topBy(n-p, i-p, leaf, rest)
	return joined(last, half), ok
}

// anyLeaves: texts of any length, digests and the empty text among them.
func anyLeaves(random *rand.Rand, n int) []string {
	lengths := []int{0, 1, 31, 32, 32, 32, 33, 64, 500}
	list := make([]string, n)
	for i := range list {
		list[i] = randomBlocks(random, 1, lengths[random.Intn(len(lengths))])[0]
	}
	return list
}

func digests(random *rand.Rand, n int) []string { return randomBlocks(random, n, 32) }

// leafCounts: all small numbers, and those at and about a power of two.
func leafCounts() []int {
	list := upTo(40)
	for power := 64; power <= 1024; power *= 2 {
		list = append(list, power-1, power, power+1)
	}
	return append(list, 700)
}

func TestTopExamples(t *testing.T) {
	a, b, c := sha("a"), sha("b"), sha("c")
	for _, x := range []struct {
		leaves []string
		want   string
	}{
		{nil, sha("")},
		{[]string{}, sha("")},
		{[]string{a}, a},
		{[]string{""}, ""},
		{[]string{"any text"}, "any text"},
		{[]string{a, b}, joined(a, b)},
		{[]string{b, a}, joined(b, a)},
		{[]string{a, a}, joined(a, a)},
		{[]string{"", ""}, sha("\x01")},
		{[]string{a, b, c}, joined(joined(a, b), c)},
	} {
		if top := vault.Top(x.leaves); top != x.want {
			t.Errorf("P6: Top(%x) = %x, want %x", x.leaves, top, x.want)
		}
	}
}

func TestPathExamples(t *testing.T) {
	a, b, c := sha("a"), sha("b"), sha("c")
	for _, x := range []struct {
		leaves []string
		i      int
		want   []string
	}{
		{[]string{a}, 0, nil},
		{[]string{""}, 0, nil},
		{[]string{a, b}, 0, []string{b}},
		{[]string{a, b}, 1, []string{a}},
		{[]string{a, b, c}, 2, []string{joined(a, b)}},
		{[]string{a, b, c}, 1, []string{a, c}},
		{[]string{a, b, c}, 0, []string{b, c}},
	} {
		path, err := vault.Path(x.leaves, x.i)
		if err != nil || path == nil || !slices.Equal(path, x.want) {
			t.Errorf("P6: Path(%x, %d) = %x, %v, want %x", x.leaves, x.i, path, err, x.want)
		}
	}
}

// TestTree: Top, Path and Follows of every leaf, against the section's words.
func TestTree(t *testing.T) {
	random := rand.New(rand.NewSource(7))
	for _, n := range leafCounts() {
		for _, leaves := range [][]string{digests(random, n), anyLeaves(random, n)} {
			top := vault.Top(leaves)
			if want := topOf(leaves); top != want {
				t.Fatalf("P6: Top of %d leaves = %x, want %x", n, top, want)
			}
			for i := range leaves {
				if n > 70 && i > 3 && i < n-4 && random.Intn(20) > 0 {
					continue // the slow way through all of them takes too long
				}
				path, err := vault.Path(leaves, i)
				if want := pathOf(leaves, i); err != nil || !slices.Equal(path, want) {
					t.Fatalf("P6: Path(%d leaves, %d) = %x, %v, want %x", n, i, path, err, want)
				}
				if !vault.Follows(top, n, i, leaves[i], path) {
					t.Fatalf("P6: leaf %d among %d does not follow", i, n)
				}
			}
		}
	}
}

func TestPathRefuses(t *testing.T) {
	for _, n := range []int{0, 1, 2, 3, 4, 5, 64} {
		leaves := make([]string, n)
		for _, i := range []int{math.MinInt, math.MinInt + 1, -n - 1, -1, n, n + 1, 65, math.MaxInt - 1, math.MaxInt} {
			call := fmt.Sprintf("P6: Path(%d leaves, %d)", n, i)
			path, err := vault.Path(leaves, i)
			checkFaults(t, call, err, api.Mark{Kind: api.ErrRange, Where: i})
			if path != nil {
				t.Errorf("%s: refused, and yet %x", call, path)
			}
		}
	}
	path, err := vault.Path(nil, 0)
	checkFaults(t, "P6: Path(nil, 0)", err, api.Mark{Kind: api.ErrRange, Where: 0})
	if path != nil {
		t.Errorf("P6: Path(nil, 0): refused, and yet %x", path)
	}
}

// without: the list less the entry at a place.
func without(list []string, at int) []string {
	return slices.Delete(slices.Clone(list), at, at+1)
}

func with(list []string, at int, entry string) []string {
	return slices.Insert(slices.Clone(list), at, entry)
}

// wrongPaths: of a path those with an entry too many or too few, with another entry, and in another order.
func wrongPaths(path []string) [][]string {
	list := [][]string{append(slices.Clone(path), path...), with(path, len(path), ""), with(path, 0, "")}
	if len(path) == 0 {
		list = list[1:]
	} else {
		list = append(list, nil)
	}
	for at, entry := range path {
		other := slices.Clone(path)
		other[at] += "\x00"
		list = append(list, without(path, at), with(path, at, entry), other)
		if at > 0 {
			swapped := slices.Clone(path)
			swapped[at-1], swapped[at] = swapped[at], swapped[at-1]
			list = append(list, swapped)
		}
	}
	return list
}

func TestFollowsNot(t *testing.T) {
	random := rand.New(rand.NewSource(8))
	for n := 1; n < 36; n++ {
		leaves := digests(random, n)
		top := topOf(leaves)
		for i, leaf := range leaves {
			path := pathOf(leaves, i)
			for _, other := range []string{"", sha("other"), top[:31], top + "\x00", top + top} {
				if vault.Follows(other, n, i, leaf, path) {
					t.Fatalf("P6: leaf %d among %d follows to the top %x, which is %x", i, n, other, top)
				}
			}
			for _, other := range []string{"", sha("other"), leaf[:31], leaf + "\x00", leaves[(i+1)%n] + leaf} {
				if vault.Follows(top, n, i, other, path) {
					t.Fatalf("P6: %x follows as leaf %d among %d, which is %x", other, i, n, leaf)
				}
			}
			for _, other := range wrongPaths(path) {
				if vault.Follows(top, n, i, leaf, other) {
					t.Fatalf("P6: leaf %d among %d follows by %x, its path is %x", i, n, other, path)
				}
			}
			for other := -2; other < n+3; other++ {
				if other != i && vault.Follows(top, n, other, leaf, path) {
					t.Fatalf("P6: leaf %d among %d follows as number %d", i, n, other)
				}
			}
		}
	}
}

// TestFollowsNumbers: the same leaf and path at other numbers: only the way that these tell counts.
func TestFollowsNumbers(t *testing.T) {
	random := rand.New(rand.NewSource(9))
	for n := 1; n < 20; n++ {
		leaves := digests(random, n)
		top := topOf(leaves)
		for i, leaf := range leaves {
			path := pathOf(leaves, i)
			for otherN := -1; otherN < 36; otherN++ {
				for otherI := -1; otherI < 37; otherI++ {
					want := false
					if 0 <= otherI && otherI < otherN {
						reached, ok := topBy(otherN, otherI, leaf, path)
						want = ok && reached == top
					}
					if follows := vault.Follows(top, otherN, otherI, leaf, path); follows != want {
						t.Fatalf("P6: leaf %d among %d as number %d among %d: Follows is %v", i, n, otherI, otherN, follows)
					}
				}
			}
		}
	}
}

// TestFollowsRange: numbers out of their range, with a path that would do for any way.
func TestFollowsRange(t *testing.T) {
	edges := []int{math.MinInt, math.MinInt + 1, math.MinInt / 2, -2, -1, 0, 1, 2, 3, math.MaxInt / 2, math.MaxInt - 1, math.MaxInt}
	for _, n := range edges {
		for _, i := range edges {
			if 0 <= i && i < n {
				continue
			}
			for length := range 66 {
				if vault.Follows("x", n, i, "x", make([]string, length)) {
					t.Errorf("P6: number %d among %d follows", i, n)
				}
			}
		}
	}
}

// TestFollowsMany: more leaves than anybody has: only the way is walked.
func TestFollowsMany(t *testing.T) {
	random := rand.New(rand.NewSource(10))
	half := math.MaxInt/2 + 1
	for _, n := range []int{math.MaxInt, math.MaxInt - 1, half + 1, half, half - 1, half/2 + 1, 1<<20 + 3, 1<<32 - 1} {
		numbers := []int{0, 1, n / 2, n/2 + 1, n - 2, n - 1}
		for range 5 {
			numbers = append(numbers, random.Intn(n))
		}
		for _, i := range numbers {
			fitting := 0
			for length := range 70 {
				path := digests(random, length)
				top, ok := topBy(n, i, "leaf", path)
				if vault.Follows(top, n, i, "leaf", path) != ok {
					t.Fatalf("P6: number %d among %d with a path of %d: Follows is %v", i, n, length, !ok)
				}
				if ok {
					fitting++
				}
				if vault.Follows(top, n, i, "other", path) || vault.Follows(sha("other"), n, i, "leaf", path) {
					t.Fatalf("P6: number %d among %d follows though leaf or top is another", i, n)
				}
			}
			if fitting != 1 {
				t.Fatalf("the test has %d lengths of the path of %d among %d", fitting, i, n)
			}
		}
	}
	if vault.Follows("x", math.MaxInt, 5, "x", make([]string, 1<<20)) {
		t.Error("P6: a very long path leads to a top")
	}
}

// TestFollowsAnyText: top, leaf and path are any texts.
func TestFollowsAnyText(t *testing.T) {
	long := strings.Repeat("long", 5000)
	for _, c := range []struct {
		top  string
		n, i int
		leaf string
		path []string
		want bool
	}{
		{"", 1, 0, "", nil, true},
		{"", 1, 0, "", []string{}, true},
		{"", 1, 0, "", []string{""}, false},
		{"", 0, 0, "", nil, false},
		{"", 2, 0, "", nil, false},
		{long, 1, 0, long, nil, true},
		{sha(""), 0, 0, "", nil, false},
		{sha(""), 1, 0, sha(""), nil, true},
		{sha("\x01"), 2, 0, "", []string{""}, true},
		{joined(long, ""), 2, 0, long, []string{""}, true},
		{joined(long, ""), 2, 1, "", []string{long}, true},
		{joined("x", long), 2, 0, long, []string{"x"}, false},
		{joined("x", long), 2, 1, long, []string{"x"}, true},
		{joined("a", "b"), 2, 0, "a", []string{"b"}, true},
		{joined("a", "b"), 2, 1, "a", []string{"b"}, false},
		{joined("a", "b"), 3, 2, "b", []string{"a"}, true},
		{joined("a", "b"), 3, 0, "a", []string{"b"}, false},
	} {
		if follows := vault.Follows(c.top, c.n, c.i, c.leaf, c.path); follows != c.want {
			t.Errorf("P6: Follows(%.40x, %d, %d, %.40x, %.40x) is %v", c.top, c.n, c.i, c.leaf, c.path, follows)
		}
	}
}

// TestTreeHandedIn: P2: neither the lists that are handed in are written into, nor what lies behind them.
func TestTreeHandedIn(t *testing.T) {
	random := rand.New(rand.NewSource(11))
	for _, n := range []int{0, 1, 2, 3, 7, 8, 9} {
		leaves := behind(digests(random, n), "mine")
		whole := slices.Clone(leaves[:n+3])
		top := vault.Top(leaves)
		for i := range n {
			path, err := vault.Path(leaves, i)
			if err != nil {
				t.Fatal(err)
			}
			handed := behind(path, "mine")
			if !vault.Follows(top, n, i, leaves[i], handed) || !slices.Equal(handed[:len(path)+3], append(slices.Clone(path), "mine", "mine", "mine")) {
				t.Errorf("P2: the path that was handed in is now %x", handed[:len(path)+3])
			}
			// All that came out is overwritten: it shares no room with what went in.
			clear(path[:cap(path)])
		}
		if !slices.Equal(leaves[:n+3], whole) {
			t.Errorf("P2: the leaves that were handed in are now %x", leaves[:n+3])
		}
	}
}

// TestPathIsNew: P2: the owner may change the leaves later, and no two answers share room.
func TestPathIsNew(t *testing.T) {
	random := rand.New(rand.NewSource(12))
	for _, n := range []int{1, 2, 5, 8} {
		leaves := digests(random, n)
		for i := range n {
			handed, want := slices.Clone(leaves), pathOf(leaves, i)
			first, _ := vault.Path(handed, i)
			second, _ := vault.Path(handed, i)
			clear(first[:cap(first)])
			clear(handed)
			if !slices.Equal(second, want) {
				t.Errorf("P2: the path of %d among %d became %x, it was %x", i, n, second, want)
			}
		}
	}
}

// TestTreeTextsAreNew: not even the bytes of a text that comes out are those of one that went in.
func TestTreeTextsAreNew(t *testing.T) {
	leaves := []string{strings.Repeat("a", 99), strings.Repeat("b", 99), strings.Repeat("c", 99)}
	if top := vault.Top(leaves[:1]); unsafe.StringData(top) == unsafe.StringData(leaves[0]) {
		t.Error("the top of one leaf is the very text that was handed in")
	}
	path, err := vault.Path(leaves, 0)
	if err != nil || len(path) != 2 {
		t.Fatal(path, err)
	}
	for at, entry := range path {
		if unsafe.StringData(entry) == unsafe.StringData(leaves[at+1]) {
			t.Errorf("entry %d of the path is the very text that was handed in", at)
		}
	}
}
