package tree

import (
	"math"
	"slices"
	"testing"
)

// word: a node that shows how it was joined.
type word string

func (a word) Join(b word) word { return "(" + a + b + ")" }
func (a word) Empty() word      { return "-" }

// count: a node of another kind: how many leaves lie below it.
type count int

func (a count) Join(b count) count { return a + b }
func (a count) Empty() count       { return 0 }

func letters(n int) Tree[word] {
	list := Tree[word]{}
	for i := range n {
		list = append(list, word('a'+rune(i)))
	}
	return list
}

func TestTop(t *testing.T) {
	for n, want := range []word{
		"-", "a", "(ab)", "((ab)c)", "((ab)(cd))", "(((ab)(cd))e)", "(((ab)(cd))(ef))", "(((ab)(cd))((ef)g))",
		"(((ab)(cd))((ef)(gh)))", "((((ab)(cd))((ef)(gh)))i)",
	} {
		if top := letters(n).Top(); top != want {
			t.Errorf("the top of %d leaves = %s, want %s", n, top, want)
		}
	}
	for n := range 600 {
		if top := Tree[count](slices.Repeat([]count{1}, n)).Top(); top != count(n) {
			t.Errorf("the top of %d leaves counts %d", n, top)
		}
	}
}

func TestPath(t *testing.T) {
	for n, paths := range [][][]word{
		{}, {{}}, {{"b"}, {"a"}}, {{"b", "c"}, {"a", "c"}, {"(ab)"}},
		{{"b", "(cd)"}, {"a", "(cd)"}, {"d", "(ab)"}, {"c", "(ab)"}},
		{{"b", "(cd)", "e"}, {"a", "(cd)", "e"}, {"d", "(ab)", "e"}, {"c", "(ab)", "e"}, {"((ab)(cd))"}},
	} {
		for i, want := range paths {
			if path := letters(n).Path(i); !slices.Equal(path, want) {
				t.Errorf("the path of %d among %d = %s, want %s", i, n, path, want)
			}
		}
	}
}

func TestClimb(t *testing.T) {
	for n := 1; n <= 26; n++ {
		leaves := letters(n)
		for i, leaf := range leaves {
			path := leaves.Path(i)
			if top, ok := Climb(n, i, leaf, path); !ok || top != leaves.Top() {
				t.Errorf("leaf %d among %d leads to %s, %v, want %s", i, n, top, ok, leaves.Top())
			}
			if top, ok := Climb(n, i, leaf, append(path, "x")); ok || top != "" {
				t.Errorf("leaf %d among %d, an entry too many: %s, %v", i, n, top, ok)
			}
			if n > 1 {
				if top, ok := Climb(n, i, leaf, path[1:]); ok || top != "" {
					t.Errorf("leaf %d among %d, an entry too few: %s, %v", i, n, top, ok)
				}
			}
		}
	}
}

func TestClimbRange(t *testing.T) {
	for _, c := range []struct{ n, i int }{
		{0, 0}, {1, 1}, {1, -1}, {5, 5}, {-1, 0}, {-1, -2}, {math.MinInt, 0}, {math.MinInt, math.MinInt}, {math.MaxInt, math.MaxInt}, {math.MaxInt, math.MinInt},
	} {
		for length := range 70 {
			if top, ok := Climb(c.n, c.i, "a", make([]word, length)); ok || top != "" {
				t.Errorf("number %d among %d, with a path of %d: %s, %v", c.i, c.n, length, top, ok)
			}
		}
	}
}

func TestLeftSize(t *testing.T) {
	power := 1
	for n := 2; n < 5000; n++ {
		if 2*power < n {
			power *= 2
		}
		if size := leftSize(n); size != power {
			t.Errorf("leftSize(%d) = %d, want %d", n, size, power)
		}
	}
	half := math.MaxInt/2 + 1
	for n, want := range map[int]int{math.MaxInt: half, half + 1: half, half: half / 2} {
		if size := leftSize(n); size != want {
			t.Errorf("leftSize(%d) = %d, want %d", n, size, want)
		}
	}
}
