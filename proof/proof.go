// Package proof has the tree over digests, and the paths that prove which leaf stands where in it.
package proof

import (
	"strings"

	"vault/api"
	"vault/digest"
	"vault/fault"
	"vault/tree"
)

// joinMark keeps the digest of two tops apart from that of anything else.
const joinMark = "\x01"

// label is a text that stands in the tree: a leaf, or the top of some leaves.
type label string

// Join gives the top of a tree of which these are the tops of the halves.
func (l label) Join(right label) label {
	return label(digest.Of(joinMark + string(l) + string(right)))
}

// Empty gives the top of no leaf.
func (l label) Empty() label {
	return label(digest.Of(""))
}

// Top gives the top of the tree over these leaves (P6).
func Top(leaves []string) string {
	top := tree.Tree[label](labels(leaves)).Top()
	// A copy, since the top of one leaf is the very text that was handed in.
	return strings.Clone(string(top))
}

// Path gives the path of the leaf with the number i (P6).
func Path(leaves []string, i int) ([]string, error) {
	if i < 0 || i >= len(leaves) {
		return nil, fault.At(api.ErrRange, i)
	}
	return texts(tree.Tree[label](labels(leaves)).Path(i)), nil
}

// Follows tells whether the leaf with the number i among n and its path lead to the top (P6).
func Follows(top string, n int, i int, leaf string, path []string) bool {
	reached, ok := tree.Climb(n, i, label(leaf), labels(path))
	return ok && string(reached) == top
}

func labels(texts []string) []label {
	list := make([]label, len(texts))
	for i, text := range texts {
		list[i] = label(text)
	}
	return list
}

// texts gives copies, since leaves that were handed in may stand in a path.
func texts(path []label) []string {
	list := make([]string, len(path))
	for i, entry := range path {
		list[i] = strings.Clone(string(entry))
	}
	return list
}
