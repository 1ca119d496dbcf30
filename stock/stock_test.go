package stock

import (
	"slices"
	"testing"

	"vault/api"
	"vault/layout"
)

// harmed: the Stock of a vault with two stripes: the second block of the first one is lost, and two of the second.
func harmed(t *testing.T) *Stock {
	t.Helper()
	p, entries := api.Params{K: 2, M: 1, Chunk: 2, Volumes: 6}, []api.Entry{{Name: "a", Length: 4}, {Name: "b", Length: 3}}
	volumes, root := layout.Volumes(p, entries, layout.Blocks(p, "onestwo"))
	s, err := Open([]string{volumes[0], volumes[2], volumes[5]}, root)
	if err != nil {
		t.Fatal(err)
	}
	return s
}

// TestWorkedOutOnce: whichever call comes first, what it has worked out serves those that come later.
func TestWorkedOutOnce(t *testing.T) {
	calls := []func(s *Stock){
		func(s *Stock) { s.Verify() },
		func(s *Stock) { s.Unpack() },
		func(s *Stock) { s.Repair() },
	}
	for i, first := range calls {
		s := harmed(t)
		first(s)
		findings, blocks := slices.Clone(s.findings), slices.Clone(s.blocks)
		if slices.Contains(findings, nil) {
			t.Errorf("call %d has not worked out all stripes", i)
		}
		if !slices.Equal(blocks[:2], []string{"on", "es"}) {
			t.Errorf("call %d has made of the first stripe %q", i, blocks[:3])
		}
		for _, later := range calls {
			later(s)
		}
		if !slices.Equal(s.findings, findings) || !slices.Equal(s.blocks, blocks) {
			t.Errorf("what call %d has worked out was worked out again", i)
		}
	}
}

// TestNothingOfLostStripes: what is left of a stripe that can't be made good stays as it was read.
func TestNothingOfLostStripes(t *testing.T) {
	s := harmed(t)
	read := slices.Clone(s.blocks[3:])
	s.Verify()
	if !slices.Equal(s.blocks[3:], read) {
		t.Errorf("of the short stripe there is now %q, read were %q", s.blocks[3:], read)
	}
}
