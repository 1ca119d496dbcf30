package stock

import (
	"slices"
	"strings"

	"vault/api"
	"vault/layout"
	"vault/stripe"
)

// fate is what became of a stripe.
type fate int

const (
	whole fate = iota
	short
	forged
)

// finding is what was worked out of a stripe.
type finding struct {
	bad  []int // the numbers of blocks, among those of all stripes
	fate fate
}

// Verify tells what is there (P14).
func (s *Stock) Verify() api.Report {
	report := api.Report{Unread: slices.Clone(s.unread)}
	for number, read := range s.read {
		if !read {
			report.Absent = append(report.Absent, number)
		}
	}
	for number := range s.findings {
		found := s.stripe(number)
		report.Bad = append(report.Bad, found.bad...)
		switch found.fate {
		case short:
			report.Short = append(report.Short, number)
		case forged:
			report.Forged = append(report.Forged, number)
		}
	}
	return report
}

// stripe gives what was worked out of a stripe, and works it out only if no call has done so before.
func (s *Stock) stripe(number int) *finding {
	if s.findings[number] == nil {
		s.findings[number] = s.workOut(number)
	}
	return s.findings[number]
}

func (s *Stock) workOut(number int) *finding {
	p := s.head.Params
	first := number * (p.K + p.M)
	blocks := s.blocks[first : first+p.K+p.M]
	good := make([]bool, len(blocks))
	found := &finding{}
	for i, block := range blocks {
		good[i] = s.isGood(first+i, block)
		if !good[i] {
			found.bad = append(found.bad, first+i)
		}
	}
	made, err := stripe.Restore(p.K, p.M, blocks, good)
	if err != nil {
		// All good blocks have one length, so it refuses them only for being too few.
		found.fate = short
	} else if s.isForged(number, blocks, good, made) {
		found.fate = forged
	} else {
		// For the calls to come. Which ones were bad is told by the finding alone from here on.
		copy(blocks, made)
	}
	return found
}

// isGood tells whether a block is there, and has its leaf.
// Its length is asked too, since the leaf of a forged vault may be that of the empty text.
func (s *Stock) isGood(number int, block string) bool {
	return len(block) == s.head.Params.Chunk && layout.Leaf(block) == s.head.Leaf(number)
}

// isForged tells whether the blocks that were made contradict the leaves, the good ones or the end of the stream.
func (s *Stock) isForged(number int, blocks []string, good []bool, made []string) bool {
	first := number * len(made)
	for i, block := range made {
		if !s.isGood(first+i, block) || good[i] && block != blocks[i] {
			return true
		}
	}
	data := strings.Join(made[:s.head.Params.K], "")
	end := min(s.head.Length()-number*len(data), len(data))
	return strings.Trim(data[end:], "\x00") != ""
}
