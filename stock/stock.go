// Package stock has what is there of a vault that was opened.
package stock

import (
	"slices"

	"vault/api"
	"vault/digest"
	"vault/fault"
	"vault/layout"
)

// Stock is what a Vault has. Only one call may work on it at a time, since it keeps what that has worked out.
type Stock struct {
	head     *layout.Head
	unread   []int      // places in the list of volumes
	read     []bool     // by the number of the volume
	blocks   []string   // by number; empty, where not all of a block is there; in a stripe that was made good, what was made
	findings []*finding // by the number of the stripe; nil until it was worked out
}

// Open gives the Stock of the volumes that belong to the vault with that root, or to any one if the root is empty (P12).
func Open(volumes []string, root string) (*Stock, error) {
	if len(root) != 0 && len(root) != digest.Size {
		return nil, fault.At(api.ErrRoot, 0)
	}
	s := &Stock{}
	var first error
	for place, text := range volumes {
		volume, err := read(text, root)
		if err != nil {
			if place == 0 {
				first = err
			}
			s.unread = append(s.unread, place)
			continue
		}
		// Nothing that comes later in the list goes ahead of this error.
		if err := s.add(place, volume); err != nil {
			return nil, err
		}
	}
	if s.head == nil {
		return nil, noneRead(len(volumes), first)
	}
	return s, nil
}

// read reads a volume of the vault with that root, or of any one if the root is empty.
func read(text string, root string) (*layout.Volume, error) {
	volume, err := layout.Read(text)
	if err != nil {
		return nil, err
	}
	if root != "" && volume.Head.Root != root {
		return nil, fault.At(api.ErrRoot, layout.RootPlace)
	}
	return volume, nil
}

// noneRead gives the error of a list of so many volumes, of which none was read; first is that of the first one.
func noneRead(count int, first error) error {
	if count == 0 {
		return fault.At(api.ErrEmpty, 0)
	}
	return fault.Over(api.ErrEmpty, count, fault.Over(api.ErrHeader, 0, first))
}

// add takes in a volume that was read, unless it can't stand beside those that were read before.
func (s *Stock) add(place int, volume *layout.Volume) error {
	if s.head == nil {
		s.begin(&volume.Head)
	}
	if !s.head.Same(&volume.Head) {
		return fault.At(api.ErrMixed, place)
	}
	if s.read[volume.Number] {
		return fault.At(api.ErrTwice, place)
	}
	s.read[volume.Number] = true
	copy(s.blocks[volume.First:], volume.Blocks)
	return nil
}

func (s *Stock) begin(head *layout.Head) {
	s.head = head
	s.read = make([]bool, head.Params.Volumes)
	s.blocks = make([]string, head.CountBlocks())
	s.findings = make([]*finding, head.CountStripes())
}

// Params tells the vault's params (P13).
func (s *Stock) Params() api.Params { return s.head.Params }

// Root tells the vault's root (P13).
func (s *Stock) Root() string { return s.head.Root }

// Objects tells which objects there are (P13).
func (s *Stock) Objects() []api.Entry { return slices.Clone(s.head.Entries) }
