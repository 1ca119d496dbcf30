package layout

import (
	"vault/api"
	"vault/digest"
	"vault/fault"
	"vault/reader"
)

// RootPlace is the place of the root in a volume.
const RootPlace = len(volumeMark)

// Head is what all volumes of a vault tell alike.
type Head struct {
	Root    string
	List    string
	Params  api.Params  // as the list tells them
	Entries []api.Entry // as the list tells them
	Leaves  string      // one behind the other
}

// Volume is what one volume tells.
type Volume struct {
	Head   Head
	Number int
	First  int      // the number of its first block
	Blocks []string // those of which all is there
}

// Read reads a volume (P11). It keeps nothing of the text.
func Read(text string) (*Volume, error) {
	if len(text) > api.MaxVolume {
		return nil, fault.At(api.ErrBig, len(text))
	}
	fields := reader.New(text)
	volume := readTold(fields)
	told, behind := fields.Since(0), fields.Place()
	check := fields.Bytes(digest.Size)
	if place, wrong := fields.Wrong(); wrong {
		return nil, fault.At(api.ErrCode, place)
	}
	if check != digest.Of(checkMark+told) {
		return nil, fault.At(api.ErrCheck, behind)
	}
	if volume.Head.Root != rootOf(volume.Head.List, cut(volume.Head.Leaves, digest.Size)) {
		return nil, fault.At(api.ErrRoot, RootPlace)
	}
	if err := readBlocks(fields, volume); err != nil {
		return nil, err
	}
	return volume, nil
}

// readTold reads all fields ahead of the check.
func readTold(fields *reader.Reader[string]) *Volume {
	volume := &Volume{}
	head := &volume.Head
	fields.Word(volumeMark)
	head.Root = fields.Bytes(digest.Size)
	list := fields.Place()
	head.Params, head.Entries = readList(fields)
	head.List = fields.Since(list)
	volume.Number = fields.Number(0, head.Params.Volumes-1)
	if _, wrong := fields.Wrong(); wrong {
		return volume
	}
	count := head.CountBlocks()
	if count > api.MaxBlocks {
		fields.Refuse()
	}
	head.Leaves = fields.Bytes(count * digest.Size)
	return volume
}

func readList(fields *reader.Reader[string]) (p api.Params, entries []api.Entry) {
	fields.Word(listMark)
	p.K = fields.Number(1, api.MaxParts)
	p.M = fields.Number(0, api.MaxParts-p.K)
	p.Chunk = fields.Number(1, api.MaxChunk)
	p.Volumes = fields.Number(1, api.MaxVolumes)
	count := fields.Number(0, api.MaxObjects)
	name, left := "", api.MaxTotal
	for range count {
		entry := readEntry(fields, name, left)
		entries = append(entries, entry)
		name = entry.Name
		left -= entry.Length
	}
	return p, entries
}

// readEntry reads what the list tells of the object behind the one of that name, whose data is at most so long.
func readEntry(fields *reader.Reader[string], before string, longest int) api.Entry {
	name := fields.Bytes(fields.Number(1, api.MaxName))
	if name <= before {
		fields.Refuse()
	}
	return api.Entry{Name: name, Length: fields.Number(0, longest)}
}

// readBlocks reads what is there of the volume's blocks, of which bytes may be missing at the end.
func readBlocks(fields *reader.Reader[string], volume *Volume) error {
	p := volume.Head.Params
	first, end := share(p.Volumes, volume.Head.CountBlocks(), volume.Number)
	size := (end - first) * p.Chunk
	place := fields.Place()
	rest := fields.Rest()
	if len(rest) > size {
		return fault.At(api.ErrCode, place+size)
	}
	volume.First = first
	volume.Blocks = cut(rest, p.Chunk)
	return nil
}

// Same tells whether two heads are those of one vault.
func (h *Head) Same(other *Head) bool {
	return h.Root == other.Root && h.List == other.List && h.Leaves == other.Leaves
}

// Length gives how many bytes the data of all objects has together.
func (h *Head) Length() int {
	length := 0
	for _, entry := range h.Entries {
		length += entry.Length
	}
	return length
}

// CountBlocks gives the number of blocks, those of parity too.
func (h *Head) CountBlocks() int {
	return CountBlocks(h.Params, h.Length())
}

// CountStripes gives the number of stripes.
func (h *Head) CountStripes() int {
	return countStripes(h.Params, h.Length())
}

// Leaf gives the leaf of the block with that number.
func (h *Head) Leaf(number int) string {
	return h.Leaves[number*digest.Size : (number+1)*digest.Size]
}
