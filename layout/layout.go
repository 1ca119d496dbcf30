// Package layout tells how a vault lies in bytes: its stripes and blocks, its list, its root and its volumes.
package layout

import (
	"strings"

	"vault/api"
	"vault/digest"
	"vault/fault"
	"vault/proof"
	"vault/stripe"
	"vault/varint"
)

const (
	volumeMark = "VOL1"
	listMark   = "VLT1"
)

// These bytes keep the digests of different things apart. (The tree has the byte 1.)
const (
	leafMark  = "\x00"
	rootMark  = "\x02"
	checkMark = "\x03"
)

// CheckParams refuses params that are none (P7).
func CheckParams(p api.Params) error {
	if err := stripe.CheckParams(p.K, p.M); err != nil {
		return err
	}
	if p.Chunk < 1 || p.Chunk > api.MaxChunk {
		return fault.At(api.ErrParams, 2)
	}
	if p.Volumes < 1 || p.Volumes > api.MaxVolumes {
		return fault.At(api.ErrParams, 3)
	}
	return nil
}

// CountBlocks gives the number of blocks, those of parity too, for so many bytes of data.
func CountBlocks(p api.Params, length int) int {
	return countStripes(p, length) * (p.K + p.M)
}

func countStripes(p api.Params, length int) int {
	size := p.K * p.Chunk
	return (length + size - 1) / size
}

// Blocks gives the blocks of all stripes of the stream that begins with this data.
func Blocks(p api.Params, data string) []string {
	size := p.K * p.Chunk
	stream := data + strings.Repeat("\x00", countStripes(p, len(data))*size-len(data))
	var blocks []string
	for _, part := range cut(stream, size) {
		blocks = append(blocks, stripe.Whole(p.K, p.M, cut(part, p.Chunk))...)
	}
	return blocks
}

// cut gives the pieces of a text, in their order. A last one that is not whole is left out.
func cut(text string, size int) []string {
	pieces := make([]string, len(text)/size)
	for i := range pieces {
		pieces[i] = text[i*size : (i+1)*size]
	}
	return pieces
}

// Volumes gives all volumes of a vault, in the order of their numbers, and its root. The entries must be in the order of their names.
func Volumes(p api.Params, entries []api.Entry, blocks []string) (volumes []string, root string) {
	list, leaves := listOf(p, entries), leavesOf(blocks)
	root = rootOf(list, leaves)
	volumes = make([]string, p.Volumes)
	for v := range volumes {
		told := volumeMark + root + list + varint.Of(uint32(v)) + strings.Join(leaves, "")
		first, end := share(p.Volumes, len(blocks), v)
		volumes[v] = told + digest.Of(checkMark+told) + strings.Join(blocks[first:end], "")
	}
	return volumes, root
}

func listOf(p api.Params, entries []api.Entry) string {
	var list strings.Builder
	list.WriteString(listMark)
	for _, number := range []int{p.K, p.M, p.Chunk, p.Volumes, len(entries)} {
		list.WriteString(varint.Of(uint32(number)))
	}
	for _, entry := range entries {
		list.WriteString(varint.Of(uint32(len(entry.Name))))
		list.WriteString(entry.Name)
		list.WriteString(varint.Of(uint32(entry.Length)))
	}
	return list.String()
}

func leavesOf(blocks []string) []string {
	leaves := make([]string, len(blocks))
	for i, block := range blocks {
		leaves[i] = Leaf(block)
	}
	return leaves
}

// Leaf gives the leaf of a block.
func Leaf(block string) string {
	return digest.Of(leafMark + block)
}

func rootOf(list string, leaves []string) string {
	return digest.Of(rootMark + list + proof.Top(leaves))
}

// share gives the number of the first block of volume v, and that behind its last one.
func share(volumes int, blocks int, v int) (first int, end int) {
	return v * blocks / volumes, (v + 1) * blocks / volumes
}
