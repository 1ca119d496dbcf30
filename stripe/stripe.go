// Package stripe makes the parity of a stripe, and its lost blocks of those that are left.
package stripe

import (
	"slices"
	"strings"

	"vault/api"
	"vault/fault"
	"vault/field"
	"vault/matrix"
)

// Parity gives the m parity blocks of k blocks of data (P4).
func Parity(k int, m int, data []string) ([]string, error) {
	if err := CheckParams(k, m); err != nil {
		return nil, err
	}
	if len(data) != k {
		return nil, fault.At(api.ErrRange, len(data))
	}
	for i, block := range data {
		if len(block) != len(data[0]) {
			return nil, fault.At(api.ErrBig, i)
		}
	}
	return parity(k, m, data), nil
}

// Whole gives all k + m blocks of a stripe. Its k blocks of data must be there, and be of one length.
func Whole(k int, m int, data []string) []string {
	return slices.Concat(data, parity(k, m, data))
}

func parity(k int, m int, data []string) []string {
	return values(data, points(0, k), points(k, k+m))
}

// Restore gives all k + m blocks of those that has (P5).
func Restore(k int, m int, blocks []string, has []bool) ([]string, error) {
	if err := CheckParams(k, m); err != nil {
		return nil, err
	}
	if len(blocks) != k+m {
		return nil, fault.At(api.ErrRange, len(blocks))
	}
	if len(has) != k+m {
		return nil, fault.At(api.ErrRange, len(has))
	}
	if err := checkLengths(blocks, has); err != nil {
		return nil, err
	}
	known, wanted := split(has, k)
	if len(known) < k {
		return nil, fault.At(api.ErrLost, len(known))
	}
	return fill(blocks, known, wanted), nil
}

// CheckParams refuses a k or an m that is none (P4).
func CheckParams(k int, m int) error {
	if k < 1 || k > api.MaxParts {
		return fault.At(api.ErrParams, 0)
	}
	if m < 0 || m > api.MaxParts-k {
		return fault.At(api.ErrParams, 1)
	}
	return nil
}

func checkLengths(blocks []string, has []bool) error {
	first := slices.Index(has, true)
	for i, there := range has {
		if there && len(blocks[i]) != len(blocks[first]) {
			return fault.At(api.ErrBig, i)
		}
	}
	return nil
}

// split gives the numbers of the first k blocks that has, and those of all others.
// A block that has behind the first k is among the others: the polynomials do not ask for it.
func split(has []bool, k int) (known []int, wanted []int) {
	for i, there := range has {
		if there && len(known) < k {
			known = append(known, i)
		} else {
			wanted = append(wanted, i)
		}
	}
	return known, wanted
}

// fill gives all blocks: the known ones as they are, the wanted ones made of them.
func fill(blocks []string, known []int, wanted []int) []string {
	all := make([]string, len(blocks))
	kept := make([]string, len(known))
	for i, number := range known {
		kept[i] = blocks[number]
		// A copy, since an answer shares no memory with what was handed in.
		all[number] = strings.Clone(blocks[number])
	}
	for i, block := range values(kept, known, wanted) {
		all[wanted[i]] = block
	}
	return all
}

// points gives the numbers from first to below end.
func points(first int, end int) []int {
	list := make([]int, end-first)
	for i := range list {
		list[i] = first + i
	}
	return list
}

// values gives the blocks at the points to of the polynomials that have these blocks at the points from.
func values(blocks []string, from []int, to []int) []string {
	rows := make(matrix.Matrix[field.Number], len(blocks))
	for i, block := range blocks {
		rows[i] = row(block)
	}
	made := matrix.Interpolation(numbers(from), numbers(to)).Times(rows)
	list := make([]string, len(made))
	for i, value := range made {
		list[i] = text(value)
	}
	return list
}

func numbers(points []int) []field.Number {
	list := make([]field.Number, len(points))
	for i, point := range points {
		list[i] = field.Number(point)
	}
	return list
}

func row(block string) []field.Number {
	list := make([]field.Number, len(block))
	for i := range list {
		list[i] = field.Number(block[i])
	}
	return list
}

func text(row []field.Number) string {
	list := make([]byte, len(row))
	for i, number := range row {
		list[i] = byte(number)
	}
	return string(list)
}
