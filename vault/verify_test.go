package vault_test

import (
	"fmt"
	"math/rand"
	"slices"
	"strings"
	"testing"

	"vault/api"
)

// findingsOf: what P14 says, word by word, of a vault with these params, so many bytes of data and these leaves.
// Of each block it is told what is there: all of it, or the empty text.
func findingsOf(p api.Params, total int, leaves, there []string) (bad, short, forged []int) {
	size := p.K + p.M
	for s := range len(leaves) / size {
		var points []int
		var known []string
		for i := range size {
			if block := there[s*size+i]; block != "" && sha("\x00"+block) == leaves[s*size+i] {
				points, known = append(points, i), append(known, block)
			} else {
				bad = append(bad, s*size+i)
			}
		}
		if len(points) < p.K {
			short = append(short, s)
		} else if contradicts(p, total, s, leaves, points, known) {
			forged = append(forged, s)
		}
	}
	return bad, short, forged
}

// contradicts: whether the blocks of stripe s that come of the good ones, which these are, make it a forged one.
func contradicts(p api.Params, total, s int, leaves []string, points []int, good []string) bool {
	stream := ""
	for i := range p.K + p.M {
		block := blockAt(points[:p.K], good[:p.K], i)
		if sha("\x00"+block) != leaves[s*(p.K+p.M)+i] {
			return true
		}
		if j := slices.Index(points, i); j >= 0 && good[j] != block {
			return true
		}
		if i < p.K {
			stream += block
		}
	}
	for i := range stream {
		if s*p.K*p.Chunk+i >= total && stream[i] != 0 {
			return true
		}
	}
	return false
}

// volumesWith: volumes that hold together, whatever their leaves and blocks are.
func volumesWith(p api.Params, list string, leaves, blocks []string) ([]string, string) {
	root := sha("\x02" + list + topOf(leaves))
	var volumes []string
	for v := range p.Volumes {
		volume := "VOL1" + root + list + number(v) + strings.Join(leaves, "")
		volume += sha("\x03" + volume)
		volumes = append(volumes, volume+strings.Join(blocks[v*len(blocks)/p.Volumes:(v+1)*len(blocks)/p.Volumes], ""))
	}
	return volumes, root
}

// hello: the vault of the document's examples, whose three blocks lie in three volumes.
func hello(t *testing.T) ([]string, string) {
	return packed(t, params(2, 1, 4, 3), objects("b", "hello", "a", ""))
}

// TestVerify: P14: blocks that are lost, cut off or overwritten.
func TestVerify(t *testing.T) {
	a, root := hello(t)
	zeroed := func(v int) string { return a[v][:len(a[v])-4] + "\x00\x00\x00\x00" }
	cut := func(v, count int) string { return a[v][:len(a[v])-count] }
	turn := func(v, place int) string { return turned(a[v], len(a[v])-4+place) }
	for _, c := range []struct {
		what    string
		volumes []string
		want    api.Report
	}{
		{"all there", a, api.Report{}},
		{"all there, the other way round", []string{a[2], a[1], a[0]}, api.Report{}},
		{"the first absent", a[1:], api.Report{Absent: []int{0}, Bad: []int{0}}},
		{"the second absent", []string{a[0], a[2]}, api.Report{Absent: []int{1}, Bad: []int{1}}},
		{"the last absent", []string{a[1], a[0]}, api.Report{Absent: []int{2}, Bad: []int{2}}},
		{"the first alone", a[:1], api.Report{Absent: []int{1, 2}, Bad: []int{1, 2}, Short: []int{0}}},
		{"the last alone", a[2:], api.Report{Absent: []int{0, 1}, Bad: []int{0, 1}, Short: []int{0}}},
		{"one zeroed", []string{a[0], zeroed(1), a[2]}, api.Report{Bad: []int{1}}},
		{"two zeroed", []string{zeroed(2), zeroed(1), a[0]}, api.Report{Bad: []int{1, 2}, Short: []int{0}}},
		{"all zeroed", []string{zeroed(2), zeroed(1), zeroed(0)}, api.Report{Bad: []int{0, 1, 2}, Short: []int{0}}},
		{"the first byte turned", []string{turn(0, 0), a[1], a[2]}, api.Report{Bad: []int{0}}},
		{"the last byte turned", []string{a[0], a[1], turn(2, 3)}, api.Report{Bad: []int{2}}},
		{"one byte cut off", []string{a[0], cut(1, 1), a[2]}, api.Report{Bad: []int{1}}},
		{"but one byte cut off", []string{a[0], cut(1, 3), a[2]}, api.Report{Bad: []int{1}}},
		{"all cut off", []string{a[0], a[1], cut(2, 4)}, api.Report{Bad: []int{2}}},
		{"two cut off", []string{cut(0, 4), a[1], cut(2, 1)}, api.Report{Bad: []int{0, 2}, Short: []int{0}}},
		{"one cut off, one turned", []string{a[2], cut(1, 2), turn(0, 2)}, api.Report{Bad: []int{0, 1}, Short: []int{0}}},
		{"the block of another volume", []string{a[0], cut(1, 4) + a[0][len(a[0])-4:], a[2]}, api.Report{Bad: []int{1}}},
		{"one unread", []string{a[0], a[1] + "x", a[2]}, api.Report{Unread: []int{1}, Absent: []int{1}, Bad: []int{1}}},
		{"two unread", []string{a[0], turned(a[1], 20), turned(a[2], 20)}, api.Report{Unread: []int{1, 2}, Absent: []int{1, 2}, Bad: []int{1, 2}, Short: []int{0}}},
		{"one unread, and there all the same", []string{a[0], a[1] + "x", a[2], a[1]}, api.Report{Unread: []int{1}}},
		{"some that are none", []string{"", a[0], a[1], "x", a[2], "VOL1"}, api.Report{Unread: []int{0, 3, 5}}},
	} {
		for _, given := range []string{"", root} {
			v := opened(t, c.volumes, given)
			checkReport(t, c.what, v, c.want)
			checkTold(t, c.what, v, params(2, 1, 4, 3), root, objects("a", "", "b", "hello"))
		}
	}
}

// TestVerifyEdges: P14 at the edges: at each of them one volume, all but one, and all with no blocks.
func TestVerifyEdges(t *testing.T) {
	for _, c := range edges() {
		volumes, root := packed(t, c.p, c.objects)
		count := len(blocksOf(c.p, sortedByName(c.objects)))
		size := c.p.K + c.p.M
		for v := range volumes {
			checkReport(t, c.what+", one volume", opened(t, volumes[v:v+1], root), lostReport(c.p, count, func(volume int) bool { return volume != v }))
			if others := slices.Delete(slices.Clone(volumes), v, v+1); len(others) > 0 {
				checkReport(t, c.what+", all but one", opened(t, others, root), lostReport(c.p, count, func(volume int) bool { return volume == v }))
			}
		}
		var bare []string
		for v, volume := range volumes {
			bare = append(bare, volume[:len(volume)-((v+1)*count/c.p.Volumes-v*count/c.p.Volumes)*c.p.Chunk])
		}
		checkReport(t, c.what+", no blocks", opened(t, bare, root), api.Report{Bad: upTo(count), Short: upTo(count / size)})
	}
}

// lostReport: what is to be told of a vault with so many blocks, of which just these volumes are lost.
func lostReport(p api.Params, blocks int, lost func(v int) bool) (report api.Report) {
	left := make([]int, blocks/(p.K+p.M))
	for v := range p.Volumes {
		if lost(v) {
			report.Absent = append(report.Absent, v)
		}
		for b := v * blocks / p.Volumes; b < (v+1)*blocks/p.Volumes; b++ {
			if lost(v) {
				report.Bad = append(report.Bad, b)
			} else {
				left[b/(p.K+p.M)]++
			}
		}
	}
	for s := range left {
		if left[s] < p.K {
			report.Short = append(report.Short, s)
		}
	}
	return report
}

// TestVerifyZeros: P14: a block that was of bytes 0 is good, zeroed or not.
func TestVerifyZeros(t *testing.T) {
	p := params(3, 2, 4, 1)
	volumes, root := packed(t, p, objects("x", "\x00\x00\x00"))
	text := volumes[0]
	checkReport(t, "zeroed", opened(t, []string{text[:len(text)-20] + strings.Repeat("\x00", 20)}, root), api.Report{})
	checkReport(t, "cut", opened(t, []string{text[:len(text)-9]}, root), api.Report{Bad: []int{2, 3, 4}, Short: []int{0}})
}

// TestForged: P14: volumes that hold together, and yet contradict themselves.
func TestForged(t *testing.T) {
	p, list := params(2, 1, 4, 3), "VLT1\x02\x01\x04\x03\x02\x01a\x00\x01b\x05"
	right := blockAt([]int{0, 1}, []string{"hell", "o\x00\x00\x00"}, 2)
	nonzero := blockAt([]int{0, 1}, []string{"hell", "o\x00\x00\x01"}, 2)
	middle := blockAt([]int{0, 1}, []string{"hell", "o\x01\x00\x00"}, 2)
	for _, c := range []struct {
		what   string
		blocks []string
		there  []int
		want   api.Report
	}{
		{"nothing wrong", []string{"hell", "o\x00\x00\x00", right}, []int{0, 1, 2}, api.Report{}},
		{"nothing wrong, one absent", []string{"hell", "o\x00\x00\x00", right}, []int{0, 2}, api.Report{Absent: []int{1}, Bad: []int{1}}},
		{"other data", []string{"HELL", "O\x00\x00\x00", blockAt([]int{0, 1}, []string{"HELL", "O\x00\x00\x00"}, 2)}, []int{0, 1, 2}, api.Report{}},
		{"another parity", []string{"hell", "o\x00\x00\x00", "abcd"}, []int{0, 1, 2}, api.Report{Forged: []int{0}}},
		{"a bit of the parity", []string{"hell", "o\x00\x00\x00", turned(right, 3)}, []int{0, 1, 2}, api.Report{Forged: []int{0}}},
		{"another parity, and that absent", []string{"hell", "o\x00\x00\x00", "abcd"}, []int{0, 1}, api.Report{Absent: []int{2}, Bad: []int{2}, Forged: []int{0}}},
		{"another parity, and the first absent", []string{"hell", "o\x00\x00\x00", turned(right, 0)}, []int{1, 2}, api.Report{Absent: []int{0}, Bad: []int{0}, Forged: []int{0}}},
		{"another parity, and the second absent", []string{"hell", "o\x00\x00\x00", turned(right, 0)}, []int{0, 2}, api.Report{Absent: []int{1}, Bad: []int{1}, Forged: []int{0}}},
		{"no nought at the end", []string{"hell", "o\x00\x00\x01", nonzero}, []int{0, 1, 2}, api.Report{Forged: []int{0}}},
		{"no nought behind the data", []string{"hell", "o\x01\x00\x00", middle}, []int{0, 1, 2}, api.Report{Forged: []int{0}}},
		{"no nought at the end, and that absent", []string{"hell", "o\x00\x00\x01", nonzero}, []int{0, 2}, api.Report{Absent: []int{1}, Bad: []int{1}, Forged: []int{0}}},
		{"no nought at the end, and the parity absent", []string{"hell", "o\x00\x00\x01", nonzero}, []int{0, 1}, api.Report{Absent: []int{2}, Bad: []int{2}, Forged: []int{0}}},
		{"no nought at the end, and the first absent", []string{"hell", "o\x00\x00\x01", nonzero}, []int{1, 2}, api.Report{Absent: []int{0}, Bad: []int{0}, Forged: []int{0}}},
		{"a nought for data", []string{"hell", "\x00\x00\x00\x00", blockAt([]int{0, 1}, []string{"hell", "\x00\x00\x00\x00"}, 2)}, []int{0, 1, 2}, api.Report{}},
		{"forged, and too much lost", []string{"hell", "o\x00\x00\x01", "abcd"}, []int{1}, api.Report{Absent: []int{0, 2}, Bad: []int{0, 2}, Short: []int{0}}},
	} {
		volumes, root := volumesOf(p, list, c.blocks)
		var there []string
		for _, v := range c.there {
			there = append(there, volumes[v])
		}
		for _, given := range []string{"", root} {
			checkReport(t, c.what, opened(t, there, given), c.want)
		}
	}
}

// TestForgedLeaves: P14: leaves of which nobody has the block; also those of a text that is no whole block.
func TestForgedLeaves(t *testing.T) {
	p, list := params(2, 1, 4, 3), "VLT1\x02\x01\x04\x03\x02\x01a\x00\x01b\x05"
	blocks := []string{"hell", "o\x00\x00\x00", blockAt([]int{0, 1}, []string{"hell", "o\x00\x00\x00"}, 2)}
	for number := range blocks {
		for _, c := range []struct {
			what string
			leaf string
			left int // bytes of the block
		}{
			{"of some other text", sha("some other text"), 4},
			{"of the block without the byte 0", sha(blocks[number]), 4},
			{"of the block and the byte 1", sha("\x01" + blocks[number]), 4},
			{"of the empty text", sha(""), 4},
			{"of the byte 0 alone", sha("\x00"), 4},
			{"of the byte 0 alone, and no block", sha("\x00"), 0},
			{"of a piece of the block, and no more of it there", sha("\x00" + blocks[number][:2]), 2},
			{"of a piece of the block, and all of it there", sha("\x00" + blocks[number][:2]), 4},
		} {
			leaves := []string{sha("\x00" + blocks[0]), sha("\x00" + blocks[1]), sha("\x00" + blocks[2])}
			leaves[number] = c.leaf
			volumes, root := volumesWith(p, list, leaves, blocks)
			volumes[number] = volumes[number][:len(volumes[number])-4+c.left]
			what := fmt.Sprintf("the leaf of block %d is that %s", number, c.what)
			checkReport(t, what, opened(t, volumes, root), api.Report{Bad: []int{number}, Forged: []int{0}})
			absent := (number + 1) % 3
			gone := []int{min(number, absent), max(number, absent)}
			checkReport(t, what+", and another one absent", opened(t, slices.Delete(slices.Clone(volumes), absent, absent+1), root), api.Report{Absent: []int{absent}, Bad: gone, Short: []int{0}})
		}
	}
}

// TestForgedAlone: P14: of several stripes only those are told that are forged or short, and only the last has bytes behind the data.
func TestForgedAlone(t *testing.T) {
	p, data := params(3, 2, 2, 5), strings.Repeat("\x01data", 4) // of the last stripe, the fourth, two bytes
	sorted := objects("a", data[:7], "b", "", "c", data[7:], "d", "")
	list, right := listOf(p, sorted), blocksOf(p, sorted)
	for number := range right {
		blocks := slices.Clone(right)
		blocks[number] = turned(blocks[number], 1)
		volumes, root := volumesOf(p, list, blocks)
		stripe := number / 5
		checkReport(t, fmt.Sprint("another block, ", number), opened(t, volumes, root), api.Report{Forged: []int{stripe}})
		report := api.Report{Absent: []int{2}, Bad: []int{8, 9, 10, 11}, Forged: []int{stripe}}
		checkReport(t, fmt.Sprint("another block, ", number, ", and a volume absent"), opened(t, slices.Delete(slices.Clone(volumes), 2, 3), root), report)
	}
	for place := range 6 {
		stream := data + strings.Repeat("\x00", 4)
		stream = stream[:18] + turned(stream[18:], place)
		volumes, root := volumesOf(p, list, blocksOf(p, objects("all", stream)))
		want := api.Report{}
		if place >= 2 {
			want.Forged = []int{3}
		}
		checkReport(t, fmt.Sprint("another byte of the last stripe, ", place), opened(t, volumes, root), want)
	}
}

// TestForgedParams: P14 for params at their edges: what is behind the data is not 0, or the last block is another.
func TestForgedParams(t *testing.T) {
	for _, c := range []struct {
		p      api.Params
		length int // of the data
		filled bool
	}{
		{params(1, 0, 1, 1), 3, true}, {params(1, 0, 2, 1), 3, false}, {params(1, 2, 1, 2), 1, true}, {params(1, 254, 2, 3), 1, false}, {params(255, 0, 64, 16), 4096, false},
		{params(254, 1, 1, 3), 254, true}, {params(254, 1, 1, 3), 253, false}, {params(3, 2, 64, 1), 192, true}, {params(3, 2, 64, 1), 193, false}, {params(128, 127, 1, 2), 100, false},
	} {
		what := fmt.Sprintf("%+v, %d bytes", c.p, c.length)
		sorted := objects("x", strings.Repeat("x", c.length))
		list, right := listOf(c.p, sorted), blocksOf(c.p, sorted)
		stripes := len(right) / (c.p.K + c.p.M)
		longer := objects("x", strings.Repeat("x", stripes*c.p.K*c.p.Chunk))
		volumes, root := volumesOf(c.p, list, blocksOf(c.p, longer))
		want := api.Report{Forged: []int{stripes - 1}}
		if c.filled {
			want = api.Report{}
		}
		checkReport(t, what, opened(t, volumes, root), want)
		if c.p.M > 0 {
			right[len(right)-1] = turned(right[len(right)-1], 0)
			volumes, root = volumesOf(c.p, list, right)
			checkReport(t, what+", another last block", opened(t, volumes, root), api.Report{Forged: []int{stripes - 1}})
		}
	}
}

// forge: blocks of which some are another, or that have something behind the data.
func forge(random *rand.Rand, p api.Params, sorted []api.Object) []string {
	stream := ""
	for _, object := range sorted {
		stream += object.Data
	}
	if room := (p.K*p.Chunk - len(stream)%(p.K*p.Chunk)) % (p.K * p.Chunk); room > 0 && random.Intn(3) == 0 {
		stream += strings.Repeat("\x00", random.Intn(room)) + "\x01"
	}
	blocks := blocksOf(p, objects("all", stream))
	if len(blocks) > 0 && random.Intn(2) == 0 {
		for range random.Intn(4) {
			number := random.Intn(len(blocks))
			blocks[number] = turned(blocks[number], random.Intn(p.Chunk))
		}
	}
	return blocks
}

// damage: some volumes, in any order, some of their blocks zeroed, turned or cut off; and what is there of each block.
func damage(random *rand.Rand, p api.Params, volumes, blocks []string) (list []string, absent []int, there []string) {
	there = make([]string, len(blocks))
	for v, volume := range volumes {
		first, end := v*len(blocks)/p.Volumes, (v+1)*len(blocks)/p.Volumes
		if random.Intn(5) == 0 && (len(list) > 0 || v < len(volumes)-1) {
			absent = append(absent, v)
			continue
		}
		text := []byte(volume)
		start := len(text) - (end-first)*p.Chunk
		for b := first; b < end; b++ {
			block := text[start+(b-first)*p.Chunk:][:p.Chunk]
			switch random.Intn(8) {
			case 0:
				clear(block)
			case 1:
				block[random.Intn(p.Chunk)] ^= 4
			}
			there[b] = string(block)
		}
		if random.Intn(3) == 0 {
			text = text[:start+random.Intn(len(text)-start+1)]
			for b := first + (len(text)-start)/p.Chunk; b < end; b++ {
				there[b] = ""
			}
		}
		list = append(list, string(text))
	}
	return shuffled(random, list), absent, there
}

// TestVerifyAny: P14 against its words, for vaults that were damaged, forged, or both.
func TestVerifyAny(t *testing.T) {
	random := rand.New(rand.NewSource(51))
	whole, short, forged := 0, 0, 0
	for range 400 {
		p, list := anyVault(random)
		sorted := sortedByName(list)
		blocks := forge(random, p, sorted)
		volumes, root := volumesOf(p, listOf(p, sorted), blocks)
		var leaves []string
		for _, block := range blocks {
			leaves = append(leaves, sha("\x00"+block))
		}
		total := 0
		for _, object := range sorted {
			total += len(object.Data)
		}
		kept, absent, there := damage(random, p, volumes, blocks)
		want := api.Report{Absent: absent}
		want.Bad, want.Short, want.Forged = findingsOf(p, total, leaves, there)
		checkReport(t, fmt.Sprintf("%+v, %d blocks", p, len(blocks)), opened(t, kept, root), want)
		if len(blocks) > 0 {
			short += len(want.Short)
			forged += len(want.Forged)
			whole += len(blocks)/(p.K+p.M) - len(want.Short) - len(want.Forged)
		}
	}
	if whole < 50 || short < 50 || forged < 50 {
		t.Errorf("too few of one kind: %d stripes are whole, %d short, %d forged", whole, short, forged)
	}
}

// changed: what is to be read of a volume that was changed anywhere, and made to hold together again if it can be.
func changed(random *rand.Rand, volume string) *reading {
	text := spoiled(random, volume)
	for range 3 {
		text = mended(text)
	}
	return readingOf(text)
}

// found: the leaves of all blocks that a volume tells, and those blocks that it has whole, by their numbers.
func (r *reading) found() (leaves, there []string) {
	leaves = pieces(r.leaves)
	there = make([]string, len(leaves))
	for b, blocks := r.v*len(leaves)/r.p.Volumes, r.text[r.place:]; len(blocks) >= r.p.Chunk; b++ {
		there[b], blocks = blocks[:r.p.Chunk], blocks[r.p.Chunk:]
	}
	return leaves, there
}

// TestVerifyOne: P1, P14: a volume that was changed anywhere, if it can be read.
func TestVerifyOne(t *testing.T) {
	random := rand.New(rand.NewSource(52))
	for range 60 {
		p, list := anyVault(random)
		volumes, _ := packed(t, p, list)
		for range 30 {
			r := changed(random, volumes[random.Intn(len(volumes))])
			if r.mark.Kind != 0 {
				continue
			}
			leaves, there := r.found()
			want := api.Report{Absent: slices.Delete(upTo(r.p.Volumes), r.v, r.v+1)}
			want.Bad, want.Short, want.Forged = findingsOf(r.p, r.total, leaves, there)
			checkReport(t, fmt.Sprintf("%x", r.text), opened(t, []string{r.text}, ""), want)
		}
	}
}
