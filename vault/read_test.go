package vault_test

import (
	"encoding/binary"
	"fmt"
	"math"
	"math/rand"
	"slices"
	"strings"
	"testing"

	"vault/api"
	"vault/vault"
)

// part: a field of a volume.
type part struct{ what, text string }

func number(n int) string { return string(binary.AppendUvarint(nil, uint64(n))) }

// partsOf: the fields of volume v, by the section Words, of objects in the order of their names.
func partsOf(p api.Params, objects []api.Object, v int) []part {
	blocks := blocksOf(p, objects)
	leaves, own := "", ""
	for i, block := range blocks {
		leaves += sha("\x00" + block)
		if i >= v*len(blocks)/p.Volumes && i < (v+1)*len(blocks)/p.Volumes {
			own += block
		}
	}
	parts := []part{
		{"VOL1", "VOL1"}, {"root", ""}, {"VLT1", "VLT1"}, {"K", number(p.K)}, {"M", number(p.M)}, {"Chunk", number(p.Chunk)}, {"Volumes", number(p.Volumes)}, {"objects", number(len(objects))},
	}
	for i, object := range objects {
		parts = append(parts, part{fmt.Sprint("name length ", i), number(len(object.Name))}, part{fmt.Sprint("name ", i), object.Name}, part{fmt.Sprint("data length ", i), number(len(object.Data))})
	}
	return sealed(append(parts, part{"v", number(v)}, part{"leaves", leaves}, part{"check", ""}, part{"blocks", own}))
}

// sealed: the same fields, the root and the check as they must be.
func sealed(parts []part) []part {
	parts = slices.Clone(parts)
	list, leaves := textOf(parts[find(parts, "VLT1"):find(parts, "v")]), parts[find(parts, "leaves")].text
	parts[find(parts, "root")].text = sha("\x02" + list + topOf(pieces(leaves)))
	return checked(parts)
}

// checked: the same fields, the check as it must be.
func checked(parts []part) []part {
	parts = slices.Clone(parts)
	at := find(parts, "check")
	parts[at].text = sha("\x03" + textOf(parts[:at]))
	return parts
}

// change: the same fields, but for one.
func change(parts []part, what, text string) []part {
	parts = slices.Clone(parts)
	parts[find(parts, what)].text = text
	return parts
}

func pieces(leaves string) []string {
	var list []string
	for ; len(leaves) >= 32; leaves = leaves[32:] {
		list = append(list, leaves[:32])
	}
	return list
}

func find(parts []part, what string) int {
	for i := range parts {
		if parts[i].what == what {
			return i
		}
	}
	panic("no field " + what + " in the test")
}

func textOf(parts []part) string {
	text := ""
	for _, part := range parts {
		text += part.text
	}
	return text
}

func placeOf(parts []part, what string) int { return len(textOf(parts[:find(parts, what)])) }

// turned: a text with another byte at a place.
func turned(text string, place int) string {
	return text[:place] + string([]byte{text[place] ^ 1}) + text[place+1:]
}

// checkUnread: P11, P12: a volume, opened alone, fails with that kind at that place.
func checkUnread(t *testing.T, what, volume string, kind api.Kind, where int) {
	t.Helper()
	opened, err := vault.Open([]string{volume}, "")
	checkFaults(t, "P11: "+what, err, at(api.ErrEmpty, 1), at(api.ErrHeader, 0), at(kind, where))
	if opened != nil {
		t.Errorf("P12: %s: refused, and yet a Vault", what)
	}
}

// checkRead: P11: a volume can be read.
func checkRead(t *testing.T, what, volume string) {
	t.Helper()
	if opened, err := vault.Open([]string{volume}, ""); opened == nil || err != nil {
		t.Errorf("P11: %s: %v, want a Vault", what, err)
	}
}

// small: the vault of most tests of reading: the second volume of three, in each a block of four bytes.
func small() []part {
	return partsOf(params(2, 1, 4, 3), objects("a", "", "b", "hello"), 1)
}

// TestParts: the fields of these tests are those of the volumes.
func TestParts(t *testing.T) {
	for _, c := range edges() {
		volumes, _ := packed(t, c.p, c.objects)
		for v, volume := range volumes {
			if textOf(partsOf(c.p, sortedByName(c.objects), v)) != volume {
				t.Errorf("%s: other fields than those of volume %d", c.what, v)
			}
		}
	}
}

// TestReadCutOff: P11: of whatever field there is not enough, it is told; of the blocks bytes may be missing.
func TestReadCutOff(t *testing.T) {
	for _, parts := range [][]part{
		small(),
		partsOf(params(2, 1, 4, 3), objects("a", "", "b", "hello"), 2),
		partsOf(params(1, 0, 4, 1), nil, 0),
		partsOf(params(1, 0, 4, 1), objects("x", ""), 0),
		partsOf(params(130, 120, 1, 16), objects("some name", "x", strings.Repeat("z", 200), strings.Repeat("y", 129)), 15),
	} {
		text := textOf(parts)
		for length := range len(text) + 1 {
			if length >= placeOf(parts, "blocks") {
				checkRead(t, fmt.Sprint("the first bytes, ", length), text[:length])
				continue
			}
			place, end := 0, 0
			for _, part := range parts {
				if end = place + len(part.text); end > length {
					break
				}
				place = end
			}
			checkUnread(t, fmt.Sprint("the first bytes alone, ", length), text[:length], api.ErrCode, place)
		}
	}
}

// numbers: the fields of small() that are numbers.
func numbers() []string {
	return []string{"K", "M", "Chunk", "Volumes", "objects", "name length 0", "data length 0", "name length 1", "data length 1", "v"}
}

// TestReadVarints: P11: what is no varint of a number below 2 to the 32, or a longer one than it need be.
func TestReadVarints(t *testing.T) {
	for _, what := range numbers() {
		parts := small()
		right, place := parts[find(parts, what)].text, placeOf(parts, what)
		for _, text := range []string{
			"\x80\x00", "\x80\x80\x00", "\x80\x80\x80\x80\x00", "\x80\x80\x80\x80\x80\x00",
			string([]byte{right[0] | 0x80}) + "\x00", string([]byte{right[0] | 0x80}) + "\x80\x80\x80\x00",
			string([]byte{right[0] | 0x80}) + "\x80\x80\x80\x10", string([]byte{right[0] | 0x80}) + "\x80\x80\x80\x80\x01", string([]byte{right[0] | 0x80}) + "\x80\x80\x80\x80\x80\x80\x80\x80\x01",
			"\x80\x80\x80\x80\x10", "\xff\xff\xff\xff\x0f", "\xff\xff\xff\xff\x7f", "\xff\xff\xff\xff\xff\xff\xff\xff\xff\x01", strings.Repeat("\x80", 40), strings.Repeat("\xff", 40),
		} {
			checkUnread(t, fmt.Sprintf("%s is %x", what, text), textOf(sealed(change(parts, what, text))), api.ErrCode, place)
		}
		for _, text := range []string{"\x80", "\xff\xff", "\x80\x80\x80\x80", "\xff\xff\xff\xff\xff"} {
			ahead := textOf(parts[:find(parts, what)])
			checkUnread(t, fmt.Sprintf("%s is %x, and there it ends", what, text), ahead+text, api.ErrCode, place)
		}
	}
}

// TestReadBounds: P11: each number beyond its bounds.
func TestReadBounds(t *testing.T) {
	for _, c := range []struct {
		what    string
		numbers []int
	}{
		{"K", []int{0, 256, 258, 1<<16 + 2, 1 << 31, math.MaxUint32}},
		{"M", []int{254, 255, 256, 257, 1<<16 + 1, 1 << 31, math.MaxUint32}},
		{"Chunk", []int{0, 65, 260, 1<<16 + 4, 1 << 31, math.MaxUint32}},
		{"Volumes", []int{0, 17, 259, 1<<16 + 3, 1 << 31, math.MaxUint32}},
		{"objects", []int{17, 258, 1<<16 + 2, 1 << 31, math.MaxUint32}},
		{"name length 0", []int{0, 256, 257, 1<<16 + 1, 1 << 31, math.MaxUint32}},
		{"name length 1", []int{0, 256, 257, 1<<16 + 1, 1 << 31, math.MaxUint32}},
		{"data length 0", []int{4097, 1 << 16, 1 << 31, math.MaxUint32}},
		{"data length 1", []int{4097, 1<<16 + 5, 1 << 31, math.MaxUint32}},
		{"v", []int{3, 4, 257, 1<<16 + 1, 1 << 31, math.MaxUint32}},
	} {
		for _, n := range c.numbers {
			parts := small()
			checkUnread(t, fmt.Sprintf("%s is %d", c.what, n), textOf(sealed(change(parts, c.what, number(n)))), api.ErrCode, placeOf(parts, c.what))
		}
	}
	for _, p := range []api.Params{params(1, 255, 4, 3), params(254, 2, 4, 3), params(255, 1, 4, 3), params(128, 128, 4, 3)} {
		parts := sealed(change(change(small(), "K", number(p.K)), "M", number(p.M)))
		checkUnread(t, fmt.Sprintf("%+v", p), textOf(parts), api.ErrCode, placeOf(parts, "M"))
	}
	parts := partsOf(params(1, 0, 64, 1), many(1, 0), 0)
	checkUnread(t, "v is 1, with one volume", textOf(sealed(change(parts, "v", "\x01"))), api.ErrCode, placeOf(parts, "v"))
}

// TestReadLengths: P11: the data of all objects so far, together.
func TestReadLengths(t *testing.T) {
	for _, c := range []struct {
		lengths []int
		wrong   int // the object whose length is too much, or -1
	}{
		{[]int{4096}, -1}, {[]int{4097}, 0}, {[]int{4095, 1}, -1}, {[]int{4095, 2}, 1}, {[]int{4096, 1}, 1}, {[]int{4096, 0, 0}, -1}, {[]int{0, 0, 4097}, 2},
		{[]int{2000, 2000, 96}, -1}, {[]int{2000, 2000, 97}, 2}, {[]int{2000, 2000, 97, 4096}, 2}, {[]int{2000, 2097, 0}, 1}, {[]int{4096, 4096}, 1},
	} {
		var list []api.Object
		for i, length := range c.lengths {
			list = append(list, api.Object{Name: string([]byte{byte('a' + i)}), Data: strings.Repeat("x", length)})
		}
		parts := partsOf(params(3, 1, 64, 2), list, 1)
		if c.wrong < 0 {
			checkRead(t, fmt.Sprint("lengths of data ", c.lengths), textOf(parts))
		} else {
			checkUnread(t, fmt.Sprint("lengths of data ", c.lengths), textOf(parts), api.ErrCode, placeOf(parts, fmt.Sprint("data length ", c.wrong)))
		}
	}
}

// TestReadNames: P11: each name behind the one before it, by bytes.
func TestReadNames(t *testing.T) {
	long := strings.Repeat("n", api.MaxName)
	for _, c := range []struct {
		names []string
		wrong int // the name that is wrong, or -1
	}{
		{[]string{"a", "b", "c"}, -1}, {[]string{"a", "a"}, 1}, {[]string{"b", "a"}, 1}, {[]string{"a", "c", "b"}, 2}, {[]string{"b", "c", "a"}, 2}, {[]string{"a", "b", "b", "a"}, 2},
		{[]string{"a", "aa", "ab", "b"}, -1}, {[]string{"aa", "a"}, 1}, {[]string{"a", "a\x00", "a\x01"}, -1}, {[]string{"a\x00", "a"}, 1}, {[]string{"\x00", "\x00\x00"}, -1},
		{[]string{"B", "a", "z", "é", "\xff"}, -1}, {[]string{"é", "z"}, 1}, {[]string{"\xff", "\x7f"}, 1}, {[]string{"a", "B"}, 1}, {[]string{"\x80", "\xff", "\x00"}, 2},
		{[]string{long[:254], long}, -1}, {[]string{long, long[:254]}, 1}, {[]string{long, long}, 1}, {[]string{"z", long}, 1},
	} {
		var list []api.Object
		for _, name := range c.names {
			list = append(list, api.Object{Name: name, Data: "x"})
		}
		parts := partsOf(params(3, 1, 64, 2), list, 1)
		if c.wrong < 0 {
			checkRead(t, fmt.Sprintf("names %.20q", c.names), textOf(parts))
		} else {
			checkUnread(t, fmt.Sprintf("names %.20q", c.names), textOf(parts), api.ErrCode, placeOf(parts, fmt.Sprint("name ", c.wrong)))
		}
	}
}

// TestReadTooManyBlocks: P11: counted with their parity and by whole stripes, and told at the place of v, whatever stands there.
func TestReadTooManyBlocks(t *testing.T) {
	for _, c := range []struct {
		p      api.Params
		length int
		wrong  bool
	}{
		{params(1, 0, 1, 3), 512, false}, {params(1, 0, 1, 3), 513, true}, {params(1, 1, 1, 3), 256, false}, {params(1, 1, 1, 3), 257, true}, {params(1, 0, 8, 3), 4096, false}, {params(1, 0, 7, 3), 4096, true},
		{params(255, 0, 1, 3), 510, false}, {params(255, 0, 1, 3), 511, true}, {params(1, 254, 64, 3), 128, false}, {params(1, 254, 64, 3), 129, true}, {params(1, 254, 1, 3), 4096, true},
	} {
		what := fmt.Sprintf("%+v, %d bytes", c.p, c.length)
		// Where the blocks are too many nobody asks for what they are.
		list := objects("a", strings.Repeat("x", c.length))
		if !c.wrong {
			checkRead(t, what, textOf(partsOf(c.p, list, 1)))
			continue
		}
		parts := change(partsOf(c.p, objects("a", ""), 1), "data length 0", number(c.length))
		place := placeOf(parts, "v")
		checkUnread(t, what, textOf(sealed(parts)), api.ErrCode, place)
		checkUnread(t, what+", and all leaves", textOf(sealed(change(parts, "leaves", strings.Repeat("leaf", 8*600)))), api.ErrCode, place)
		checkUnread(t, what+", and no v", textOf(parts)[:place], api.ErrCode, place)
		checkUnread(t, what+", and a wrong v", textOf(sealed(change(parts, "v", "\x03"))), api.ErrCode, place)
		checkUnread(t, what+", and no leaves", textOf(parts)[:place+1], api.ErrCode, place)
	}
}

// TestReadMarks: P11: another word where VOL1 or VLT1 has to stand.
func TestReadMarks(t *testing.T) {
	for _, what := range []string{"VOL1", "VLT1"} {
		parts := small()
		for i := range 4 {
			checkUnread(t, what+" with another byte", textOf(sealed(change(parts, what, turned(what, i)))), api.ErrCode, placeOf(parts, what))
		}
		for _, text := range []string{"", "VOL2", "vol1", "vlt1", "1LOV", "\x00\x00\x00\x00", " " + what} {
			checkUnread(t, what+" is "+text, textOf(sealed(change(parts, what, text))), api.ErrCode, placeOf(parts, what))
		}
	}
	parts := small()
	checkUnread(t, "the words the wrong way round", textOf(sealed(change(change(parts, "VOL1", "VLT1"), "VLT1", "VOL1"))), api.ErrCode, 0)
}

// TestReadCheck: P11: a check that is not the digest of the byte 3 and of all ahead of it.
func TestReadCheck(t *testing.T) {
	parts := small()
	text, place := textOf(parts), placeOf(parts, "check")
	// Bytes that no field is wrong for.
	free := []int{placeOf(parts, "v")}
	for _, what := range []string{"root", "leaves", "check"} {
		for i := range parts[find(parts, what)].text {
			free = append(free, placeOf(parts, what)+i)
		}
	}
	for _, i := range free {
		checkUnread(t, fmt.Sprint("another byte at ", i), turned(text, i), api.ErrCheck, place)
	}
	for _, told := range []string{
		"\x02" + text[:place], "\x00" + text[:place], text[:place], "\x03" + text[:place] + "\x00", "\x03" + text[4:place], "\x03" + text[:place-1], "\x03" + text, text[:place] + "\x03",
	} {
		checkUnread(t, "the digest of something else", textOf(change(parts, "check", sha(told))), api.ErrCheck, place)
	}
	checkUnread(t, "the check of another volume", textOf(change(parts, "check", partsOf(params(2, 1, 4, 3), objects("a", "", "b", "hello"), 2)[find(parts, "check")].text)), api.ErrCheck, place)
	checkUnread(t, "another name", textOf(change(parts, "name 1", "c")), api.ErrCheck, place)
	for i := range 4 {
		checkRead(t, "another byte of a block", turned(text, len(text)-1-i))
	}
}

// TestReadRoot: P11: a root that is not that of the list and the leaves.
func TestReadRoot(t *testing.T) {
	parts := small()
	root, leaves := parts[find(parts, "root")].text, parts[find(parts, "leaves")].text
	list := textOf(parts[find(parts, "VLT1"):find(parts, "v")])
	for i := range root {
		checkUnread(t, fmt.Sprint("another byte of the root, ", i), textOf(checked(change(parts, "root", turned(root, i)))), api.ErrRoot, 4)
	}
	for i := range leaves {
		checkUnread(t, fmt.Sprint("another byte of the leaves, ", i), textOf(checked(change(parts, "leaves", turned(leaves, i)))), api.ErrRoot, 4)
	}
	checkUnread(t, "leaves in another order", textOf(checked(change(parts, "leaves", leaves[32:]+leaves[:32]))), api.ErrRoot, 4)
	checkUnread(t, "another name", textOf(checked(change(parts, "name 1", "c"))), api.ErrRoot, 4)
	checkUnread(t, "another length", textOf(checked(change(parts, "data length 1", "\x06"))), api.ErrRoot, 4)
	top := topOf(pieces(leaves))
	for _, told := range []string{
		"\x03" + list + top, list + top, "\x02" + top, "\x02" + list, "\x02" + top + list, "\x02" + list + leaves, "\x02" + list + sha(leaves), "\x02" + list + sha(""),
	} {
		checkUnread(t, "the digest of something else", textOf(checked(change(parts, "root", sha(told)))), api.ErrRoot, 4)
	}
	none := partsOf(params(1, 0, 4, 1), nil, 0)
	list = textOf(none[find(none, "VLT1"):find(none, "v")])
	checkUnread(t, "no leaves, and the root of something else", textOf(checked(change(none, "root", sha("\x02"+list)))), api.ErrRoot, 4)
	checkRead(t, "the root", textOf(checked(change(none, "root", sha("\x02"+list+sha(""))))))
	// The number of a volume is no part of what the root is made of.
	checkRead(t, "another v, and the check anew", textOf(checked(change(change(parts, "v", "\x02"), "blocks", ""))))
}

// TestReadBehind: P11: bytes behind the last one that belongs to a volume; and the greatest length.
func TestReadBehind(t *testing.T) {
	for _, c := range []struct {
		what  string
		parts []part
	}{
		{"a block in each volume", small()},
		{"nothing at all", partsOf(params(1, 0, 4, 1), nil, 0)},
		{"an object without data", partsOf(params(3, 2, 4, 16), objects("x", ""), 15)},
		{"a volume without a block", partsOf(params(1, 0, 64, 2), objects("x", "y"), 0)},
		{"several blocks", partsOf(params(3, 2, 5, 2), objects("x", strings.Repeat("y", 100)), 0)},
		{"MaxBlocks blocks of MaxChunk bytes", partsOf(params(1, 7, 64, 1), objects("x", strings.Repeat("y", 4096)), 0)},
	} {
		text := textOf(c.parts)
		checkRead(t, c.what, text)
		for _, more := range []int{1, 2, 32, 64, 65, api.MaxVolume - len(text)} {
			checkUnread(t, fmt.Sprint(c.what, ", and more, ", more), text+strings.Repeat("\x00", more), api.ErrCode, len(text))
		}
		for _, length := range []int{api.MaxVolume + 1, api.MaxVolume + 2, 3 * api.MaxVolume} {
			checkUnread(t, fmt.Sprint(c.what, ", in all ", length), text+strings.Repeat("\x00", length-len(text)), api.ErrBig, length)
		}
	}
}

// TestReadFirst: P1, P11: where a volume is wrong in several ways it is told which comes first.
func TestReadFirst(t *testing.T) {
	parts := small()
	text, check := textOf(parts), placeOf(parts, "check")
	otherRoot := strings.Repeat("r", 32)
	big := strings.Repeat("\x00", api.MaxVolume+1)
	for _, c := range []struct {
		what, text string
		kind       api.Kind
		where      int
	}{
		{"too great, and nothing else right", big, api.ErrBig, len(big)},
		{"too great, and the check wrong", turned(text, check) + big, api.ErrBig, len(text) + len(big)},
		{"of the greatest length, and nothing else right", big[1:], api.ErrCode, 0},
		{"VOL1 and K wrong", textOf(sealed(change(change(parts, "VOL1", "VOL2"), "K", "\x00"))), api.ErrCode, 0},
		{"VLT1 and K wrong", textOf(sealed(change(change(parts, "VLT1", "VLT2"), "K", "\x00"))), api.ErrCode, 36},
		{"K and M wrong", textOf(sealed(change(change(parts, "K", "\x00"), "M", "\x80\x00"))), api.ErrCode, 40},
		{"M and Chunk wrong", textOf(sealed(change(change(parts, "M", "\x80\x00"), "Chunk", "\x00"))), api.ErrCode, 41},
		{"Chunk and Volumes wrong", textOf(sealed(change(change(parts, "Chunk", "\x00"), "Volumes", "\x00"))), api.ErrCode, 42},
		{"Volumes and objects wrong", textOf(sealed(change(change(parts, "Volumes", "\x00"), "objects", "\x11"))), api.ErrCode, 43},
		{"objects and a name length wrong", textOf(sealed(change(change(parts, "objects", "\x11"), "name length 0", "\x00"))), api.ErrCode, 44},
		{"a name and the length of its data wrong", textOf(sealed(change(change(parts, "name 1", "a"), "data length 1", "\x80\x00"))), api.ErrCode, placeOf(parts, "name 1")},
		{"K wrong, and the check", textOf(change(parts, "K", "\x00")), api.ErrCode, 40},
		{"v wrong, and the root", textOf(checked(change(change(parts, "v", "\x03"), "root", otherRoot))), api.ErrCode, placeOf(parts, "v")},
		{"no check, and the root wrong", textOf(change(parts, "root", otherRoot))[:check+31], api.ErrCode, check},
		{"check and root wrong", textOf(change(parts, "root", otherRoot)), api.ErrCheck, check},
		{"check wrong, and bytes behind", turned(text, check) + "\x00", api.ErrCheck, check},
		{"check wrong, and the blocks cut off", turned(text, check)[:check+33], api.ErrCheck, check},
		{"root wrong, and bytes behind", textOf(checked(change(parts, "root", otherRoot))) + "\x00", api.ErrRoot, 4},
	} {
		checkUnread(t, c.what, c.text, c.kind, c.where)
	}
}

// reading: what P11 says of a volume, word by word.
type reading struct {
	text, list, leaves string
	p                  api.Params
	total, v           int      // bytes of data, and the volume's number
	place              int      // behind what was read so far
	mark               api.Mark // its kind is 0 if the volume can be read
}

func readingOf(text string) (r *reading) {
	r = &reading{text: text}
	defer func() {
		if failed, ok := recover().(api.Mark); ok {
			r.mark = failed
		}
	}()
	if len(text) > 60000 {
		panic(at(api.ErrBig, len(text)))
	}
	r.expect(r.take(0, 4) == "VOL1", api.ErrCode, 0)
	root := r.take(4, 32)
	r.readList()
	p := r.p
	r.list = text[36:r.place]
	place := r.place
	r.v = r.number(0, p.Volumes-1)
	stripes := (r.total + p.K*p.Chunk - 1) / (p.K * p.Chunk)
	blocks := stripes * (p.K + p.M)
	r.expect(blocks <= 512, api.ErrCode, place)
	r.leaves = r.take(r.place, 32*blocks)
	place = r.place
	check := r.take(place, 32)
	r.expect(check == sha("\x03"+text[:place]), api.ErrCheck, place)
	r.expect(root == sha("\x02"+r.list+topOf(pieces(r.leaves))), api.ErrRoot, 4)
	size := 0
	for b := range blocks {
		if b >= r.v*blocks/p.Volumes && b < (r.v+1)*blocks/p.Volumes {
			size += p.Chunk
		}
	}
	r.expect(len(text) <= r.place+size, api.ErrCode, r.place+size)
	return r
}

func (r *reading) readList() {
	place := r.place
	r.expect(r.take(place, 4) == "VLT1", api.ErrCode, place)
	r.p.K = r.number(1, 255)
	r.p.M = r.number(0, 255-r.p.K)
	r.p.Chunk = r.number(1, 64)
	r.p.Volumes = r.number(1, 16)
	var names []string
	for range r.number(0, 16) {
		length := r.number(1, 255)
		place = r.place
		names = append(names, r.take(place, length))
		r.expect(slices.IsSorted(names) && len(slices.Compact(slices.Clone(names))) == len(names), api.ErrCode, place)
		r.total += r.number(0, 4096-r.total)
	}
}

func (r *reading) expect(right bool, kind api.Kind, where int) {
	if !right {
		panic(at(kind, where))
	}
}

func (r *reading) take(place, count int) string {
	r.expect(len(r.text) >= place+count, api.ErrCode, place)
	r.place = place + count
	return r.text[place:r.place]
}

func (r *reading) number(least, greatest int) int {
	n, size := binary.Uvarint([]byte(r.text[r.place:]))
	r.expect(size > 0 && n >= uint64(least) && n <= uint64(greatest), api.ErrCode, r.place)
	r.expect(len(number(int(n))) == size, api.ErrCode, r.place)
	r.place += size
	return int(n)
}

// spoiled: a text with some bytes changed, left out or put in.
func spoiled(random *rand.Rand, text string) string {
	for range 1 + random.Intn(2) {
		// Mostly among the fields of the list: there the most can be wrong.
		place := random.Intn(len(text) + 1)
		if random.Intn(3) > 0 {
			place = random.Intn(min(len(text), 80) + 1)
		}
		end := min(len(text), place+random.Intn(3))
		some := randomBlocks(random, 1, random.Intn(3))[0]
		if random.Intn(2) == 0 {
			some = number(random.Intn(1 << random.Intn(14)))
		}
		switch random.Intn(3) {
		case 0:
			text = text[:place] + some + text[end:]
		case 1:
			text = text[:place] + some + text[place:]
		default:
			text = text[:place] + text[end:]
		}
	}
	return text
}

// mended: a volume whose check or root is wrong, with the right one.
func mended(text string) string {
	r := readingOf(text)
	switch r.mark.Kind {
	case api.ErrCheck:
		place := r.mark.Where
		return text[:place] + sha("\x03"+text[:place]) + text[place+32:]
	case api.ErrRoot:
		return mended("VOL1" + sha("\x02"+r.list+topOf(pieces(r.leaves))) + text[36:])
	}
	return text
}

// TestReadAny: P11 against its words, for volumes that are wrong somewhere.
func TestReadAny(t *testing.T) {
	random := rand.New(rand.NewSource(31))
	counts := map[api.Kind]int{}
	for range 60 {
		p, list := anyVault(random)
		volumes, _ := packed(t, p, list)
		for range 100 {
			text := spoiled(random, volumes[random.Intn(len(volumes))])
			for range random.Intn(3) {
				text = mended(text)
			}
			mark := readingOf(text).mark
			counts[mark.Kind]++
			if mark.Kind == 0 {
				checkRead(t, fmt.Sprintf("%x", text), text)
			} else {
				checkUnread(t, fmt.Sprintf("%x", text), text, mark.Kind, mark.Where)
			}
		}
	}
	for _, kind := range []api.Kind{0, api.ErrCode, api.ErrCheck, api.ErrRoot} {
		if counts[kind] < 100 {
			t.Errorf("only %d texts for the kind %d", counts[kind], kind)
		}
	}
}
