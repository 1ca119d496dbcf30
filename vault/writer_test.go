package vault_test

import (
	"encoding/binary"
	"fmt"
	"math/rand"
	"runtime"
	"slices"
	"strings"
	"sync"
	"sync/atomic"
	"testing"
	"unsafe"

	"vault/api"
	"vault/vault"
)

func params(k, m, chunk, volumes int) api.Params {
	return api.Params{K: k, M: m, Chunk: chunk, Volumes: volumes}
}

// objects: of a name, its data, the next name, ..
func objects(texts ...string) []api.Object {
	var list []api.Object
	for i := 0; i < len(texts); i += 2 {
		list = append(list, api.Object{Name: texts[i], Data: texts[i+1]})
	}
	return list
}

// listOf, blocksOf, volumesOf: by the section Words, of objects in the order of their names.
func listOf(p api.Params, objects []api.Object) string {
	list := []byte("VLT1")
	for _, number := range []int{p.K, p.M, p.Chunk, p.Volumes, len(objects)} {
		list = binary.AppendUvarint(list, uint64(number))
	}
	for _, object := range objects {
		list = binary.AppendUvarint(list, uint64(len(object.Name)))
		list = append(list, object.Name...)
		list = binary.AppendUvarint(list, uint64(len(object.Data)))
	}
	return string(list)
}

func blocksOf(p api.Params, objects []api.Object) []string {
	stream := ""
	for _, object := range objects {
		stream += object.Data
	}
	for len(stream)%(p.K*p.Chunk) != 0 {
		stream += "\x00"
	}
	var blocks []string
	for stream != "" {
		var data []string
		for range p.K {
			data, stream = append(data, stream[:p.Chunk]), stream[p.Chunk:]
		}
		blocks = append(blocks, data...)
		for j := range p.M {
			blocks = append(blocks, blockAt(upTo(p.K), data, p.K+j))
		}
	}
	return blocks
}

func volumesOf(p api.Params, list string, blocks []string) ([]string, string) {
	var leaves []string
	for _, block := range blocks {
		leaves = append(leaves, sha("\x00"+block))
	}
	root := sha("\x02" + list + topOf(leaves))
	var volumes []string
	for v := range p.Volumes {
		volume := "VOL1" + root + list + string([]byte{byte(v)}) + strings.Join(leaves, "")
		volume += sha("\x03" + volume)
		for number, block := range blocks {
			if number >= v*len(blocks)/p.Volumes && number < (v+1)*len(blocks)/p.Volumes {
				volume += block
			}
		}
		volumes = append(volumes, volume)
	}
	return volumes, root
}

func newWriter(t *testing.T, p api.Params) *vault.Writer {
	t.Helper()
	writer, err := vault.NewWriter(p)
	if writer == nil || err != nil {
		t.Fatalf("P7: NewWriter(%+v) = %v, %v", p, writer, err)
	}
	return writer
}

func begin(t *testing.T, writer *vault.Writer, name string) {
	t.Helper()
	if err := writer.Begin(name); err != nil {
		t.Fatalf("P8: Begin(%.20q) = %v", name, err)
	}
}

func write(t *testing.T, writer *vault.Writer, data string) {
	t.Helper()
	if n, err := writer.Write(data); n != len(data) || err != nil {
		t.Fatalf("P9: Write(%d bytes) = %d, %v", len(data), n, err)
	}
}

func closed(t *testing.T, writer *vault.Writer) ([]string, string) {
	t.Helper()
	volumes, root, err := writer.Close()
	if err != nil {
		t.Fatalf("P10: Close() = %v", err)
	}
	return volumes, root
}

// packed: what a Writer makes of the objects, in the order in which they are given.
func packed(t *testing.T, p api.Params, objects []api.Object) ([]string, string) {
	t.Helper()
	writer := newWriter(t, p)
	for _, object := range objects {
		begin(t, writer, object.Name)
		if object.Data != "" {
			write(t, writer, object.Data)
		}
	}
	return closed(t, writer)
}

func sortedByName(objects []api.Object) []api.Object {
	return slices.SortedFunc(slices.Values(objects), func(a, b api.Object) int { return strings.Compare(a.Name, b.Name) })
}

// checkVolumes: the volumes and the root of these objects are those that the section Words tells.
func checkVolumes(t *testing.T, call string, p api.Params, objects []api.Object, volumes []string, root string) {
	t.Helper()
	sorted := sortedByName(objects)
	wanted, wantedRoot := volumesOf(p, listOf(p, sorted), blocksOf(p, sorted))
	if root != wantedRoot {
		t.Errorf("P10: %s: the root is %x, want %x", call, root, wantedRoot)
	}
	if len(volumes) != len(wanted) {
		t.Fatalf("P10: %s: %d volumes, want %d", call, len(volumes), len(wanted))
	}
	for v := range volumes {
		if volumes[v] != wanted[v] {
			t.Errorf("P10: %s: volume %d is %.300x, want %.300x", call, v, volumes[v], wanted[v])
		}
	}
}

// TestCloseExamples: P10, with the lists and blocks that the section Examples writes out.
func TestCloseExamples(t *testing.T) {
	for _, c := range []struct {
		p       api.Params
		objects []api.Object
		list    string
		blocks  []string
	}{
		{params(1, 0, 4, 1), nil, "VLT1\x01\x00\x04\x01\x00", nil},
		{
			params(2, 1, 4, 3), objects("b", "hello", "a", ""), "VLT1\x02\x01\x04\x03\x02\x01a\x00\x01b\x05",
			[]string{"hell", "o\x00\x00\x00", blockAt([]int{0, 1}, []string{"hell", "o\x00\x00\x00"}, 2)},
		},
		{
			params(2, 1, 1, 2), objects("x", "\x01\x03"), "VLT1\x02\x01\x01\x02\x01\x01x\x02",
			[]string{"\x01", "\x03", "\x05"},
		},
		{
			params(1, 2, 1, 1), objects("x", "\xab\x00"), "VLT1\x01\x02\x01\x01\x01\x01x\x02",
			[]string{"\xab", "\xab", "\xab", "\x00", "\x00", "\x00"},
		},
	} {
		volumes, root := packed(t, c.p, c.objects)
		wanted, wantedRoot := volumesOf(c.p, c.list, c.blocks)
		if !slices.Equal(volumes, wanted) || root != wantedRoot {
			t.Errorf("P10: %+v, %q: %x, %x, want %x, %x", c.p, c.objects, volumes, root, wanted, wantedRoot)
		}
	}
}

// TestNothing: the bytes of the least vault, one behind the other.
func TestNothing(t *testing.T) {
	list := "VLT1\x01\x00\x04\x01\x00"
	root := sha("\x02" + list + sha(""))
	told := "VOL1" + root + list + "\x00"
	volumes, answered := packed(t, params(1, 0, 4, 1), nil)
	if !slices.Equal(volumes, []string{told + sha("\x03"+told)}) || answered != root {
		t.Errorf("P10: no object: %x, %x", volumes, answered)
	}
}

// many: so many objects with names of one byte and some data, the last name first.
func many(count, length int) []api.Object {
	var list []api.Object
	for i := count - 1; i >= 0; i-- {
		list = append(list, api.Object{Name: string([]byte{byte(16 * i)}), Data: strings.Repeat(string([]byte{byte(i)}), length)})
	}
	return list
}

// edge: a vault at one of the edges that the document names.
type edge struct {
	what    string
	p       api.Params
	objects []api.Object
}

func edges() []edge {
	random := rand.New(rand.NewSource(21))
	text := func(length int) string { return randomBlocks(random, 1, length)[0] }
	return []edge{
		{"no object", params(3, 2, 5, 4), nil},
		{"no object, all params at their least", params(1, 0, 1, 1), nil},
		{"all params at their least", params(1, 0, 1, 1), objects("x", text(9))},
		{"K at its greatest", params(255, 0, 2, 3), objects("x", text(500))},
		{"M at its greatest", params(1, 254, 2, 3), objects("x", text(3))},
		{"M at its greatest for a K", params(3, 252, 1, 2), objects("x", text(4))},
		{"Chunk at its greatest", params(3, 2, 64, 2), objects("x", text(500))},
		{"Volumes at its greatest", params(3, 2, 2, 16), objects("x", text(100))},
		{"all params at their greatest", params(255, 0, 64, 16), objects("x", text(4096))},
		{"an object without data", params(3, 2, 5, 4), objects("x", "")},
		{"objects without data among others", params(2, 1, 3, 2), objects("a", "", "b", text(7), "c", "", "d", text(2), "e", "")},
		{"a name of MaxName bytes", params(2, 1, 3, 2), objects(strings.Repeat("n", api.MaxName), text(7))},
		{"names about the end of a varint's byte", params(2, 1, 3, 2), objects(strings.Repeat("n", 127), text(7), strings.Repeat("n", 128), text(8))},
		{"lengths about the end of a varint's byte", params(2, 1, 60, 2), objects("a", text(127), "b", text(128), "c", text(129))},
		{"names by bytes", params(2, 1, 3, 2), objects("b", text(4), "a\xff", text(4), "a\x00", text(4), "a", text(4), "\xff", text(4), "B", text(4), "\x00", text(4), "é", text(4), "aa", text(4))},
		{"MaxObjects objects", params(2, 1, 3, 2), many(api.MaxObjects, 5)},
		{"MaxObjects objects without data", params(2, 1, 3, 2), many(api.MaxObjects, 0)},
		{"MaxObjects objects with the longest names", params(1, 0, 64, 1), longNames()},
		{"MaxTotal bytes in one object", params(4, 2, 64, 5), objects("x", text(api.MaxTotal))},
		{"MaxTotal bytes in all objects", params(4, 2, 64, 5), many(api.MaxObjects, api.MaxTotal/api.MaxObjects)},
		{"MaxBlocks blocks", params(1, 0, 8, 3), objects("x", text(api.MaxTotal))},
		{"MaxBlocks blocks, half of them parity", params(2, 2, 16, 16), objects("x", text(api.MaxTotal))},
		{"MaxBlocks blocks, the last one with a single byte", params(1, 0, 8, 1), objects("x", text(api.MaxTotal-7))},
		{"MaxBlocks blocks of MaxChunk", params(1, 7, 64, 1), objects("x", text(api.MaxTotal))},
		{"just below MaxBlocks", params(1, 254, 1, 7), objects("x", text(2))},
		{"data that just fills a stripe", params(3, 2, 4, 2), objects("x", text(12))},
		{"data that just fills two stripes", params(3, 2, 4, 2), objects("x", text(11), "y", text(13))},
		{"a byte less than that", params(3, 2, 4, 2), objects("x", text(11), "y", text(12))},
		{"a byte more than that", params(3, 2, 4, 2), objects("x", text(11), "y", text(14))},
		{"a single byte", params(3, 2, 4, 2), objects("x", "\xfe")},
		{"one volume", params(3, 2, 4, 1), objects("x", text(40))},
		{"as many volumes as blocks", params(2, 1, 4, 3), objects("x", text(8))},
		{"more volumes than blocks", params(2, 1, 4, 16), objects("x", text(8))},
		{"more volumes than the single block", params(1, 0, 4, 5), objects("x", text(3))},
		{"volumes without a block", params(1, 0, 4, 16), nil},
		{"no parity", params(5, 0, 3, 4), objects("x", text(50))},
		{"data of bytes 0", params(3, 2, 4, 2), objects("x", strings.Repeat("\x00", 20), "y", "\x00")},
	}
}

// TestVolumes: P10 at the edges.
func TestVolumes(t *testing.T) {
	for _, c := range edges() {
		volumes, root := packed(t, c.p, c.objects)
		checkVolumes(t, c.what, c.p, c.objects, volumes, root)
		for v, volume := range volumes {
			if len(volume) > api.MaxVolume {
				t.Errorf("%s: volume %d has %d bytes", c.what, v, len(volume))
			}
		}
	}
}

// longNames: MaxObjects objects whose names have MaxName bytes and differ in the last.
func longNames() []api.Object {
	list := many(api.MaxObjects, 9)
	for i := range list {
		list[i].Name = strings.Repeat("n", api.MaxName-1) + list[i].Name
	}
	return list
}

// anyVault: params and objects of which the volumes can be had.
func anyVault(random *rand.Rand) (api.Params, []api.Object) {
	for {
		p := params(1+random.Intn(6), random.Intn(5), 1+random.Intn(api.MaxChunk), 1+random.Intn(api.MaxVolumes))
		list, total := many(random.Intn(api.MaxObjects+1), 0), 0
		for i := range list {
			list[i].Name = randomBlocks(random, 1, random.Intn(4))[0] + list[i].Name
			list[i].Data = randomBlocks(random, 1, random.Intn(60))[0]
			total += len(list[i].Data)
		}
		stripes := (total + p.K*p.Chunk - 1) / (p.K * p.Chunk)
		if stripes*(p.K+p.M) <= api.MaxBlocks && noneTwice(list) {
			return p, list
		}
	}
}

func noneTwice(objects []api.Object) bool {
	sorted := sortedByName(objects)
	return len(slices.CompactFunc(sorted, func(a, b api.Object) bool { return a.Name == b.Name })) == len(objects)
}

func TestAnyVolumes(t *testing.T) {
	random := rand.New(rand.NewSource(22))
	for range 80 {
		p, list := anyVault(random)
		volumes, root := packed(t, p, list)
		checkVolumes(t, fmt.Sprintf("%+v, %d objects", p, len(list)), p, list, volumes, root)
	}
}

// packedInPieces: the objects in some order, their data cut somewhere, with empty Writes among them.
func packedInPieces(t *testing.T, random *rand.Rand, p api.Params, objects []api.Object) ([]string, string) {
	t.Helper()
	writer := newWriter(t, p)
	for _, i := range random.Perm(len(objects)) {
		begin(t, writer, objects[i].Name)
		for data := objects[i].Data; data != ""; {
			n := random.Intn(len(data) + 1)
			write(t, writer, data[:n])
			data = data[n:]
		}
	}
	return closed(t, writer)
}

// TestObjectsAlone: P18: the volumes hang neither on the order of the objects nor on how the data was cut.
func TestObjectsAlone(t *testing.T) {
	random := rand.New(rand.NewSource(23))
	for range 40 {
		p, list := anyVault(random)
		volumes, root := packed(t, p, list)
		for range 3 {
			again, rootAgain := packedInPieces(t, random, p, list)
			if !slices.Equal(volumes, again) || root != rootAgain {
				t.Fatalf("P18: %+v, %q: another order, other volumes", p, list)
			}
		}
	}
}

// TestWriteGoesToTheLast: P9: the bytes come behind those of the object that was begun last, though others have greater names.
func TestWriteGoesToTheLast(t *testing.T) {
	p := params(1, 0, 2, 1)
	writer := newWriter(t, p)
	begin(t, writer, "b")
	write(t, writer, "one")
	begin(t, writer, "a")
	write(t, writer, "two")
	write(t, writer, "")
	write(t, writer, "three")
	begin(t, writer, "c")
	volumes, root := closed(t, writer)
	checkVolumes(t, "three objects", p, objects("a", "twothree", "b", "one", "c", ""), volumes, root)
}

// TestWritersApart: P2: two Writers, called in turns, know nothing of one another, and one that breaks does the other no harm.
func TestWritersApart(t *testing.T) {
	p, q := params(2, 1, 3, 2), params(3, 2, 5, 4)
	one, two, three := newWriter(t, p), newWriter(t, q), newWriter(t, p)
	begin(t, one, "x")
	begin(t, two, "x")
	begin(t, three, "x")
	write(t, one, "the data of one")
	write(t, two, strings.Repeat("two", 100))
	checkFaults(t, "P8: x twice", three.Begin("x"), at(api.ErrDuplicate, 0))
	begin(t, two, "y")
	write(t, one, ", and more")
	write(t, two, "y")
	volumes, root := closed(t, one)
	checkVolumes(t, "one", p, objects("x", "the data of one, and more"), volumes, root)
	write(t, two, "y")
	volumes, root = closed(t, two)
	checkVolumes(t, "two", q, objects("x", strings.Repeat("two", 100), "y", "yy"), volumes, root)
}

// TestVolumesAreNew: P2: the lists of two Writers share no room, nor do their texts.
func TestVolumesAreNew(t *testing.T) {
	p, list := params(2, 1, 3, 4), objects("x", "data", "y", "more data")
	first, _ := packed(t, p, list)
	second, root := packed(t, p, list)
	for v := range first {
		for w := range second {
			if unsafe.StringData(first[v]) == unsafe.StringData(second[w]) || v != w && unsafe.StringData(first[v]) == unsafe.StringData(first[w]) {
				t.Errorf("P2: volumes %d and %d share room", v, w)
			}
		}
	}
	clear(first[:cap(first)])
	checkVolumes(t, "the second of two", p, list, second, root)
}

// TestNothingIsKept: P2: what was handed in may become something else later, were it a text's very bytes.
func TestNothingIsKept(t *testing.T) {
	p := params(2, 1, 3, 4)
	writer := newWriter(t, p)
	for _, text := range []string{"x", "y"} {
		name, data := []byte("name "+text), []byte("data "+text)
		begin(t, writer, unsafe.String(&name[0], len(name)))
		write(t, writer, unsafe.String(&data[0], len(data)))
		clear(name)
		clear(data)
	}
	checkFaults(t, "P8: a name again", writer.Begin("name y"), at(api.ErrDuplicate, 1))
	writer = newWriter(t, p)
	name, data := []byte("name"), []byte("data")
	begin(t, writer, unsafe.String(&name[0], len(name)))
	write(t, writer, unsafe.String(&data[0], len(data)))
	clear(name)
	clear(data)
	volumes, root := closed(t, writer)
	checkVolumes(t, "what was handed in, changed", p, objects("name", "data"), volumes, root)
}

// together: so many goroutines, each given its number, let loose at one time; all have ended when it answers.
// They turn until all are there, and do not sleep: woken one after the other, they would hardly meet.
func together(count int, do func(i int)) {
	var all sync.WaitGroup
	var ready atomic.Int32
	for i := range count {
		all.Add(1)
		go func() {
			defer all.Done()
			ready.Add(1)
			for int(ready.Load()) < count {
				runtime.Gosched()
			}
			do(i)
		}()
	}
	all.Wait()
}

// rounds: how often what goes wrong only now and then is tried.
const rounds = 300

// TestWritesTogether: P2: each Write comes whole, and none is lost.
func TestWritesTogether(t *testing.T) {
	for range rounds / 10 {
		writer := newWriter(t, params(1, 0, 8, 1))
		begin(t, writer, "x")
		together(16, func(i int) {
			for range 64 {
				if n, err := writer.Write(strings.Repeat(string([]byte{byte('a' + i)}), 4)); n != 4 || err != nil {
					t.Errorf("P2: Write = %d, %v", n, err)
				}
			}
		})
		volumes, _ := closed(t, writer)
		data := volumes[0][len(volumes[0])-api.MaxTotal:]
		for at := 0; at < len(data); at += 4 {
			if data[at:at+4] != strings.Repeat(data[at:at+1], 4) {
				t.Fatalf("P2: at %d a Write is torn: %q", at, data[at:at+4])
			}
		}
		for i := range 16 {
			if count := strings.Count(data, string([]byte{byte('a' + i)})); count != 256 {
				t.Fatalf("P2: of the 256 bytes of goroutine %d there are %d", i, count)
			}
		}
	}
}

// TestTooMuchTogether: one of the Writes is the first that is too much, and all behind it are told so.
func TestTooMuchTogether(t *testing.T) {
	first := at(api.ErrBig, 4000)
	for range rounds {
		writer := newWriter(t, params(1, 0, 64, 1))
		begin(t, writer, "x")
		answers := make([][]api.Mark, 16)
		together(len(answers), func(i int) {
			_, err := writer.Write(strings.Repeat("x", 500))
			answers[i] = vault.Faults(err)
		})
		checkAnswers(t, answers, [][]api.Mark{{}, {first}, {at(api.ErrState, 1), first}}, []int{8, 1, 7})
	}
}

// TestBeginsTogether: of one name one Begin is answered without an error, and one is told that it is there twice.
func TestBeginsTogether(t *testing.T) {
	first := at(api.ErrDuplicate, 0)
	for range rounds {
		writer := newWriter(t, params(1, 0, 64, 1))
		answers := make([][]api.Mark, 16)
		together(len(answers), func(i int) { answers[i] = vault.Faults(writer.Begin("x")) })
		checkAnswers(t, answers, [][]api.Mark{{}, {first}, {at(api.ErrState, 1), first}}, []int{1, 1, 14})
	}
}

// TestObjectsTogether: of several names all are there.
func TestObjectsTogether(t *testing.T) {
	p, list := params(2, 1, 3, 2), many(api.MaxObjects, 0)
	for range rounds {
		writer := newWriter(t, p)
		together(len(list), func(i int) {
			if err := writer.Begin(list[i].Name); err != nil {
				t.Errorf("P2: Begin(%q) = %v", list[i].Name, err)
			}
		})
		volumes, root := closed(t, writer)
		checkVolumes(t, "objects begun at once", p, list, volumes, root)
	}
}

// TestClosesTogether: one Close gives the volumes, and all others are told that one has answered.
func TestClosesTogether(t *testing.T) {
	p, list := params(2, 1, 3, 2), objects("x", "some data")
	for range 10 * rounds {
		writer := newWriter(t, p)
		begin(t, writer, "x")
		write(t, writer, "some data")
		answers := make([][]api.Mark, 16)
		volumes, roots := make([][]string, len(answers)), make([]string, len(answers))
		together(len(answers), func(i int) {
			var err error
			volumes[i], roots[i], err = writer.Close()
			answers[i] = vault.Faults(err)
		})
		for i, answer := range answers {
			if len(answer) == 0 {
				checkVolumes(t, "one of several", p, list, volumes[i], roots[i])
			} else if volumes[i] != nil || roots[i] != "" {
				t.Errorf("P10: refused, and yet %x, %x", volumes[i], roots[i])
			}
		}
		checkAnswers(t, answers, [][]api.Mark{{}, {at(api.ErrState, 1)}}, []int{1, 15})
	}
}

// TestWriteAndCloseTogether: just the Writes that were answered without an error are in the volumes.
func TestWriteAndCloseTogether(t *testing.T) {
	p := params(1, 0, 64, 1)
	for range rounds {
		writer := newWriter(t, p)
		begin(t, writer, "x")
		var length atomic.Int32
		var volumes []string
		var root string
		together(8, func(i int) {
			for n := range 500 {
				if i == 0 && n == 5 {
					volumes, root, _ = writer.Close()
					return
				}
				if count, err := writer.Write("x"); err == nil {
					length.Add(int32(count))
				} else {
					checkFaults(t, "P9: Write", err, at(api.ErrState, 1))
					return
				}
			}
		})
		checkVolumes(t, "a Close among Writes", p, objects("x", strings.Repeat("x", int(length.Load()))), volumes, root)
	}
}

// checkAnswers: each of the wanted answers came just so often, and no other one.
func checkAnswers(t *testing.T, answers, wanted [][]api.Mark, counts []int) {
	t.Helper()
	for at, want := range wanted {
		count := 0
		for _, answer := range answers {
			if slices.Equal(answer, want) {
				count++
			}
		}
		if count != counts[at] {
			t.Errorf("P2: %v was answered %d times, want %d", want, count, counts[at])
		}
	}
}
