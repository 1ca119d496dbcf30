package vault_test

import (
	"errors"
	"fmt"
	"math/rand"
	"slices"
	"strings"
	"testing"

	"vault/api"
	"vault/vault"
)

// checkLost: the error is ErrLost at that place over a Missing with these names, and is asked in each way that there is; without names no error is wanted.
func checkLost(t *testing.T, call string, err error, where int, names []string) {
	t.Helper()
	told := vault.Lost(err)
	if !slices.Equal(told, names) {
		t.Errorf("%s: Lost tells %.20q, want %.20q", call, told, names)
	}
	if len(names) == 0 {
		if err != nil {
			t.Errorf("%s: %v, want no error", call, err)
		}
		return
	}
	fault, ok := err.(*api.Fault)
	if !ok || fault.Kind != api.ErrLost || fault.Where != where {
		t.Errorf("%s: %v, want ErrLost at %d", call, err, where)
		return
	}
	if inner, ok := fault.Inner.(*api.Missing); !ok || !slices.Equal(inner.Names, names) {
		t.Errorf("%s: the Fault wraps %#v, want a Missing with %.20q", call, fault.Inner, names)
	}
	var asked *api.Fault
	var missing *api.Missing
	if !errors.As(err, &asked) || asked != fault || !errors.As(err, &missing) || error(missing) != fault.Inner {
		t.Errorf("%s: errors.As tells another Fault or Missing", call)
	}
	if marks := vault.Faults(err); !slices.Equal(marks, []api.Mark{at(api.ErrLost, where)}) {
		t.Errorf("%s: Faults tells %v", call, marks)
	}
	for kind := api.ErrParams; kind <= api.ErrRange; kind++ {
		if errors.Is(err, kind) != (kind == api.ErrLost) {
			t.Errorf("%s: %v, asked for the kind %d", call, err, kind)
		}
	}
}

// outcome: what comes of a vault.
type outcome struct {
	objects []api.Object // that come out
	lost    []string     // the names of the others
	stripe  int          // the first one that is short or forged
	volumes []string     // that Repair gives
}

// outcomeOf: what P15 and P16 say, byte by byte, of objects in the order of their names, if just these stripes are short or forged.
func outcomeOf(p api.Params, sorted []api.Object, volumes []string, harmed []int) outcome {
	out := outcome{volumes: volumes}
	if len(harmed) > 0 {
		out.stripe, out.volumes = slices.Min(harmed), nil
	}
	place := 0
	for _, object := range sorted {
		lost := false
		for range len(object.Data) {
			lost = lost || slices.Contains(harmed, place/(p.K*p.Chunk))
			place++
		}
		if lost {
			out.lost = append(out.lost, object.Name)
		} else {
			out.objects = append(out.objects, object)
		}
	}
	return out
}

func checkUnpack(t *testing.T, what string, v *vault.Vault, want outcome) {
	t.Helper()
	objects, err := v.Unpack()
	if !slices.Equal(objects, want.objects) {
		t.Errorf("P15: %s: Unpack() = %.40q, want %.40q", what, objects, want.objects)
	}
	checkLost(t, "P15: Unpack, "+what, err, len(want.lost), want.lost)
}

func checkRepair(t *testing.T, what string, v *vault.Vault, want outcome) {
	t.Helper()
	volumes, err := v.Repair()
	if !slices.Equal(volumes, want.volumes) {
		t.Errorf("P16: %s: Repair() = %.300x, want %.300x", what, volumes, want.volumes)
	}
	if err != nil && volumes != nil {
		t.Errorf("P16: %s: refused, and yet %d volumes", what, len(volumes))
	}
	checkLost(t, "P16: Repair, "+what, err, want.stripe, want.lost)
}

// checkOutcome: P15 and P16, asked twice, since asking changes nothing.
func checkOutcome(t *testing.T, what string, v *vault.Vault, want outcome) {
	t.Helper()
	for range 2 {
		checkUnpack(t, what, v, want)
		checkRepair(t, what, v, want)
	}
}

// TestUnpack: P15 and P16 for the vault of the document's examples: whatever is there of its three volumes, with the root and without.
func TestUnpack(t *testing.T) {
	a, root := hello(t)
	zeroed := func(v int) string { return a[v][:len(a[v])-4] + "\x00\x00\x00\x00" }
	all := outcome{objects: objects("a", "", "b", "hello"), volumes: a}
	some := outcome{objects: objects("a", ""), lost: []string{"b"}}
	for _, c := range []struct {
		what    string
		volumes []string
		want    outcome
	}{
		{"all there", a, all},
		{"the other way round", []string{a[2], a[1], a[0]}, all},
		{"the first absent", a[1:], all},
		{"the second absent", []string{a[0], a[2]}, all},
		{"the last absent", []string{a[1], a[0]}, all},
		{"one zeroed", []string{a[0], zeroed(1), a[2]}, all},
		{"one cut off", []string{a[0], a[1], a[2][:len(a[2])-1]}, all},
		{"all of one cut off", []string{a[0][:len(a[0])-4], a[1], a[2]}, all},
		{"one turned", []string{turned(a[0], len(a[0])-1), a[2], a[1]}, all},
		{"one unread", []string{a[0], a[1] + "x", a[2]}, all},
		{"some that are none", []string{"", a[0], "x", a[1], a[2]}, all},
		{"the first alone", a[:1], some},
		{"the second alone", a[1:2], some},
		{"the last alone", a[2:], some},
		{"two zeroed", []string{zeroed(0), a[1], zeroed(2)}, some},
		{"one absent, one cut off", []string{a[0][:len(a[0])-2], a[1]}, some},
		{"one unread, one zeroed", []string{"x" + a[0], a[1], zeroed(2)}, some},
		{"all zeroed", []string{zeroed(0), zeroed(1), zeroed(2)}, some},
	} {
		for _, given := range []string{"", root} {
			checkOutcome(t, c.what, opened(t, c.volumes, given), c.want)
		}
	}
}

// stripesLost: all volumes, with the blocks of these stripes zeroed; the vault's data must have no such block.
func stripesLost(p api.Params, volumes []string, count int, stripes []int) []string {
	list := slices.Clone(volumes)
	for _, stripe := range stripes {
		for number := stripe * (p.K + p.M); number < (stripe+1)*(p.K+p.M); number++ {
			list = overwritten(p, list, count, number, strings.Repeat("\x00", p.Chunk))
		}
	}
	return list
}

// overwritten: volumes of so many blocks, one of which is another.
func overwritten(p api.Params, volumes []string, count, number int, block string) []string {
	list := slices.Clone(volumes)
	for v, text := range list {
		first, end := v*count/p.Volumes, (v+1)*count/p.Volumes
		if number >= first && number < end {
			place := len(text) - (end-number)*p.Chunk
			list[v] = text[:place] + block + text[place+p.Chunk:]
		}
	}
	return list
}

// meant: the places of the bits that a number has, in rising order.
func meant(bits int) []int {
	var list []int
	for i := 0; bits>>i > 0; i++ {
		if bits>>i&1 == 1 {
			list = append(list, i)
		}
	}
	return list
}

// layouts: objects whose bytes lie in four stripes of six bytes in all the ways that the document names.
func layouts() []edge {
	last := byte('@')
	x := func(length int) string {
		data := make([]byte, length)
		for i := range data {
			last++
			data[i] = last
		}
		return string(data)
	}
	return []edge{
		{"one object", params(3, 2, 2, 4), objects("a", x(24))},
		{"an object in each stripe", params(3, 2, 2, 4), objects("a", x(6), "b", x(6), "c", x(6), "d", x(6))},
		{"two in each stripe", params(2, 1, 3, 1), objects("a", x(1), "b", x(5), "c", x(5), "d", x(1), "e", x(3), "f", x(3), "g", x(2), "h", x(4))},
		{"a byte across each edge", params(6, 1, 1, 3), objects("a", x(7), "b", x(6), "c", x(6), "d", x(5))},
		{"a byte ahead of each edge", params(1, 2, 6, 3), objects("a", x(5), "b", x(6), "c", x(6), "d", x(7))},
		{"single bytes at the edges", params(2, 0, 3, 2), objects("a", x(5), "b", x(1), "c", x(1), "d", x(4), "e", x(1), "f", x(1), "g", x(5), "h", x(1))},
		{"no data at the edges and between", params(3, 1, 2, 5), objects("a", "", "b", x(3), "c", "", "d", x(3), "e", "", "f", x(12), "g", "", "h", x(6), "i", "")},
		{"no data within stripes", params(3, 1, 2, 5), objects("a", x(1), "b", "", "c", x(9), "d", "", "e", "", "f", x(10), "g", "")},
		{"over two and three stripes", params(3, 0, 2, 1), objects("a", x(8), "b", x(11), "c", x(1))},
		{"all but a byte of the last stripe empty", params(2, 2, 3, 2), objects("a", x(17), "b", x(1), "c", x(1))},
		{"the last stripe's last byte", params(2, 2, 3, 2), objects("a", x(18), "b", x(5), "c", x(1))},
	}
}

// TestUnpackStripes: P15 and P16: whichever stripes are short, just those objects are lost that have a byte in one.
func TestUnpackStripes(t *testing.T) {
	for _, c := range layouts() {
		volumes, root := packed(t, c.p, c.objects)
		count := len(blocksOf(c.p, c.objects))
		for bits := range 16 {
			short := meant(bits)
			v := opened(t, stripesLost(c.p, volumes, count, short), root)
			what := fmt.Sprint(c.what, ", stripes lost: ", short)
			checkOutcome(t, what, v, outcomeOf(c.p, c.objects, volumes, short))
			if report := v.Verify(); !slices.Equal(report.Short, short) {
				t.Errorf("P14: %s: short are %v", what, report.Short)
			}
		}
	}
}

// TestUnpackNames: P15 and P16, with the answers written out: which objects come out, and which names are told, in order.
func TestUnpackNames(t *testing.T) {
	p := params(2, 1, 4, 3)
	// Stripes of eight bytes: a and b lie in the first, b and c in the second, c just up to its end, d in the third.
	list := objects("e", "", "d", "ghijkl", "a", "12345", "c", "bcdef!", "b", "6789a")
	volumes, root := packed(t, p, list)
	for _, c := range []struct {
		short []int
		want  outcome
	}{
		{nil, outcome{objects("a", "12345", "b", "6789a", "c", "bcdef!", "d", "ghijkl", "e", ""), nil, 0, volumes}},
		{[]int{0}, outcome{objects("c", "bcdef!", "d", "ghijkl", "e", ""), []string{"a", "b"}, 0, nil}},
		{[]int{1}, outcome{objects("a", "12345", "d", "ghijkl", "e", ""), []string{"b", "c"}, 1, nil}},
		{[]int{2}, outcome{objects("a", "12345", "b", "6789a", "c", "bcdef!", "e", ""), []string{"d"}, 2, nil}},
		{[]int{0, 1}, outcome{objects("d", "ghijkl", "e", ""), []string{"a", "b", "c"}, 0, nil}},
		{[]int{0, 2}, outcome{objects("c", "bcdef!", "e", ""), []string{"a", "b", "d"}, 0, nil}},
		{[]int{1, 2}, outcome{objects("a", "12345", "e", ""), []string{"b", "c", "d"}, 1, nil}},
		{[]int{0, 1, 2}, outcome{objects("e", ""), []string{"a", "b", "c", "d"}, 0, nil}},
	} {
		checkOutcome(t, fmt.Sprint("stripes lost: ", c.short), opened(t, stripesLost(p, volumes, 9, c.short), root), c.want)
	}
}

// TestUnpackEdges: P15, P16 and P18 at the edges: all volumes, one of them, all but one, and all with no blocks.
func TestUnpackEdges(t *testing.T) {
	random := rand.New(rand.NewSource(61))
	for _, c := range edges() {
		volumes, root := packed(t, c.p, c.objects)
		sorted := sortedByName(c.objects)
		count := len(blocksOf(c.p, sorted))
		for _, given := range []string{"", root} {
			checkOutcome(t, c.what, opened(t, shuffled(random, volumes), given), outcomeOf(c.p, sorted, volumes, nil))
		}
		for v := range volumes {
			report := lostReport(c.p, count, func(volume int) bool { return volume != v })
			checkOutcome(t, c.what+", one volume", opened(t, volumes[v:v+1], root), outcomeOf(c.p, sorted, volumes, report.Short))
			if others := slices.Delete(slices.Clone(volumes), v, v+1); len(others) > 0 {
				report = lostReport(c.p, count, func(volume int) bool { return volume == v })
				checkOutcome(t, c.what+", all but one", opened(t, others, root), outcomeOf(c.p, sorted, volumes, report.Short))
			}
		}
		var bare []string
		for v, volume := range volumes {
			bare = append(bare, volume[:len(volume)-((v+1)*count/c.p.Volumes-v*count/c.p.Volumes)*c.p.Chunk])
		}
		checkOutcome(t, c.what+", no blocks", opened(t, bare, root), outcomeOf(c.p, sorted, volumes, upTo(count/(c.p.K+c.p.M))))
	}
}

// TestUnpackForged: P15 and P16: a forged stripe is lost as a short one is, though all its blocks are there; one that is of other data is not.
func TestUnpackForged(t *testing.T) {
	p, list := params(2, 1, 4, 3), "VLT1\x02\x01\x04\x03\x02\x01a\x00\x01b\x05"
	lost := outcome{objects: objects("a", ""), lost: []string{"b"}}
	with := func(first, second string) []string {
		return []string{first, second, blockAt([]int{0, 1}, []string{first, second}, 2)}
	}
	for _, c := range []struct {
		what   string
		blocks []string
		want   string // the data of b; empty if it is lost
	}{
		{"nothing wrong", with("hell", "o\x00\x00\x00"), "hello"},
		{"other data", with("HELL", "O\x00\x00\x00"), "HELLO"},
		{"a nought for data", with("hell", "\x00\x00\x00\x00"), "hell\x00"},
		{"another parity", []string{"hell", "o\x00\x00\x00", "abcd"}, ""},
		{"no nought at the end", with("hell", "o\x00\x00\x01"), ""},
		{"no nought behind the data", with("hell", "o\x01\x00\x00"), ""},
	} {
		volumes, root := volumesOf(p, list, c.blocks)
		want := lost
		if c.want != "" {
			want = outcome{objects: objects("a", "", "b", c.want), volumes: volumes}
		}
		checkOutcome(t, c.what, opened(t, volumes, root), want)
		for v := range volumes {
			checkOutcome(t, fmt.Sprint(c.what, ", absent: ", v), opened(t, slices.Delete(slices.Clone(volumes), v, v+1), root), want)
		}
	}
}

// TestUnpackShortAndForged: P15 and P16: several stripes, each whole, short or forged.
func TestUnpackShortAndForged(t *testing.T) {
	for _, c := range layouts() {
		if c.p.M == 0 {
			continue
		}
		list, right := listOf(c.p, c.objects), blocksOf(c.p, c.objects)
		size := c.p.K + c.p.M
		for fates := range 81 {
			blocks := slices.Clone(right)
			var short, forged, harmed []int
			for stripe, fate := 0, fates; stripe < 4; stripe, fate = stripe+1, fate/3 {
				switch fate % 3 {
				case 1:
					short = append(short, stripe)
				case 2:
					forged = append(forged, stripe)
					blocks[stripe*size] = turned(blocks[stripe*size], 0)
				default:
					continue
				}
				harmed = append(harmed, stripe)
			}
			volumes, root := volumesOf(c.p, list, blocks)
			v := opened(t, stripesLost(c.p, volumes, len(blocks), short), root)
			what := fmt.Sprint(c.what, ", short ", short, ", forged ", forged)
			checkOutcome(t, what, v, outcomeOf(c.p, c.objects, volumes, harmed))
			if report := v.Verify(); !slices.Equal(report.Short, short) || !slices.Equal(report.Forged, forged) {
				t.Errorf("P14: %s: %+v", what, report)
			}
		}
	}
}

// TestUnpackAny: P15 and P16 against their words, for vaults that were damaged, forged, or both.
func TestUnpackAny(t *testing.T) {
	random := rand.New(rand.NewSource(62))
	whole, part := 0, 0
	for range 400 {
		p, list := anyVault(random)
		sorted := sortedByName(list)
		blocks := forge(random, p, sorted)
		volumes, root := volumesOf(p, listOf(p, sorted), blocks)
		kept, _, _ := damage(random, p, volumes, blocks)
		// TestVerifyAny holds this report against the words.
		report := opened(t, kept, root).Verify()
		want := outcomeOf(p, sorted, volumes, append(report.Short, report.Forged...))
		checkOutcome(t, fmt.Sprintf("%+v, %d blocks", p, len(blocks)), opened(t, kept, root), want)
		if len(report.Bad) > 0 && len(want.lost) == 0 {
			whole++
		} else if len(want.lost) > 0 && len(want.objects) > 0 {
			part++
		}
	}
	if whole < 10 || part < 50 {
		t.Errorf("too few of one kind: of %d vaults with bad blocks all came out, of %d a part", whole, part)
	}
}

// TestLost: P17: no name is told by nothing, nor by an error of any other kind, nor by the ErrLost of Restore.
func TestLost(t *testing.T) {
	errs := []error{nil}
	seen := map[api.Kind]bool{}
	refused := func(err error, want ...api.Mark) {
		t.Helper()
		checkFaults(t, "P17", err, want...)
		errs = append(errs, err)
		seen[want[0].Kind] = true
	}
	_, err := vault.Parity(0, 0, nil)
	refused(err, at(api.ErrParams, 0))
	_, err = vault.Parity(2, 1, []string{"a"})
	refused(err, at(api.ErrRange, 1))
	_, err = vault.Restore(2, 1, []string{"a", "bc", "d"}, []bool{true, true, true})
	refused(err, at(api.ErrBig, 1))
	_, err = vault.Restore(2, 1, []string{"a", "b", "c"}, []bool{true, false, false})
	refused(err, at(api.ErrLost, 1))
	_, err = vault.Path([]string{"a"}, 1)
	refused(err, at(api.ErrRange, 1))
	_, err = vault.NewWriter(params(1, 0, 0, 1))
	refused(err, at(api.ErrParams, 2))
	writer := newWriter(t, params(1, 0, 1, 1))
	_, err = writer.Write("x")
	refused(err, at(api.ErrState, -1))
	refused(writer.Begin(""), at(api.ErrName, 0))
	refused(writer.Begin("x"), at(api.ErrState, 0), at(api.ErrName, 0))
	_, _, err = writer.Close()
	refused(err, at(api.ErrUnfinished, 0), at(api.ErrName, 0))
	writer = newWriter(t, params(1, 0, 1, 1))
	begin(t, writer, "x")
	refused(writer.Begin("x"), at(api.ErrDuplicate, 0))
	a, _ := hello(t)
	b, root := packed(t, params(2, 1, 4, 3), objects("b", "hello"))
	for _, c := range []struct {
		volumes []string
		root    string
		want    []api.Mark
	}{
		{a, "root", marks(at(api.ErrRoot, 0))},
		{nil, "", marks(at(api.ErrEmpty, 0))},
		{[]string{"VOL"}, "", marks(at(api.ErrEmpty, 1), at(api.ErrHeader, 0), at(api.ErrCode, 0))},
		{[]string{turned(a[0], len(a[0])-5)}, "", marks(at(api.ErrEmpty, 1), at(api.ErrHeader, 0), at(api.ErrCheck, len(a[0])-36))},
		{a, root, marks(at(api.ErrEmpty, 3), at(api.ErrHeader, 0), at(api.ErrRoot, 4))},
		{[]string{a[0], b[1]}, "", marks(at(api.ErrMixed, 1))},
		{[]string{a[0], a[0]}, "", marks(at(api.ErrTwice, 1))},
	} {
		_, err := vault.Open(c.volumes, c.root)
		refused(err, c.want...)
	}
	for _, err := range errs {
		if names := vault.Lost(err); len(names) != 0 {
			t.Errorf("P17: Lost(%v) = %q", err, names)
		}
	}
	if marks := vault.Faults(nil); len(marks) != 0 {
		t.Errorf("P17: Faults(nil) = %v", marks)
	}
	// ErrCode, ErrCheck and ErrHeader come only within others.
	if len(seen) != 12 {
		t.Errorf("errors of only %d kinds: %v", len(seen), seen)
	}
}
