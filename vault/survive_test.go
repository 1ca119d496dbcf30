package vault_test

import (
	"errors"
	"fmt"
	"math/rand"
	"slices"
	"strings"
	"testing"
	"unsafe"

	"vault/api"
	"vault/vault"
)

// TestSurvivesSubsets: P18: each set of blocks of a stripe, lost in each way that there is: all comes out up to M of them, and of more of them that stripe is short.
func TestSurvivesSubsets(t *testing.T) {
	p, list := params(3, 2, 2, 15), objects("a", "first ", "b", "second", "c", "third!")
	volumes, root := packed(t, p, list)
	for _, c := range []struct {
		what string
		lose func(volume string) []string // what becomes of a volume, which has one block
	}{
		{"zeroed", func(volume string) []string { return []string{volume[:len(volume)-2] + "\x00\x00"} }},
		{"turned", func(volume string) []string { return []string{turned(volume, len(volume)-2)} }},
		{"cut off", func(volume string) []string { return []string{volume[:len(volume)-2]} }},
		{"half of it cut off", func(volume string) []string { return []string{volume[:len(volume)-1]} }},
		{"left out", func(volume string) []string { return nil }},
		{"unread", func(volume string) []string { return []string{turned(volume, 0)} }},
	} {
		for stripe := range 3 {
			for bits := range 32 {
				lost := meant(bits)
				var kept []string
				for v, volume := range volumes {
					if slices.Contains(lost, v-5*stripe) {
						kept = append(kept, c.lose(volume)...)
					} else {
						kept = append(kept, volume)
					}
				}
				var short []int
				if len(lost) > p.M {
					short = []int{stripe}
				}
				for _, given := range []string{"", root} {
					checkOutcome(t, fmt.Sprint(c.what, ": blocks ", lost, " of stripe ", stripe), opened(t, kept, given), outcomeOf(p, list, volumes, short))
				}
			}
		}
	}
}

// harm: volumes of which blocks were zeroed or cut off, or that were left out, and which blocks are lost by that: never more than M of a stripe.
type harm struct {
	p       api.Params
	volumes []string // empty, if left out
	lost    []bool   // by the number of the block
}

// losses: how many blocks each stripe has lost.
func (h *harm) losses() []int {
	counts := make([]int, len(h.lost)/(h.p.K+h.p.M))
	for number, gone := range h.lost {
		if gone {
			counts[number/(h.p.K+h.p.M)]++
		}
	}
	return counts
}

// lose: the blocks from first to below end are lost, if they may be.
func (h *harm) lose(first, end int) bool {
	before := slices.Clone(h.lost)
	for b := first; b < end; b++ {
		h.lost[b] = true
	}
	if slices.ContainsFunc(h.losses(), func(count int) bool { return count > h.p.M }) {
		h.lost = before
		return false
	}
	return true
}

// zero: some block is zeroed.
func (h *harm) zero(random *rand.Rand) {
	if number := random.Intn(len(h.lost) + 1); number < len(h.lost) && h.lose(number, number+1) {
		h.volumes = overwritten(h.p, h.volumes, len(h.lost), number, strings.Repeat("\x00", h.p.Chunk))
	}
}

// shorten: the ends of some volumes are cut off, and others are left out.
func (h *harm) shorten(random *rand.Rand) {
	count, left := len(h.lost), len(h.volumes)
	for _, v := range random.Perm(len(h.volumes)) {
		first, end := v*count/h.p.Volumes, (v+1)*count/h.p.Volumes
		if random.Intn(2) == 0 && left > 1 && h.lose(first, end) {
			h.volumes[v] = ""
			left--
			continue
		}
		gone := random.Intn((end-first)*h.p.Chunk + 1)
		if h.lose(end-(gone+h.p.Chunk-1)/h.p.Chunk, end) {
			h.volumes[v] = h.volumes[v][:len(h.volumes[v])-gone]
		}
	}
}

func (h *harm) kept(random *rand.Rand) []string {
	return shuffled(random, slices.DeleteFunc(slices.Clone(h.volumes), func(volume string) bool { return volume == "" }))
}

// TestSurvives: P18: whatever is zeroed, cut off or left out, if no stripe loses more than M blocks all objects come out, and the volumes are as Close gave them.
func TestSurvives(t *testing.T) {
	random := rand.New(rand.NewSource(71))
	absent, lost, full := 0, 0, 0
	for range 300 {
		p, list := anyVault(random)
		volumes, root := packed(t, p, list)
		sorted := sortedByName(list)
		h := &harm{p: p, volumes: slices.Clone(volumes), lost: make([]bool, len(blocksOf(p, sorted)))}
		for range random.Intn(40) {
			h.zero(random)
		}
		h.shorten(random)
		all := outcomeOf(p, sorted, volumes, nil)
		for _, given := range []string{"", root} {
			checkOutcome(t, fmt.Sprintf("%+v", p), opened(t, h.kept(random), given), all)
		}
		absent += len(volumes) - len(h.kept(random))
		for _, count := range h.losses() {
			lost += count
			if p.M > 0 && count == p.M {
				full++
			}
		}
	}
	if absent < 100 || lost < 1000 || full < 100 {
		t.Errorf("too little was lost: %d volumes, %d blocks, and all that may be in %d stripes", absent, lost, full)
	}
}

// TestSurvivesJust: P18: of each stripe just M blocks are overwritten, and then one more of one stripe.
func TestSurvivesJust(t *testing.T) {
	random := rand.New(rand.NewSource(72))
	for range 150 {
		p, list := anyVault(random)
		sorted := sortedByName(list)
		volumes, root := packed(t, p, list)
		blocks := blocksOf(p, sorted)
		size := p.K + p.M
		harmed := slices.Clone(volumes)
		var next []int // in each stripe one that is left
		for stripe := range len(blocks) / size {
			order := random.Perm(size)
			for _, i := range order[:p.M] {
				number := stripe*size + i
				harmed = overwritten(p, harmed, len(blocks), number, turned(blocks[number], random.Intn(p.Chunk)))
			}
			next = append(next, stripe*size+order[p.M])
		}
		what := fmt.Sprintf("%+v, %d blocks", p, len(blocks))
		checkOutcome(t, what, opened(t, shuffled(random, harmed), root), outcomeOf(p, sorted, volumes, nil))
		for stripe, number := range next {
			more := overwritten(p, harmed, len(blocks), number, turned(blocks[number], 0))
			checkOutcome(t, fmt.Sprint(what, ", and one more of stripe ", stripe), opened(t, shuffled(random, more), root), outcomeOf(p, sorted, volumes, []int{stripe}))
		}
	}
}

// TestAnyOrder: P18: in whatever order the volumes are handed in, the same comes out.
func TestAnyOrder(t *testing.T) {
	p, list := params(3, 1, 2, 5), objects("d", "some data", "a", "and more of it", "c", "", "b", "and the last")
	volumes, root := packed(t, p, list)
	for _, kept := range [][]string{volumes, volumes[:4], {volumes[0], volumes[2], turned(volumes[3], len(volumes[3])-1), volumes[4]}, {volumes[1], volumes[2], volumes[4]}} {
		want := opened(t, kept, root).Verify()
		out := outcomeOf(p, sortedByName(list), volumes, want.Short)
		for order := range orders(kept) {
			v := opened(t, order, "")
			checkUnpack(t, "in some order", v, out)
			checkRepair(t, "in some order", v, out)
			checkReport(t, "in some order", v, want)
		}
	}
}

// orders: a list in each order that there is.
func orders[T any](list []T) func(yield func([]T) bool) {
	return func(yield func([]T) bool) {
		if len(list) == 0 {
			yield(nil)
			return
		}
		for i := range list {
			for rest := range orders(slices.Delete(slices.Clone(list), i, i+1)) {
				if !yield(append([]T{list[i]}, rest...)) {
					return
				}
			}
		}
	}
}

// TestNothingTold: P18: where Verify tells nothing, Repair gives just the volumes that were opened, in the order of their numbers; also of a vault that no Writer made.
func TestNothingTold(t *testing.T) {
	random := rand.New(rand.NewSource(73))
	told, untold := 0, 0
	check := func(volumes []string, root string) {
		t.Helper()
		v := opened(t, shuffled(random, volumes), root)
		if !sameReport(v.Verify(), api.Report{}) {
			told++
			return
		}
		untold++
		back, err := v.Repair()
		if !slices.Equal(back, volumes) || err != nil {
			t.Errorf("P18: Verify tells nothing, and Repair gives other volumes: %v", err)
		}
		if objects, err := v.Unpack(); len(objects) != len(v.Objects()) || err != nil {
			t.Errorf("P18: Verify tells nothing, and of %d objects %d come out, %v", len(v.Objects()), len(objects), err)
		}
	}
	for _, c := range edges() {
		volumes, root := packed(t, c.p, c.objects)
		check(volumes, root)
	}
	if told > 0 {
		t.Errorf("P14: of %d vaults something is told", told)
	}
	for range 200 {
		p, list := anyVault(random)
		sorted := sortedByName(list)
		check(volumesOf(p, listOf(p, sorted), forge(random, p, sorted)))
	}
	for range 2000 {
		p, list := anyVault(random)
		volumes, _ := packed(t, params(p.K, p.M, p.Chunk, 1), list)
		if r := changed(random, volumes[0]); r.mark.Kind == 0 {
			check([]string{r.text}, "")
		}
	}
	if told < 100 || untold < 100 {
		t.Errorf("too few of one kind: of %d vaults something is told, of %d nothing", told, untold)
	}
}

// checkNoneWrong: P18: whoever opens with the root is given objects that went in, or an error.
func checkNoneWrong(t *testing.T, what string, list, volumes []string, root string, objects []api.Object) (all bool) {
	t.Helper()
	v, err := vault.Open(list, root)
	if err != nil {
		return false
	}
	out, err := v.Unpack()
	if err == nil && !slices.Equal(out, objects) {
		t.Errorf("P18: %s: Unpack() = %.40q without an error, want %.40q", what, out, objects)
	}
	for _, object := range out {
		if !slices.Contains(objects, object) {
			t.Errorf("P18: %s: Unpack gives %.40q, which did not go in", what, object)
		}
	}
	if len(out)+len(vault.Lost(err)) != len(objects) {
		t.Errorf("P18: %s: of %d objects %d come out, and %d are lost", what, len(objects), len(out), len(vault.Lost(err)))
	}
	back, fault := v.Repair()
	if (fault == nil) != (err == nil) || fault == nil && !slices.Equal(back, volumes) || fault != nil && back != nil {
		t.Errorf("P18: %s: Repair gives %d volumes, not as they were, %v", what, len(back), fault)
	}
	if forged := v.Verify().Forged; len(forged) > 0 {
		t.Errorf("P18: %s: forged are %v", what, forged)
	}
	return err == nil
}

// TestRootBytes: P18: each byte of a vault, changed in several ways, in one volume and in all of them.
func TestRootBytes(t *testing.T) {
	list := objects("x", "hello", "y", "bye", "z", "")
	volumes, root := packed(t, params(2, 1, 3, 2), list)
	for place := range volumes[0] {
		for _, other := range []byte{1, 2, 16, 128, 255} {
			changed := slices.Clone(volumes)
			for v := range changed {
				text := []byte(volumes[v])
				if place < len(text) {
					text[place] ^= other
				}
				one := with(volumes, v, string(text))
				checkNoneWrong(t, fmt.Sprint("byte ", place, " of volume ", v), one, volumes, root, list)
				changed[v] = string(text)
			}
			checkNoneWrong(t, fmt.Sprint("byte ", place), changed, volumes, root, list)
		}
	}
}

// TestRootAny: P18: volumes overwritten anywhere, made to hold together again, and mixed with those of another vault that has the same list.
func TestRootAny(t *testing.T) {
	random := rand.New(rand.NewSource(74))
	all, some := 0, 0
	for range 300 {
		p, list := anyVault(random)
		sorted := sortedByName(list)
		volumes, root := packed(t, p, list)
		for i := range list {
			list[i].Data = randomBlocks(random, 1, len(list[i].Data))[0]
		}
		others, _ := packed(t, p, list)
		for range 5 {
			kept := slices.Clone(volumes)
			for v := range kept {
				switch random.Intn(8) {
				case 0:
					kept[v] = spoiled(random, kept[v])
				case 1:
					kept[v] = mended(spoiled(random, kept[v]))
				case 2:
					kept[v] = others[v]
				case 3:
					// The blocks of another vault under what this one tells.
					kept[v] = spliced(kept[v], others[v])
				case 4:
					kept[v] = kept[random.Intn(len(kept))]
				}
			}
			if checkNoneWrong(t, fmt.Sprintf("%+v", p), shuffled(random, kept), volumes, root, sorted) {
				all++
			} else {
				some++
			}
		}
	}
	if all < 100 || some < 100 {
		t.Errorf("too few of one kind: %d times all came out, %d times not", all, some)
	}
}

// spliced: what a volume tells, and the blocks of another one of the same length.
func spliced(volume, other string) string {
	place := readingOf(volume).place
	return volume[:place] + other[min(place, len(other)):]
}

// TestUnpackOne: P1, P15 and P16 against their words: a volume that was changed anywhere, if it can be read.
func TestUnpackOne(t *testing.T) {
	random := rand.New(rand.NewSource(75))
	out, lost := 0, 0
	for range 150 {
		p, list := anyVault(random)
		volumes, _ := packed(t, params(p.K, p.M, p.Chunk, 1+random.Intn(2)), list)
		for range 10 {
			r := changed(random, volumes[random.Intn(len(volumes))])
			if r.mark.Kind != 0 {
				continue
			}
			v := opened(t, []string{r.text}, "")
			leaves, there := r.found()
			_, short, forged := findingsOf(r.p, r.total, leaves, there)
			stream, blocks := madeOf(r.p, leaves, there)
			var told []api.Object
			for _, entry := range v.Objects() {
				told = append(told, api.Object{Name: entry.Name, Data: stream[:entry.Length]})
				stream = stream[entry.Length:]
			}
			again, _ := volumesOf(r.p, r.list, blocks)
			want := outcomeOf(r.p, told, again, append(short, forged...))
			checkOutcome(t, fmt.Sprintf("%.200x", r.text), v, want)
			out += len(want.objects)
			lost += len(want.lost)
		}
	}
	if out < 100 || lost < 100 {
		t.Errorf("too few of one kind: %d objects came out, %d were lost", out, lost)
	}
}

// madeOf: the stream and the blocks that the good ones give; something else where they are too few.
func madeOf(p api.Params, leaves, there []string) (stream string, blocks []string) {
	size := p.K + p.M
	for s := range len(leaves) / size {
		var points []int
		var good []string
		for i := range size {
			if block := there[s*size+i]; block != "" && sha("\x00"+block) == leaves[s*size+i] {
				points, good = append(points, i), append(good, block)
			}
		}
		for i := range size {
			block := strings.Repeat("?", p.Chunk)
			if len(good) >= p.K {
				block = blockAt(points[:p.K], good[:p.K], i)
			}
			blocks = append(blocks, block)
			if i < p.K {
				stream += block
			}
		}
	}
	return stream, blocks
}

// harmed: a vault that lost something, and all that is to be told of it.
type harmed struct {
	p       api.Params
	root    string
	objects []api.Object // that went in, in the order of their names
	volumes []string     // that are left
	report  api.Report
	want    outcome
}

// partly: blocks of it can be made good, one stripe is short and one is forged.
func partly() harmed {
	p, sorted := params(2, 1, 3, 4), objects("a", "whole!", "b", "short!", "c", "forged", "d", "", "e", "whole")
	blocks := blocksOf(p, sorted)
	blocks[6] = turned(blocks[6], 1)
	volumes, root := volumesOf(p, listOf(p, sorted), blocks)
	for _, number := range []int{1, 4, 5, 9} {
		volumes = overwritten(p, volumes, len(blocks), number, "\x00\x00\x00")
	}
	report := api.Report{Unread: []int{2}, Bad: []int{1, 4, 5, 9}, Short: []int{1}, Forged: []int{2}}
	want := outcome{objects("a", "whole!", "d", "", "e", "whole"), []string{"b", "c"}, 1, nil}
	return harmed{p, root, sorted, slices.Insert(volumes, 2, "x"), report, want}
}

// mendable: of each stripe a block or two are lost, and all of it can be made good.
func mendable(t *testing.T) harmed {
	p, sorted := params(3, 2, 2, 5), objects("a", "", "b", "of data", "c", strings.Repeat("several stripes", 9))
	volumes, root := packed(t, p, sorted)
	left, report := volumes, api.Report{}
	count := len(blocksOf(p, sorted))
	for number := 1; number < count; number += 3 {
		left = overwritten(p, left, count, number, "??")
		report.Bad = append(report.Bad, number)
	}
	return harmed{p, root, sorted, left, report, outcome{objects: sorted, volumes: volumes}}
}

// TestAskingChangesNothing: P2: in whatever order a Vault is asked, and how often, each call answers the same.
func TestAskingChangesNothing(t *testing.T) {
	for _, c := range []harmed{partly(), mendable(t)} {
		calls := []func(v *vault.Vault){
			func(v *vault.Vault) { checkReport(t, "asked in some order", v, c.report) },
			func(v *vault.Vault) { checkUnpack(t, "asked in some order", v, c.want) },
			func(v *vault.Vault) { checkRepair(t, "asked in some order", v, c.want) },
			func(v *vault.Vault) { checkTold(t, "asked in some order", v, c.p, c.root, c.objects) },
		}
		for order := range orders(calls) {
			v := opened(t, c.volumes, "")
			for range 2 {
				for _, call := range order {
					call(v)
				}
			}
		}
	}
}

// TestOutcomesApart: P2: Vaults of one vault's volumes know nothing of one another.
func TestOutcomesApart(t *testing.T) {
	p, list := params(2, 1, 3, 3), objects("a", "one", "b", "two stripes", "c", "")
	volumes, root := packed(t, p, list)
	all, none := outcomeOf(p, list, volumes, nil), outcomeOf(p, list, volumes, []int{0, 1, 2})
	one, two, three := opened(t, volumes, root), opened(t, volumes[1:2], root), opened(t, stripesLost(p, volumes, 9, []int{2}), root)
	for range 2 {
		checkOutcome(t, "all there", one, all)
		checkOutcome(t, "one alone", two, none)
		checkOutcome(t, "one stripe lost", three, outcomeOf(p, list, volumes, []int{2}))
	}
}

// TestOutcomesAreNew: P2: whoever was given a list or an error may write into it, into spare room too: nothing else is changed by that.
func TestOutcomesAreNew(t *testing.T) {
	c := partly()
	v := opened(t, c.volumes, c.root)
	for range 2 {
		list, err := v.Unpack()
		again, errAgain := v.Unpack()
		_, errBack := v.Repair()
		overwrite(list, api.Object{Name: "over"})
		overwrite(vault.Lost(err), "over")
		checkLost(t, "P2: the names were written into", err, 2, c.want.lost)
		spoil(err)
		if !slices.Equal(again, c.want.objects) {
			t.Errorf("P2: writing into one list changed another: %v", again)
		}
		checkLost(t, "P2: another error was written into", errBack, 1, c.want.lost)
		spoil(errBack)
		checkLost(t, "P2: other errors were written into", errAgain, 2, c.want.lost)
		checkOutcome(t, "written into", v, c.want)
		checkReport(t, "written into", v, c.report)
	}
	c = mendable(t)
	v = opened(t, c.volumes, c.root)
	first, _ := v.Repair()
	second, _ := v.Repair()
	overwrite(first, "over")
	if !slices.Equal(second, c.want.volumes) {
		t.Errorf("P2: writing into one list of volumes changed another")
	}
	checkOutcome(t, "written into", v, c.want)
}

// TestReportsAreNew: P2: whoever was given a report may write into each of its lists, also where one stripe alone has bad blocks: nothing else is changed by that.
func TestReportsAreNew(t *testing.T) {
	volumes, _ := hello(t)
	c := partly()
	for _, x := range []struct {
		volumes []string
		want    api.Report
	}{
		{[]string{volumes[0], volumes[2]}, api.Report{Absent: []int{1}, Bad: []int{1}}},
		{volumes[1:2], api.Report{Absent: []int{0, 2}, Bad: []int{0, 2}, Short: []int{0}}},
		{c.volumes, c.report},
	} {
		v := opened(t, x.volumes, "")
		for which := range listsOf(x.want) {
			first, second := v.Verify(), v.Verify()
			overwrite(listsOf(first)[which], -9)
			for i, list := range listsOf(first) {
				if i != which && !slices.Equal(list, listsOf(x.want)[i]) {
					t.Errorf("P2: writing into list %d of a report changed list %d", which, i)
				}
			}
			if !sameReport(second, x.want) {
				t.Errorf("P2: writing into one report changed another: %+v", second)
			}
			checkReport(t, "written into", v, x.want)
		}
	}
}

func listsOf(r api.Report) [][]int {
	return [][]int{r.Unread, r.Absent, r.Bad, r.Short, r.Forged}
}

// overwrite: all of a list, its spare room too.
func overwrite[T any](list []T, entry T) {
	list = list[:cap(list)]
	for i := range list {
		list[i] = entry
	}
}

// spoil: all that an error has, written into.
func spoil(err error) {
	var missing *api.Missing
	if errors.As(err, &missing) {
		overwrite(missing.Names, "over")
	}
	var fault *api.Fault
	if errors.As(err, &fault) {
		*fault = api.Fault{Kind: api.ErrRange, Where: 99}
	}
}

// TestOutcomesKeepNothing: P2: what was handed to Open may become something else before it is asked for, as may the very bytes of its texts.
func TestOutcomesKeepNothing(t *testing.T) {
	for _, c := range []harmed{partly(), mendable(t)} {
		var texts [][]byte
		var own []string
		for _, text := range c.volumes {
			texts = append(texts, []byte(text))
			own = append(own, unsafe.String(&texts[len(texts)-1][0], len(text)))
		}
		v := opened(t, own, c.root)
		clear(own)
		for _, text := range texts {
			clear(text)
		}
		checkOutcome(t, "what was handed in, changed", v, c.want)
		checkReport(t, "what was handed in, changed", v, c.report)
	}
}

// TestOutcomesTogether: P2: whatever is asked from several goroutines at once is answered as if one had asked after the other.
func TestOutcomesTogether(t *testing.T) {
	a, b := partly(), mendable(t)
	for range rounds {
		one, two := opened(t, a.volumes, ""), opened(t, b.volumes, b.root)
		together(12, func(i int) {
			for n := range 3 {
				switch (i + n) % 3 {
				case 0:
					checkUnpack(t, "together", one, a.want)
					checkRepair(t, "together", two, b.want)
				case 1:
					checkUnpack(t, "together", two, b.want)
					checkRepair(t, "together", one, a.want)
				default:
					checkReport(t, "together", one, a.report)
					checkReport(t, "together", two, b.report)
				}
			}
		})
	}
}
