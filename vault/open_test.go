package vault_test

import (
	"fmt"
	"math/rand"
	"slices"
	"strings"
	"testing"
	"unsafe"

	"vault/api"
	"vault/vault"
)

func opened(t *testing.T, volumes []string, root string) *vault.Vault {
	t.Helper()
	v, err := vault.Open(volumes, root)
	if v == nil || err != nil {
		t.Fatalf("P12: Open(%d volumes, %x) = %v, %v", len(volumes), root, v, err)
	}
	return v
}

// checkTold: P13: the vault tells of itself what went in.
func checkTold(t *testing.T, what string, v *vault.Vault, p api.Params, root string, objects []api.Object) {
	t.Helper()
	var entries []api.Entry
	for _, object := range sortedByName(objects) {
		entries = append(entries, api.Entry{Name: object.Name, Length: len(object.Data)})
	}
	if v.Params() != p {
		t.Errorf("P13: %s: Params() = %+v, want %+v", what, v.Params(), p)
	}
	if v.Root() != root {
		t.Errorf("P13: %s: Root() = %x, want %x", what, v.Root(), root)
	}
	if !slices.Equal(v.Objects(), entries) {
		t.Errorf("P13: %s: Objects() = %.40v, want %.40v", what, v.Objects(), entries)
	}
}

func sameReport(a, b api.Report) bool {
	return slices.Equal(a.Unread, b.Unread) && slices.Equal(a.Absent, b.Absent) && slices.Equal(a.Bad, b.Bad) && slices.Equal(a.Short, b.Short) && slices.Equal(a.Forged, b.Forged)
}

// checkReport: P14: asked twice, since asking changes nothing.
func checkReport(t *testing.T, what string, v *vault.Vault, want api.Report) {
	t.Helper()
	for range 2 {
		if report := v.Verify(); !sameReport(report, want) {
			t.Errorf("P14: %s: Verify() = %+v, want %+v", what, report, want)
		}
	}
}

func shuffled(random *rand.Rand, list []string) []string {
	list = slices.Clone(list)
	random.Shuffle(len(list), func(i, j int) { list[i], list[j] = list[j], list[i] })
	return list
}

// TestOpen: P11 to P14 at the edges: what Close gave can be read, with the root and without, in any order, and one volume tells as much as all.
func TestOpen(t *testing.T) {
	random := rand.New(rand.NewSource(41))
	for _, c := range edges() {
		volumes, root := packed(t, c.p, c.objects)
		for _, given := range []string{"", root} {
			v := opened(t, shuffled(random, volumes), given)
			checkTold(t, c.what, v, c.p, root, c.objects)
			checkReport(t, c.what, v, api.Report{})
			checkTold(t, c.what+", asked again", v, c.p, root, c.objects)
			for i := range volumes {
				checkTold(t, c.what+", one volume", opened(t, volumes[i:i+1], given), c.p, root, c.objects)
			}
		}
	}
}

func TestOpenAny(t *testing.T) {
	random := rand.New(rand.NewSource(42))
	for range 100 {
		p, list := anyVault(random)
		volumes, root := packed(t, p, list)
		v := opened(t, shuffled(random, volumes), root)
		checkTold(t, "any vault", v, p, root, list)
		checkReport(t, "any vault", v, api.Report{})
	}
}

// TestOpenRoot: P12: a root is empty or has 32 bytes, and is asked for ahead of all else.
func TestOpenRoot(t *testing.T) {
	volumes, root := packed(t, params(2, 1, 4, 3), objects("b", "hello", "a", ""))
	for _, list := range [][]string{volumes, volumes[:1], nil, {"x"}, {"", strings.Repeat("x", 60001)}, {volumes[0], volumes[0]}} {
		for _, given := range []string{"x", root[:1], root[:31], root[1:], root + "\x00", "\x00" + root, root + root, strings.Repeat("x", 64), strings.Repeat("\x00", 33), fmt.Sprintf("%x", root)} {
			v, err := vault.Open(list, given)
			checkFaults(t, fmt.Sprintf("P12: a root of %d bytes", len(given)), err, at(api.ErrRoot, 0))
			if v != nil {
				t.Errorf("P12: refused, and yet a Vault")
			}
		}
	}
}

// listed: a volume in the list that is handed to Open, and what is known of it.
type listed struct {
	text  string
	vault string   // its root; empty, if it can't be read
	v     int      // its number
	mark  api.Mark // with which it fails, if it can't be read
}

// shelf: volumes of two vaults, whole and cut off, and some that can't be read.
func shelf(t *testing.T) (shelf []listed, roots []string) {
	p := params(2, 1, 4, 3)
	for _, list := range [][]api.Object{objects("a", "", "b", "hello"), objects("a", "x", "b", "hello")} {
		volumes, root := packed(t, p, list)
		roots = append(roots, root)
		for v, volume := range volumes {
			shelf = append(shelf, listed{volume, root, v, api.Mark{}}, listed{volume[:len(volume)-4], root, v, api.Mark{}}, listed{volume[:len(volume)-1], root, v, api.Mark{}}, listed{turned(volume, len(volume)-1), root, v, api.Mark{}})
		}
		volume := volumes[1]
		shelf = append(shelf, listed{turned(volume, len(volume)-10), "", 0, at(api.ErrCheck, len(volume)-36)}, listed{volume + "\x00", "", 0, at(api.ErrCode, len(volume))}, listed{volume[:44], "", 0, at(api.ErrCode, 44)})
	}
	parts := small()
	forged := textOf(checked(change(parts, "root", roots[1])))
	return append(shelf, listed{"", "", 0, at(api.ErrCode, 0)}, listed{"VOL1", "", 0, at(api.ErrCode, 4)}, listed{strings.Repeat("V", 60001), "", 0, at(api.ErrBig, 60001)}, listed{forged, "", 0, at(api.ErrRoot, 4)}), roots
}

// openingOf: what P12 says of a list, word by word: the marks of the error, or which are unread and absent.
func openingOf(list []listed, root string) (marks []api.Mark, report api.Report) {
	var read, places []int
	var failed []api.Mark
	for place, entry := range list {
		switch {
		case entry.vault == "":
			failed = append(failed, entry.mark)
			report.Unread = append(report.Unread, place)
		case root != "" && root != entry.vault:
			failed = append(failed, at(api.ErrRoot, 4))
			report.Unread = append(report.Unread, place)
		default:
			read, places = append(read, entry.v), append(places, place)
		}
	}
	if len(read) == 0 && len(list) == 0 {
		return []api.Mark{at(api.ErrEmpty, 0)}, report
	}
	if len(read) == 0 {
		return []api.Mark{at(api.ErrEmpty, len(list)), at(api.ErrHeader, 0), failed[0]}, report
	}
	for i, place := range places {
		if list[place].vault != list[places[0]].vault {
			return []api.Mark{at(api.ErrMixed, place)}, report
		}
		if slices.Contains(read[:i], read[i]) {
			return []api.Mark{at(api.ErrTwice, place)}, report
		}
	}
	for v := range 3 {
		if !slices.Contains(read, v) {
			report.Absent = append(report.Absent, v)
		}
	}
	return nil, report
}

// TestOpenLists: P12 against its words: lists of volumes of which some can't be read, belong to another vault or are there twice.
func TestOpenLists(t *testing.T) {
	random := rand.New(rand.NewSource(43))
	shelf, roots := shelf(t)
	counts := map[api.Kind]int{}
	for range 6000 {
		var list []listed
		var volumes []string
		// Often of few volumes, so that lists without an error are among them.
		some := random.Intn(len(shelf)) + 1
		for range random.Intn(6) {
			list = append(list, shelf[(some+random.Intn(some))%len(shelf)])
			volumes = append(volumes, list[len(list)-1].text)
		}
		root := []string{"", roots[0], roots[1], strings.Repeat("r", 32)}[random.Intn(4)]
		marks, want := openingOf(list, root)
		v, err := vault.Open(volumes, root)
		what := fmt.Sprintf("%.5q, root %.4x", volumes, root)
		checkFaults(t, "P12: "+what, err, marks...)
		if (v == nil) != (len(marks) > 0) {
			t.Fatalf("P12: %s: %v, %v", what, v, err)
		}
		if v == nil {
			counts[marks[0].Kind]++
			continue
		}
		counts[0]++
		report := v.Verify()
		if !slices.Equal(report.Unread, want.Unread) || !slices.Equal(report.Absent, want.Absent) {
			t.Errorf("P14: %s: unread %v, absent %v, want %v, %v", what, report.Unread, report.Absent, want.Unread, want.Absent)
		}
	}
	for _, kind := range []api.Kind{0, api.ErrEmpty, api.ErrMixed, api.ErrTwice} {
		if counts[kind] < 100 {
			t.Errorf("only %d lists for the kind %d", counts[kind], kind)
		}
	}
}

// TestOpenSeveral: P12: the lists that the document names, one by one.
func TestOpenSeveral(t *testing.T) {
	p := params(2, 1, 4, 3)
	a, root := packed(t, p, objects("b", "hello", "a", ""))
	b, other := packed(t, p, objects("b", "hello", "a", "x"))
	c, _ := packed(t, params(2, 1, 4, 4), objects("b", "hello", "a", ""))
	d, _ := packed(t, p, objects("b", "Hello", "a", "")) // the same list, and other leaves
	e, _ := packed(t, p, objects("b", "", "c", "hello")) // the same leaves, and another list
	big := strings.Repeat("x", 60001)
	for _, x := range []struct {
		what    string
		volumes []string
		root    string
		want    []api.Mark
	}{
		{"no volumes", nil, "", marks(at(api.ErrEmpty, 0))},
		{"no volumes, and a root", []string{}, root, marks(at(api.ErrEmpty, 0))},
		{"the example", []string{"VOL"}, "", marks(at(api.ErrEmpty, 1), at(api.ErrHeader, 0), at(api.ErrCode, 0))},
		{"an empty volume", []string{""}, root, marks(at(api.ErrEmpty, 1), at(api.ErrHeader, 0), at(api.ErrCode, 0))},
		{"none read", []string{"VOL1", big, ""}, "", marks(at(api.ErrEmpty, 3), at(api.ErrHeader, 0), at(api.ErrCode, 4))},
		{"none read, the first too great", []string{big, "VOL1"}, "", marks(at(api.ErrEmpty, 2), at(api.ErrHeader, 0), at(api.ErrBig, 60001))},
		{"none of the root", []string{a[2], "VOL1"}, other, marks(at(api.ErrEmpty, 2), at(api.ErrHeader, 0), at(api.ErrRoot, 4))},
		{"none of the root, the first unread", []string{"VOL1", a[2]}, other, marks(at(api.ErrEmpty, 2), at(api.ErrHeader, 0), at(api.ErrCode, 4))},
		{"of another root, and a check that is wrong", []string{turned(a[0], len(a[0])-5)}, other, marks(at(api.ErrEmpty, 1), at(api.ErrHeader, 0), at(api.ErrCheck, len(a[0])-36))},
		{"of another root, and bytes behind", []string{a[0] + "x"}, other, marks(at(api.ErrEmpty, 1), at(api.ErrHeader, 0), at(api.ErrCode, len(a[0])))},
		{"one of two vaults", []string{a[0], b[1], a[2]}, root, nil},
		{"of two vaults", []string{a[0], a[1], b[2]}, "", marks(at(api.ErrMixed, 2))},
		{"of two vaults, behind one that is unread", []string{"x", a[0], "y", b[2]}, "", marks(at(api.ErrMixed, 3))},
		{"of two vaults with one number", []string{a[0], b[0]}, "", marks(at(api.ErrMixed, 1))},
		{"of two vaults with one list", []string{a[0], d[1]}, "", marks(at(api.ErrMixed, 1))},
		{"of two vaults with one list and one number", []string{a[0], a[1], d[1]}, "", marks(at(api.ErrMixed, 2))},
		{"of two vaults with the same leaves", []string{a[0], e[1]}, "", marks(at(api.ErrMixed, 1))},
		{"of two vaults with other params", []string{a[0], c[3]}, "", marks(at(api.ErrMixed, 1))},
		{"of two vaults with other params, the other way round", []string{c[3], a[0]}, "", marks(at(api.ErrMixed, 1))},
		{"two of each", []string{b[1], a[0], a[1], b[1]}, "", marks(at(api.ErrMixed, 1))},
		{"one twice", []string{a[1], a[1]}, root, marks(at(api.ErrTwice, 1))},
		{"one three times", []string{a[1], a[0], a[2], a[0], a[0]}, "", marks(at(api.ErrTwice, 3))},
		{"one twice, behind one that is unread", []string{"x", a[1], "", a[1]}, root, marks(at(api.ErrTwice, 3))},
		{"one twice, without its block", []string{a[1], a[0], a[1][:len(a[1])-4]}, root, marks(at(api.ErrTwice, 2))},
		{"one twice, with another block", []string{turned(a[1], len(a[1])-1), a[1]}, root, marks(at(api.ErrTwice, 1))},
		{"one twice, ahead of another vault", []string{a[1], a[1], b[0]}, "", marks(at(api.ErrTwice, 1))},
		{"one twice, behind another vault", []string{a[1], b[0], a[1]}, "", marks(at(api.ErrMixed, 1))},
		{"one twice, behind another vault that is unread", []string{a[1], b[0], a[1]}, root, marks(at(api.ErrTwice, 2))},
		{"one twice, unread both times", []string{a[1], b[0], b[0]}, root, nil},
	} {
		v, err := vault.Open(x.volumes, x.root)
		checkFaults(t, "P12: "+x.what, err, x.want...)
		if (v == nil) != (len(x.want) > 0) {
			t.Errorf("P12: %s: %v, %v", x.what, v, err)
		}
	}
	v := opened(t, []string{"", a[0], b[1], big, a[2]}, root)
	checkTold(t, "one of two vaults", v, p, root, objects("b", "hello", "a", ""))
	checkReport(t, "one of two vaults", v, api.Report{Unread: []int{0, 2, 3}, Absent: []int{1}, Bad: []int{1}})
	checkReport(t, "the other one", opened(t, []string{"", a[0], b[1], big, a[2]}, other), api.Report{Unread: []int{0, 1, 3, 4}, Absent: []int{0, 2}, Bad: []int{0, 2}, Short: []int{0}})
}

// TestOpenMany: P1: a list of many volumes.
func TestOpenMany(t *testing.T) {
	volumes, root := packed(t, params(2, 1, 4, 3), objects("b", "hello", "a", ""))
	list := append(make([]string, 100000), volumes...)
	report := opened(t, list, root).Verify()
	if len(report.Unread) != 100000 || report.Unread[99999] != 99999 || len(report.Absent)+len(report.Bad) != 0 {
		t.Errorf("P14: of many volumes %d are unread", len(report.Unread))
	}
	_, err := vault.Open(list[:100000], root)
	checkFaults(t, "P12: many volumes", err, at(api.ErrEmpty, 100000), at(api.ErrHeader, 0), at(api.ErrCode, 0))
}

// TestOpenKeepsNothing: P2: the list is not written into, nor what lies behind it, and may become something else later, as may the very bytes of its texts.
func TestOpenKeepsNothing(t *testing.T) {
	p, list := params(2, 1, 4, 3), objects("b", "hello", "a", "")
	volumes, root := packed(t, p, list)
	var texts [][]byte
	var own []string
	for _, text := range append(slices.Clone(volumes), root) {
		texts = append(texts, []byte(text))
		own = append(own, unsafe.String(&texts[len(texts)-1][0], len(text)))
	}
	handed := append(slices.Clone(own[:3]), "mine", "mine")[:3]
	v := opened(t, handed, own[3])
	if !slices.Equal(handed[:5], append(slices.Clone(volumes), "mine", "mine")) {
		t.Errorf("P2: what was handed in is now %.9q", handed[:5])
	}
	checkReport(t, "ahead of any change", opened(t, handed, own[3]), api.Report{})
	clear(handed[:5])
	for _, text := range texts {
		clear(text)
	}
	checkTold(t, "what was handed in, changed", v, p, root, list)
	checkReport(t, "what was handed in, changed", v, api.Report{})
}

// TestVaultsApart: P2: Vaults of one list know nothing of one another, and those of other lists neither.
func TestVaultsApart(t *testing.T) {
	p := params(2, 1, 4, 3)
	a, root := packed(t, p, objects("b", "hello", "a", ""))
	b, other := packed(t, params(3, 0, 5, 2), objects("x", "some other data"))
	one, two, three := opened(t, a[:2], root), opened(t, a[1:], ""), opened(t, b[1:], other)
	for range 2 {
		checkReport(t, "one", one, api.Report{Absent: []int{2}, Bad: []int{2}})
		checkReport(t, "two", two, api.Report{Absent: []int{0}, Bad: []int{0}})
		checkReport(t, "three", three, api.Report{Absent: []int{0}, Bad: []int{0}, Short: []int{0}})
		checkTold(t, "two", two, p, root, objects("b", "hello", "a", ""))
		checkTold(t, "three", three, params(3, 0, 5, 2), other, objects("x", "some other data"))
	}
}

// TestAnswersAreNew: P2: whoever was given a list may write into it, its spare room too: nothing else is changed by that.
func TestAnswersAreNew(t *testing.T) {
	p, list := params(2, 1, 1, 4), objects("c", "several stripes", "b", "of data", "a", "")
	volumes, root := packed(t, p, list)
	v := opened(t, []string{"x", volumes[1], "y", volumes[2]}, root)
	want := v.Verify()
	want = api.Report{Unread: slices.Clone(want.Unread), Absent: slices.Clone(want.Absent), Bad: slices.Clone(want.Bad), Short: slices.Clone(want.Short)}
	if len(want.Unread) == 0 || len(want.Absent) == 0 || len(want.Bad) == 0 || len(want.Short) == 0 {
		t.Fatalf("P14: not enough is lost: %+v", want)
	}
	entries, again := v.Objects(), v.Objects()
	clear(entries[:cap(entries)])
	if again[0] != (api.Entry{Name: "a"}) {
		t.Errorf("P2: one list of objects changed another: %v", again)
	}
	checkTold(t, "written into", v, p, root, list)
	for which := range 4 {
		first, second := v.Verify(), v.Verify()
		lists := [][]int{first.Unread, first.Absent, first.Bad, first.Short}
		wanted := [][]int{want.Unread, want.Absent, want.Bad, want.Short}
		spoil := lists[which][:cap(lists[which])]
		for i := range spoil {
			spoil[i] = -9
		}
		for i := range lists {
			if i != which && !slices.Equal(lists[i], wanted[i]) {
				t.Errorf("P2: writing into list %d of a report changed list %d", which, i)
			}
		}
		if !sameReport(second, want) {
			t.Errorf("P2: writing into one report changed another: %+v", second)
		}
		checkReport(t, "written into", v, want)
	}
}

// TestVaultTogether: P2: whatever is asked from several goroutines at once is answered as if one had asked after the other.
func TestVaultTogether(t *testing.T) {
	p, list := params(3, 2, 2, 5), objects("c", strings.Repeat("several stripes", 9), "b", "of data", "a", "")
	volumes, root := packed(t, p, list)
	kept := []string{volumes[4], turned(volumes[1], len(volumes[1])-1), volumes[2], "x"}
	want := opened(t, kept, root).Verify()
	for range rounds {
		v := opened(t, kept, root)
		together(16, func(i int) {
			for n := range 4 {
				if (i+n)%2 == 0 {
					if report := v.Verify(); !sameReport(report, want) {
						t.Errorf("P2: Verify() = %+v, want %+v", report, want)
					}
				} else {
					checkTold(t, "together", v, p, root, list)
				}
			}
		})
	}
}

// TestOpenFaultsAreNew: whoever is given an error may write into it: what is answered later is the same.
func TestOpenFaultsAreNew(t *testing.T) {
	for range 2 {
		_, err := vault.Open([]string{"VOL"}, "")
		checkFaults(t, "P12: VOL", err, at(api.ErrEmpty, 1), at(api.ErrHeader, 0), at(api.ErrCode, 0))
		for fault, ok := err.(*api.Fault); ok; fault, ok = err.(*api.Fault) {
			err = fault.Inner
			*fault = api.Fault{Kind: api.ErrRange, Where: 99}
		}
	}
}
