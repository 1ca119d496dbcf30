// Package draft has the objects of a vault that is being packed, until they are packed.
package draft

import (
	"maps"
	"slices"
	"strings"

	"vault/api"
	"vault/fault"
	"vault/layout"
)

// Draft is what a Writer has so far. Only one call may work on it at a time.
type Draft struct {
	params  api.Params
	objects map[string]*object
	last    *object // the one that was begun last
	begun   int     // how many objects
	length  int     // of the data of all objects
	broken  bool
	first   api.Mark // of the error that broke it
	closed  bool
}

type object struct {
	number int
	data   []byte
}

// New gives a Draft without an object (P7).
func New(p api.Params) (*Draft, error) {
	if err := layout.CheckParams(p); err != nil {
		return nil, err
	}
	return &Draft{params: p, objects: map[string]*object{}}, nil
}

// Begin begins an object (P8).
func (d *Draft) Begin(name string) error {
	if err := d.checkState(); err != nil {
		return err
	}
	if len(name) < 1 || len(name) > api.MaxName {
		return d.breakOff(api.ErrName, d.begun)
	}
	if other, there := d.objects[name]; there {
		return d.breakOff(api.ErrDuplicate, other.number)
	}
	if d.begun == api.MaxObjects {
		return d.breakOff(api.ErrBig, d.begun)
	}
	d.last = &object{number: d.begun}
	// A copy, since what is handed in is not kept.
	d.objects[strings.Clone(name)] = d.last
	d.begun++
	return nil
}

// Write puts data behind that of the object that was begun last, and gives its length (P9).
func (d *Draft) Write(data string) (int, error) {
	if err := d.checkState(); err != nil {
		return 0, err
	}
	if d.last == nil {
		return 0, fault.At(api.ErrState, -1)
	}
	if len(data) > api.MaxTotal-d.length {
		return 0, d.breakOff(api.ErrBig, d.length)
	}
	d.last.data = append(d.last.data, data...)
	d.length += len(data)
	return len(data), nil
}

// Close gives the volumes and the root (P10).
func (d *Draft) Close() ([]string, string, error) {
	if d.closed {
		return nil, "", fault.At(api.ErrState, d.begun)
	}
	d.closed = true
	defer d.letGo()
	if d.broken {
		return nil, "", d.overFirst(api.ErrUnfinished)
	}
	if count := layout.CountBlocks(d.params, d.length); count > api.MaxBlocks {
		return nil, "", fault.At(api.ErrBig, count)
	}
	entries, data := d.sorted()
	volumes, root := layout.Volumes(d.params, entries, layout.Blocks(d.params, data))
	return volumes, root, nil
}

// checkState refuses what only a Draft that is neither closed nor broken can do.
func (d *Draft) checkState() error {
	if d.closed {
		return fault.At(api.ErrState, d.begun)
	}
	if d.broken {
		return d.overFirst(api.ErrState)
	}
	return nil
}

func (d *Draft) breakOff(kind api.Kind, where int) error {
	d.broken = true
	d.first = api.Mark{Kind: kind, Where: where}
	d.letGo()
	return fault.At(kind, where)
}

// overFirst gives an error over that which broke the Draft.
// That one is made anew, since whoever was given it before may have written into it.
func (d *Draft) overFirst(kind api.Kind) error {
	return fault.Over(kind, d.begun, fault.At(d.first.Kind, d.first.Where))
}

// letGo drops the objects as soon as no call will ask for them any more.
func (d *Draft) letGo() {
	d.objects = nil
	d.last = nil
}

// sorted gives the objects in the order of their names: what the list tells of each, and all their data.
func (d *Draft) sorted() ([]api.Entry, string) {
	var entries []api.Entry
	var data strings.Builder
	for _, name := range slices.Sorted(maps.Keys(d.objects)) {
		bytes := d.objects[name].data
		entries = append(entries, api.Entry{Name: name, Length: len(bytes)})
		data.Write(bytes)
	}
	return entries, data.String()
}
