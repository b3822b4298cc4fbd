package vault

import (
	"slices"

	"cryptex/api"
	"cryptex/code"
	"cryptex/octet"
	"cryptex/sha"
)

// fault is what an op panics with that can't be done.
type fault struct{ number api.Errno }

// may tells whether an op may be.
func (o Op) may() bool {
	if o.Kind < 0 || o.Kind >= kinds || !isLabel(o.Label) {
		return false
	}
	if o.Kind == takeBlob || o.Kind == takeCell {
		return o.Box == ""
	}
	return len(o.Box) <= mostBox
}

// isBatch tells whether ops are one.
func isBatch(l []Op) bool {
	wrong := func(o Op) bool { return !o.may() }
	return len(l) >= 1 && len(l) <= mostOps && !slices.ContainsFunc(l, wrong)
}

// Put is a batch as bytes.
func Put(l []Op) (string, api.Errno) {
	if !isBatch(l) {
		return "", api.ErrArg
	}
	var out []string
	for _, o := range l {
		out = append(out, octet.Big(uint64(o.Kind), 1), o.Label, o.Box)
	}
	return code.Join(out), api.OK
}

// Get is the batch of which b is the Put.
func Get(b string) ([]Op, api.Errno) {
	parts, err := code.Split(b)
	if err != api.OK || len(parts)%3 != 0 {
		return nil, api.ErrBytes
	}
	var l []Op
	for three := range slices.Chunk(parts, 3) {
		if len(three[0]) != 1 {
			return nil, api.ErrBytes
		}
		l = append(l, Op{int(octet.ReadBig(three[0])), three[1], three[2]})
	}
	if !isBatch(l) {
		return nil, api.ErrBytes
	}
	return l, api.OK
}

// Next is the head behind a batch.
func Next(head string, l []Op) (string, api.Errno) {
	b, err := Put(l)
	if err != api.OK {
		return "", err
	}
	return sha.Sum(head + b), api.OK
}

// place is where a label stands, or would, in a row that rises.
func place(l []Item, label string) (int, bool) {
	return slices.BinarySearchFunc(l, label, Item.against)
}

// put is a row with one item more; with what is there a call is asked what becomes of it.
func put(l []Item, x Item, there func(Item)) []Item {
	at, ok := place(l, x.Label)
	if ok {
		there(l[at])
		l[at] = x
		return l
	}
	if len(l) == mostItems {
		panic(fault{api.ErrFull})
	}
	return slices.Insert(l, at, x)
}

// take is a row without one item.
func take(l []Item, label string) []Item {
	at, ok := place(l, label)
	if !ok {
		panic(fault{api.ErrNone})
	}
	return slices.Delete(l, at, at+1)
}

func (s *State) putBlob(o Op) { s.Blobs = put(s.Blobs, Item{o.Label, o.Box}, func(Item) {}) }

func (s *State) takeBlob(o Op) { s.Blobs = take(s.Blobs, o.Label) }

func (s *State) putCell(o Op) {
	s.Cells = put(s.Cells, Item{o.Label, o.Box}, func(Item) { panic(fault{api.ErrTwice}) })
}

func (s *State) takeCell(o Op) { s.Cells = take(s.Cells, o.Label) }

// do does all ops, one by one, and goes one batch on.
func (s *State) do(l []Op) (err api.Errno) {
	defer func() {
		if f, ok := recover().(fault); ok {
			err = f.number
		}
	}()
	by := [kinds]func(Op){putBlob: s.putBlob, takeBlob: s.takeBlob, putCell: s.putCell, takeCell: s.takeCell}
	for _, o := range l {
		by[o.Kind](o)
	}
	if s.N == mostBatches {
		return api.ErrFull
	}
	s.N++
	s.Head, err = Next(s.Head, l)
	return err
}

// Apply does a batch.
func Apply(s State, l []Op) (State, api.Errno) {
	if err := Check(s); err != api.OK {
		return State{}, err
	}
	if !isBatch(l) {
		return State{}, api.ErrArg
	}
	now := State{slices.Clone(s.Blobs), slices.Clone(s.Cells), s.Head, s.N}
	if err := now.do(l); err != api.OK {
		return State{}, err
	}
	return now, api.OK
}
