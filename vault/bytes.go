package vault

import (
	"slices"

	"cryptex/api"
	"cryptex/code"
	"cryptex/octet"
)

const (
	numberSize = 8 // bytes of N
	manySize   = 4 // bytes of how many blobs there are
)

// texts are labels and boxes, item by item.
func texts(l []Item) []string {
	var out []string
	for _, x := range l {
		out = append(out, x.Label, x.Box)
	}
	return out
}

// items are those of which l are the texts.
func items(l []string) []Item {
	var out []Item
	for two := range slices.Chunk(l, 2) {
		out = append(out, Item{two[0], two[1]})
	}
	return out
}

// Bytes is a state as bytes.
func Bytes(s State) (string, api.Errno) {
	if err := Check(s); err != api.OK {
		return "", err
	}
	first := []string{s.Head, octet.Big(uint64(s.N), numberSize), octet.Big(uint64(len(s.Blobs)), manySize)}
	return code.Join(slices.Concat(first, texts(s.Blobs), texts(s.Cells))), api.OK
}

// Read is the state of which b are the Bytes.
func Read(b string) (State, api.Errno) {
	parts, err := code.Split(b)
	if err != api.OK || len(parts) < 3 || len(parts)%2 != 1 || len(parts[1]) != numberSize || len(parts[2]) != manySize {
		return State{}, api.ErrBytes
	}
	rest := parts[3:]
	n, many := octet.ReadBig(parts[1]), octet.ReadBig(parts[2])
	if n > mostBatches || 2*many > uint64(len(rest)) {
		return State{}, api.ErrBytes
	}
	s := State{items(rest[:2*many]), items(rest[2*many:]), parts[0], int(n)}
	if Check(s) != api.OK {
		return State{}, api.ErrBytes
	}
	return s, api.OK
}
