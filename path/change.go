package path

import (
	"slices"

	"cryptex/api"
	"cryptex/tree"
)

// find is the place of the kid of the value at a place that a step leads to.
func find(v []api.Node, at int, x Step) (int, bool) {
	kids := tree.Kids(v, at)
	switch {
	case v[at].Kind == api.List && x.At >= 0 && x.At < len(kids):
		return kids[x.At], true
	case v[at].Kind == api.Map && x.At < 0:
		i, ok := slices.BinarySearch(tree.Keys(v, at), x.Key)
		if ok {
			return kids[i], true
		}
	}
	return 0, false
}

// lead is the place that steps lead to.
func lead(v []api.Node, l []Step) (int, bool) {
	at, ok := 0, true
	step := func(x Step) { at, ok = find(v, at, x) }
	for _, x := range l {
		if ok {
			step(x)
		}
	}
	return at, ok
}

// steps are those of a path, behind a look at the value.
func steps(v []api.Node, s string) ([]Step, api.Errno) {
	if err := tree.Check(v); err != api.OK {
		return nil, err
	}
	return Parse(s)
}

// Get is what stands there.
func Get(v []api.Node, s string) ([]api.Node, api.Errno) {
	l, err := steps(v, s)
	if err != api.OK {
		return nil, err
	}
	at, ok := lead(v, l)
	if !ok {
		return nil, api.ErrNone
	}
	return tree.Sub(v, at), api.OK
}

// change is what is done to the value at a place by its last step.
type change interface {
	done(v []api.Node, at int, x Step) ([]api.Node, api.Errno)
}

// put puts a value there.
type put struct{ x []api.Node }

// cut takes away what is there.
type cut struct{}

// spliced is v with the nodes from one place to another taken away, others put there, and so many kids more of the value at a place.
func spliced(v []api.Node, at, more, from, to int, l ...api.Node) []api.Node {
	out := slices.Concat(v[:from], l, v[to:])
	out[at].Kids += more
	return out
}

// end is where the value ends that begins at a place.
func end(v []api.Node, at int) int { return at + len(tree.Sub(v, at)) }

// entry is the place of the first member of a Map whose key is not ahead of a key.
func entry(v []api.Node, at int, key string) int {
	i, _ := slices.BinarySearch(tree.Keys(v, at), key)
	if kids := tree.Kids(v, at); i < len(kids) {
		return kids[i] - 1
	}
	return end(v, at)
}

func (c put) done(v []api.Node, at int, x Step) ([]api.Node, api.Errno) {
	if kid, ok := find(v, at, x); ok {
		return spliced(v, at, 0, kid, end(v, kid), c.x...), api.OK
	}
	switch {
	case v[at].Kind == api.List && x.At == v[at].Kids:
		to := end(v, at)
		return spliced(v, at, 1, to, to, c.x...), api.OK
	case v[at].Kind == api.Map && x.At < 0:
		to := entry(v, at, x.Key)
		return spliced(v, at, 1, to, to, slices.Concat([]api.Node{{Kind: api.Text, Text: x.Key}}, c.x)...), api.OK
	}
	return nil, api.ErrNone
}

func (c cut) done(v []api.Node, at int, x Step) ([]api.Node, api.Errno) {
	kid, ok := find(v, at, x)
	if !ok {
		return nil, api.ErrNone
	}
	from := kid
	if v[at].Kind == api.Map {
		from--
	}
	return spliced(v, at, -1, from, end(v, kid)), api.OK
}

// changed is v behind a change at the last of some steps.
func changed(v []api.Node, l []Step, c change) ([]api.Node, api.Errno) {
	last := len(l) - 1
	at, ok := lead(v, l[:last])
	if !ok {
		return nil, api.ErrNone
	}
	out, err := c.done(v, at, l[last])
	if err == api.OK {
		err = tree.Check(out)
	}
	if err != api.OK {
		return nil, err
	}
	return out, api.OK
}

// Set is a value with another one there.
func Set(v []api.Node, s string, x []api.Node) ([]api.Node, api.Errno) {
	l, err := steps(v, s)
	if err == api.OK {
		err = tree.Check(x)
	}
	if err != api.OK {
		return nil, err
	}
	if len(l) == 0 {
		return slices.Clone(x), api.OK
	}
	return changed(v, l, put{x})
}

// Delete is a value without what stands there.
func Delete(v []api.Node, s string) ([]api.Node, api.Errno) {
	l, err := steps(v, s)
	if err == api.OK && len(l) == 0 {
		err = api.ErrPath
	}
	if err != api.OK {
		return nil, err
	}
	return changed(v, l, cut{})
}

// spread is where a step leads to from a place: a name at a List is one of each of its kids.
func spread(v []api.Node, at int, x Step) []int {
	from := []int{at}
	if v[at].Kind == api.List && x.At < 0 {
		from = tree.Kids(v, at)
	}
	var out []int
	for _, f := range from {
		if to, ok := find(v, f, x); ok {
			out = append(out, to)
		}
	}
	return out
}

// Each is all that stands there.
func Each(v []api.Node, s string) ([][]api.Node, api.Errno) {
	l, err := steps(v, s)
	if err != api.OK {
		return nil, err
	}
	places := []int{0}
	for _, x := range l {
		var next []int
		for _, at := range places {
			next = append(next, spread(v, at, x)...)
		}
		places = next
	}
	var out [][]api.Node
	for _, at := range places {
		out = append(out, tree.Sub(v, at))
	}
	return out, api.OK
}
