package query

import (
	"cmp"
	"container/heap"
	"slices"

	"cryptex/api"
	"cryptex/order"
	"cryptex/path"
	"cryptex/tree"
)

// mostFields is how many fields of a document may be asked for.
const mostFields = 8

// fieldsMay tells whether fields may be asked for.
func fieldsMay(l []string) bool {
	if len(l) > mostFields {
		return false
	}
	for i, f := range l {
		if f == "" || !isPath(f) || slices.Contains(l[:i], f) {
			return false
		}
	}
	return true
}

// CheckFind tells whether something may be asked for.
func CheckFind(f api.Find) api.Errno {
	if Check(f.Where) != api.OK || !isPath(f.By) || !fieldsMay(f.Fields) || f.Limit < 0 {
		return api.ErrQuery
	}
	return api.OK
}

// Project is some fields of a document.
func Project(doc []api.Node, fields []string) ([]api.Node, api.Errno) {
	if err := tree.Check(doc); err != api.OK {
		return nil, err
	}
	if !fieldsMay(fields) {
		return nil, api.ErrQuery
	}
	if len(fields) == 0 {
		return slices.Clone(doc), api.OK
	}
	var keys []string
	var kids [][]api.Node
	for _, f := range fields {
		if v, err := path.Get(doc, f); err == api.OK {
			keys, kids = append(keys, f), append(kids, v)
		}
	}
	return tree.Map(keys, kids)
}

// row is a document, what it is ordered by (nothing, if nothing stands there), and its place.
type row struct {
	doc api.Doc
	by  []api.Node
	at  int
}

// newRow is the row of a document that is asked for.
func newRow(f api.Find, doc api.Doc, at int) row {
	r := row{doc: doc, at: at}
	if f.By == "" {
		return r
	}
	if there, _ := path.Each(doc.Tree, f.By); len(there) > 0 {
		r.by = there[0]
	}
	return r
}

// byValue compares what two rows are ordered by.
func byValue(a, b row) int {
	if len(a.by) == 0 || len(b.by) == 0 {
		return cmp.Compare(min(len(a.by), 1), min(len(b.by), 1))
	}
	return order.Compare(a.by, b.by)
}

// rows are documents; Less tells which comes behind, so that the library's heap has the last one on top.
type rows struct {
	l    []row
	down bool
}

func (x *rows) compare(a, b row) int {
	c := byValue(a, b)
	if x.down {
		c = -c
	}
	return cmp.Or(c, cmp.Compare(a.doc.Id, b.doc.Id), cmp.Compare(a.at, b.at))
}

func (x *rows) Len() int           { return len(x.l) }
func (x *rows) Less(i, j int) bool { return x.compare(x.l[i], x.l[j]) > 0 }
func (x *rows) Swap(i, j int)      { x.l[i], x.l[j] = x.l[j], x.l[i] }
func (x *rows) Push(r any)         { x.l = append(x.l, r.(row)) }
func (x *rows) Pop() any {
	end := len(x.l) - 1
	r := x.l[end]
	x.l = x.l[:end]
	return r
}

// add adds a row, of which only the first few are kept, if there is a limit.
func (x *rows) add(r row, limit int) {
	if limit == 0 {
		x.l = append(x.l, r)
		return
	}
	heap.Push(x, r)
	if x.Len() > limit {
		heap.Pop(x)
	}
}

// Run is what is asked for.
func Run(f api.Find, docs []api.Doc) ([]api.Doc, api.Errno) {
	if err := CheckFind(f); err != api.OK {
		return nil, err
	}
	if !all(docs, func(d api.Doc) bool { return tree.Check(d.Tree) == api.OK }) {
		return nil, api.ErrArg
	}
	x := &rows{down: f.Down}
	for i, d := range docs {
		if so, err := Eval(f.Where, d.Tree); err == api.OK && so {
			x.add(newRow(f, d, i), f.Limit)
		}
	}
	slices.SortFunc(x.l, x.compare)
	var out []api.Doc
	for _, r := range x.l {
		v, err := Project(r.doc.Tree, f.Fields)
		if err != api.OK {
			return nil, err
		}
		out = append(out, api.Doc{Id: r.doc.Id, Tree: v})
	}
	return out, api.OK
}
