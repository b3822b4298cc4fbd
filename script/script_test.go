package script_test

import (
	"math"
	"slices"
	"strconv"
	"strings"
	"testing"

	"cryptex/api"
	"cryptex/client"
	"cryptex/code"
	"cryptex/host"
	"cryptex/model"
	"cryptex/orac"
	"cryptex/sample"
	"cryptex/script"
	"cryptex/vault"
	"cryptex/wire"
)

// act is an act that looks like chance, over few names, so that most of them meet.
func act(c *sample.Chance) api.Act {
	texts := []string{`{"a":1}`, `{"a":2,"b":"x"}`, `{"a":[1,2,3],"b":"y"}`, `{"b":["x","y"],"c":{"d":1}}`, `{}`, `{"a":null,"c":[{"d":1},{"d":[2,3]}]}`, `{"a":true}`, `[]`, `{"a"`}
	a := api.Act{Kind: c.Below(8), Coll: []string{"one", "two", "three"}[c.Below(3)], Id: strconv.Itoa(c.Below(4)), Text: texts[c.Below(len(texts))], Path: []string{"a", "b", "c.d", "a[0]", "", "x.y", ".."}[c.Below(7)], Paths: []string{"a", "b", "c.d"}[:c.Below(4)]}
	switch {
	case a.Kind == 3:
		a.Text = []string{"", "1", `"x"`, `{"d":7}`, "[1,2]", "{"}[c.Below(6)]
	case a.Kind == 6:
		a.Find = question(c)
	case c.Below(3) == 0:
		a.Kind = 1
	}
	if c.Below(4) > 0 && a.Kind != 0 {
		a.Coll = "one"
	}
	return a
}

func question(c *sample.Chance) api.Find {
	leaf := func() api.Q {
		p := []string{"a", "b", "c.d", "x"}[c.Below(4)]
		switch c.Below(5) {
		case 0:
			return api.Q{Op: api.OpIn, Path: p, Value: sample.Value(`[1,"x",2]`)}
		case 1:
			return api.Q{Op: api.OpLess, Path: p, Value: sample.Num(3)}
		}
		return api.Q{Op: api.OpEq, Path: p, Value: sample.Value([]string{"1", "2", `"x"`, `"y"`, "null", "[1]"}[c.Below(6)])}
	}
	f := api.Find{By: []string{"", "a"}[c.Below(2)], Down: c.Below(2) == 0, Limit: c.Below(4)}
	switch c.Below(5) {
	case 0:
		f.Where = []api.Q{{Op: api.OpOr, Kids: 2}, leaf(), leaf()}
	case 1:
		f.Where = []api.Q{{Op: api.OpAnd, Kids: 2}, leaf(), leaf()}
	case 2:
		f.Where = nil
	default:
		f.Where = []api.Q{leaf()}
	}
	if c.Below(3) == 0 {
		f.Fields = []string{"a", "c.d"}
	}
	return f
}

func steps(seed, n int, harm func(c *sample.Chance) int) []script.Step {
	c := sample.NewChance(seed)
	l := []script.Step{{Act: api.Act{Kind: 0, Coll: "one", Paths: []string{"a", "b", "c.d"}}}}
	for len(l) < n {
		l = append(l, script.Step{Act: act(c), Harm: harm(c), N: c.Below(200) - 100, Text: c.Bytes(c.Below(4))})
	}
	return l
}

func honest(*sample.Chance) int { return 0 }

// do is what the model answers; acts 7 and 8 are none of its own.
func do(m model.Model, a api.Act) (model.Model, model.Answer) {
	if a.Kind == 7 || a.Kind == 8 {
		return m, model.Answer{}
	}
	return model.Do(m, a)
}

func TestHonestServersAnswerAsTheModel(t *testing.T) {
	for seed := range 40 {
		l := steps(seed, 100, honest)
		for _, real := range []bool{true, false} {
			tr := script.Run(sample.NewChance(seed).Bytes(100000), real, "key", l)
			var m model.Model
			for i, s := range l {
				var want model.Answer
				m, want = do(m, s.Act)
				if !model.SameAnswer(tr.Answers[i], want) {
					t.Fatalf("seed %d, real %v, step %d, %v: %v, want %v", seed, real, i, s.Act, tr.Answers[i], want)
				}
			}
			if tr.Bad || tr.Client.Closed != 0 {
				t.Errorf("seed %d: bad", seed)
			}
		}
	}
}

// lies are harms that look like chance, one in so many steps.
func lies(kinds []int, often int) func(c *sample.Chance) int {
	return func(c *sample.Chance) int {
		if c.Below(often) > 0 {
			return 0
		}
		return kinds[c.Below(len(kinds))]
	}
}

// maybe are the models that may be, by what was answered.
type maybe struct {
	l      []model.Model
	closed api.Errno
}

// answered goes on behind an answer; false, if no model gives it.
func (x *maybe) answered(a api.Act, told model.Answer) bool {
	if x.closed != 0 {
		return told.Err == x.closed && len(told.Docs) == 0
	}
	var next []model.Model
	for _, m := range x.l {
		now, want := do(m, a)
		switch {
		case told.Err == api.ErrDead:
			next = append(next, m)
			if !model.Same(m, now) {
				next = append(next, now)
			}
		case model.SameAnswer(told, want):
			next = append(next, now)
		}
	}
	if told.Err == api.ErrTampered || told.Err == api.ErrRolled {
		x.closed = told.Err
		return len(told.Docs) == 0
	}
	x.l = next
	return len(next) > 0
}

func TestWhateverTheServerReplies(t *testing.T) {
	for name, kinds := range map[string][]int{"lost": {1, 2, 3}, "dies": {3}, "lies": {4, 5, 6}, "all": {1, 2, 3, 4, 5, 6, 7, -1}} {
		closed, dead := 0, 0
		for seed := range 60 {
			often := 4 + seed%12
			l := steps(seed+1000, 100, lies(kinds, often))
			for _, real := range []bool{true, false} {
				tr := script.Run(sample.NewChance(seed).Bytes(100000), real, "key", l)
				x := &maybe{l: []model.Model{{}}}
				for i, s := range l {
					told := tr.Answers[i]
					if !x.answered(s.Act, told) {
						t.Fatalf("%s, seed %d, real %v, step %d, %v: %v", name, seed, real, i, s, told)
					}
					if told.Err == api.ErrDead {
						dead++
						if s.Harm < 1 || s.Harm > 3 {
							t.Fatalf("%s, seed %d, step %d: lost without a harm", name, seed, i)
						}
					}
					if x.closed != 0 && s.Harm == 0 && i > 0 && tr.Answers[i-1].Err != x.closed && name != "lies" && name != "all" {
						t.Fatalf("%s, seed %d, step %d: an honest server closes the client", name, seed, i)
					}
				}
				if tr.Client.Closed != x.closed || tr.Bad {
					t.Errorf("%s, seed %d: %v", name, seed, tr.Client)
				}
				if x.closed != 0 {
					closed++
				}
			}
		}
		if (name == "lost" || name == "dies") && (closed > 0 || dead == 0) || (name == "lies" || name == "all") && closed == 0 {
			t.Errorf("%s: closed %d times, %d answers lost", name, closed, dead)
		}
	}
}

func TestTheTrace(t *testing.T) {
	l := steps(3, 60, honest)
	for _, real := range []bool{true, false} {
		tr := script.Run("tape", real, "key", l)
		if len(tr.Answers) != 60 || len(tr.View) == 0 || len(tr.View) != len(tr.Replies) || tr.Bad || (tr.Used == 0) != real {
			t.Errorf("%d answers, %d requests, %d replies, Used %d", len(tr.Answers), len(tr.View), len(tr.Replies), tr.Used)
		}
		h, x := orac.Real(), host.New(-1)
		if !real {
			h = orac.Ideal("tape")
		}
		c := client.New(h, "key")
		n := 0
		for i, s := range l {
			req, told := c.Begin(s.Act)
			for req != "" {
				var reply string
				x, reply, _ = host.Do(h, x, req)
				if n >= len(tr.View) || tr.View[n] != req || tr.Replies[n] != reply {
					t.Fatalf("step %d: another request, or reply", i)
				}
				n++
				req, told = c.Next(reply)
			}
			if !model.SameAnswer(told, tr.Answers[i]) {
				t.Errorf("step %d: %v", i, told)
			}
		}
		if n != len(tr.View) || !host.Same(x, tr.Host) || c.State() != tr.Client || h.Used() != tr.Used {
			t.Error("what is behind all")
		}
		if script.View(tr) != code.Join(tr.View) {
			t.Error("View")
		}
		for _, tape := range []string{"", "another tape"} {
			if s, err := script.Replay(tr.View, tape); err != api.OK || !vault.Same(s, tr.Host.State) {
				t.Errorf("Replay: %v", err)
			}
		}
		if again := script.Run("tape", real, "key", l); script.View(again) != script.View(tr) {
			t.Error("another view of the same script")
		}
	}
}

func TestRunOfNothingAndOfTooMuch(t *testing.T) {
	tr := script.Run("", false, "key", nil)
	if len(tr.Answers)+len(tr.View)+len(tr.Replies) != 0 || tr.Bad || !host.Same(tr.Host, host.New(-1)) || tr.Client != client.New(orac.Real(), "").State() || script.View(tr) != "" {
		t.Errorf("%v", tr)
	}
	l := steps(4, 130, honest)
	if long, short := script.Run("", false, "key", l), script.Run("", false, "key", l[:100]); len(long.Answers) != 100 || script.View(long) != script.View(short) {
		t.Errorf("%d answers", len(long.Answers))
	}
	head, _ := wire.PutRequest(wire.Request{Kind: 3})
	if s, err := script.Replay(slices.Repeat([]string{head}, 5000), ""); err != api.OK || !vault.Same(s, vault.New()) {
		t.Errorf("Replay of 5000: %v", err)
	}
	if s, err := script.Replay(slices.Repeat([]string{head}, 5001), ""); err != api.ErrArg || !vault.Same(s, vault.State{}) {
		t.Errorf("Replay of 5001: %v", err)
	}
	if s, err := script.Replay([]string{"no request", ""}, ""); err != api.OK || !vault.Same(s, vault.New()) {
		t.Errorf("Replay of what is no request: %v", err)
	}
}

func TestMoreRequestsThanAnActMayHave(t *testing.T) {
	l := []script.Step{{Act: api.Act{Kind: 0, Coll: "c", Paths: []string{"a"}}}}
	where := []api.Q{{Op: api.OpOr, Kids: 5}}
	for i := range 5 {
		var parts []string
		for j := range 110 {
			parts = append(parts, strconv.Itoa(i*110+j))
		}
		list := `[` + strings.Join(parts, ",") + `]`
		l = append(l, script.Step{Act: api.Act{Kind: 1, Coll: "c", Id: strconv.Itoa(i), Text: `{"a":` + list + `}`}})
		where = append(where, api.Q{Op: api.OpIn, Path: "a", Value: sample.Value(list)})
	}
	l = append(l, script.Step{Act: api.Act{Kind: 6, Coll: "c", Find: api.Find{Where: where}}}, script.Step{Act: api.Act{Kind: 7}}, script.Step{Act: api.Act{Kind: 8}})
	tr := script.Run("", true, "key", l)
	if len(tr.View) != 505 || len(tr.Replies) != 505 || !tr.Client.Waits || len(tr.Answers) != 9 || tr.Answers[7].Err != api.ErrArg || tr.Answers[8].Err != api.ErrArg {
		t.Errorf("%d requests, %v", len(tr.View), tr.Client)
	}
}

// kinds are those of the requests of a view.
func kinds(t *testing.T, view []string) string {
	out := ""
	for _, b := range view {
		r, err := wire.GetRequest(b)
		if err != api.OK {
			t.Fatalf("no request: %x", b)
		}
		out += strconv.Itoa(r.Kind)
	}
	return out
}

func TestHarms(t *testing.T) {
	create := script.Step{Act: api.Act{Kind: 0, Coll: "c"}}
	insert := func(id string, harm, n int, text string) script.Step {
		return script.Step{api.Act{Kind: 1, Coll: "c", Id: id, Text: `{"a":1}`}, harm, n, text}
	}
	change := func(id string, harm, n int) script.Step {
		return script.Step{Act: api.Act{Kind: 2, Coll: "c", Id: id, Text: `{"a":2}`}, Harm: harm, N: n}
	}
	tell := func(id string, harm, n int) script.Step {
		return script.Step{Act: api.Act{Kind: 5, Coll: "c", Id: id}, Harm: harm, N: n}
	}
	resync := func(harm int) script.Step { return script.Step{Act: api.Act{Kind: 8}, Harm: harm} }
	x := insert("x", 0, 0, "")
	min := math.MinInt
	for i, s := range []struct {
		l       []script.Step
		errs    []api.Errno // behind create
		view    string
		replies int
		n       int // batches that were done
	}{
		{[]script.Step{insert("x", 1, 0, ""), tell("x", 0, 0)}, []api.Errno{15, 6}, "03", 1, 0},
		{[]script.Step{insert("x", 2, 0, ""), tell("x", 0, 0)}, []api.Errno{15, 0}, "031", 2, 1},
		{[]script.Step{insert("x", 2, 0, "")}, []api.Errno{15}, "0", 0, 1},
		{[]script.Step{insert("x", 1, 0, ""), resync(0), tell("x", 0, 0)}, []api.Errno{15, 0, 6}, "033", 2, 0},
		{[]script.Step{insert("x", 2, 0, ""), resync(1), resync(2), tell("x", 0, 0)}, []api.Errno{15, 15, 15, 0}, "0333331", 4, 1},
		{[]script.Step{x, change("x", 1, 0), tell("x", 0, 0)}, []api.Errno{0, 15, 0}, "0131", 3, 1},
		{[]script.Step{x, change("x", 2, 0), change("x", 0, 0)}, []api.Errno{0, 15, 0}, "01310", 4, 2},
		{[]script.Step{insert("x", 3, 0, ""), tell("x", 0, 0)}, []api.Errno{15, 6}, "03", 1, 0},
		{[]script.Step{insert("x", 3, 1, ""), tell("x", 0, 0)}, []api.Errno{15, 0}, "031", 2, 1},
		{[]script.Step{insert("x", 3, -9, ""), tell("x", 0, 0)}, []api.Errno{15, 6}, "03", 1, 0},
		{[]script.Step{insert("x", 3, -5, ""), tell("x", 0, 0)}, []api.Errno{15, 0}, "031", 2, 1},
		{[]script.Step{insert("x", 3, 2, ""), tell("x", 3, 0)}, []api.Errno{0, 0}, "01", 2, 1},
		{[]script.Step{insert("x", 3, -3, ""), insert("y", 0, 0, "")}, []api.Errno{0, 0}, "00", 2, 2},
		{[]script.Step{insert("x", 3, 4, ""), tell("x", 0, 0)}, []api.Errno{15, 6}, "03", 1, 0},
		{[]script.Step{insert("x", 3, min, ""), tell("x", 0, 0)}, []api.Errno{15, 6}, "03", 1, 0},
		{[]script.Step{x, change("x", 3, 0), change("x", 0, 0)}, []api.Errno{0, 15, 0}, "010310", 5, 2},
		{[]script.Step{insert("x", 4, 0, "lie"), tell("x", 0, 0)}, []api.Errno{12, 12}, "0", 1, 1},
		{[]script.Step{insert("x", 5, 7, ""), tell("x", 0, 0)}, []api.Errno{0, 0}, "01", 2, 1},
		{[]script.Step{x, tell("x", 0, 0), tell("x", 5, 3), tell("x", 5, -1), tell("x", 5, -4)}, []api.Errno{0, 0, 0, 0, 12}, "01111", 5, 1},
		{[]script.Step{x, insert("y", 5, 0, "")}, []api.Errno{0, 13}, "00", 2, 2},
		{[]script.Step{x, insert("y", 0, 0, ""), tell("x", 5, min)}, []api.Errno{0, 0, 13}, "001", 3, 2},
		{[]script.Step{x, insert("y", 0, 0, ""), tell("x", 6, 3), tell("x", 6, -8), tell("x", 6, 2)}, []api.Errno{0, 0, 0, 0, 13}, "00111", 5, 1},
		{[]script.Step{x, insert("y", 6, 0, "")}, []api.Errno{0, 12}, "00", 2, 1},
		{[]script.Step{x, tell("x", 6, min)}, []api.Errno{0, 13}, "01", 2, 0},
		{[]script.Step{insert("x", 7, 0, ""), insert("y", -1, 0, ""), insert("z", min, 0, "")}, []api.Errno{0, 0, 0}, "000", 3, 3},
		{[]script.Step{tell("x", 1, 0), tell("x", 4, 0), x}, []api.Errno{6, 6, 0}, "0", 1, 1},
	} {
		for _, real := range []bool{true, false} {
			tr := script.Run("", real, "key", append([]script.Step{create}, s.l...))
			var errs []api.Errno
			for _, a := range tr.Answers[1:] {
				errs = append(errs, a.Err)
			}
			if !slices.Equal(errs, s.errs) || kinds(t, tr.View) != s.view || len(tr.Replies) != s.replies || tr.Host.State.N != s.n {
				t.Errorf("%d, real %v: %v, view %s, %d replies, %d batches", i, real, errs, kinds(t, tr.View), len(tr.Replies), tr.Host.State.N)
			}
			if tr.Host.Disk.Fuse != -1 || tr.Host.Disk.Dead {
				t.Errorf("%d: %v", i, tr.Host.Disk)
			}
		}
		if script.Honest(s.l) {
			t.Errorf("%d is honest", i)
		}
	}
	lie := script.Run("", true, "key", []script.Step{create, insert("x", 4, 0, "lie")})
	if !slices.Equal(lie.Replies, []string{"lie"}) {
		t.Errorf("%q", lie.Replies)
	}
	if !script.Honest(nil) || !script.Honest([]script.Step{create, x}) || script.Honest(append(slices.Repeat([]script.Step{x}, 150), resync(1))) {
		t.Error("Honest")
	}
}

// renamed are steps of the same shape: other names, numbers and paths, in the same order, and of the same buckets.
func renamed(seed int, names [3]string, more int) []script.Step {
	c := sample.NewChance(seed)
	paths := names[1:]
	text := func() string {
		var l []string
		for i, p := range paths {
			if c.Below(3) > 0 {
				l = append(l, `"`+p+`":[`+strconv.Itoa(c.Below(4)+more)+`,`+strconv.Itoa(4+i+c.Below(3)+more)+`]`)
			}
		}
		return `{` + strings.Join(l, ",") + `}`
	}
	l := []script.Step{{Act: api.Act{Kind: 0, Coll: names[0], Paths: paths}}}
	for range 50 {
		a := api.Act{Kind: 1 + c.Below(7), Coll: names[0], Id: names[0] + strconv.Itoa(c.Below(5)), Text: text(), Path: paths[c.Below(2)]}
		if a.Kind == 3 {
			a.Text = strconv.Itoa(c.Below(5) + more)
		}
		a.Find.Where = []api.Q{{Op: api.OpEq, Path: a.Path, Value: sample.Num(int64(c.Below(6) + more))}}
		l = append(l, script.Step{Act: a, Harm: []int{0, 0, 0, 0, 1, 2, 3}[c.Below(7)], N: c.Below(12)})
	}
	return l
}

func TestWhatIsSeenIsToldByTheLeak(t *testing.T) {
	for seed := range 30 {
		one, two := renamed(seed, [3]string{"c", "a", "b"}, 0), renamed(seed, [3]string{"other", "p", "q"}, 10)
		leak := script.Leak("key", one)
		if leak != script.View(script.Run("", false, "key", one)) {
			t.Fatal("Leak")
		}
		if leak != script.Leak("another", two) {
			t.Fatalf("seed %d: two scripts of one shape have two leaks", seed)
		}
		for _, tape := range []string{"x", sample.NewChance(seed).Bytes(60000), strings.Repeat("0123456789", 70) + "end"} {
			a, b := script.Run(tape, false, "key", one), script.Run(tape, false, "another", two)
			if !a.Bad && !b.Bad && script.View(a) != script.View(b) {
				t.Errorf("seed %d: two views of one leak", seed)
			}
		}
		if leak == script.Leak("key", append(slices.Clone(one), script.Step{Act: api.Act{Kind: 1, Coll: "c", Id: "new", Text: "{}"}})) {
			t.Error("an act more is not seen")
		}
	}
}

func TestBadTapesAreEndedAsWell(t *testing.T) {
	for seed := range 20 {
		l := steps(seed, 100, lies([]int{1, 2, 3, 4, 5, 6}, 10))
		tape := strings.Repeat(sample.NewChance(seed).Bytes(1+seed*3), 5000)
		one, two := script.Run(tape, false, "key", l), script.Run(tape, false, "key", l)
		if script.View(one) != script.View(two) || len(one.Answers) != 100 || len(two.Answers) != 100 {
			t.Errorf("seed %d: two runs of one script", seed)
		}
		for i, a := range one.Answers {
			if !model.SameAnswer(a, two.Answers[i]) {
				t.Errorf("seed %d: two answers", seed)
			}
		}
		kinds(t, one.View)
		if _, err := script.Replay(one.View, tape); err != api.OK {
			t.Errorf("seed %d: %v", seed, err)
		}
	}
}
