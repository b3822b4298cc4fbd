package disk_test

import (
	"math"
	"slices"
	"strings"
	"testing"

	"cryptex/api"
	"cryptex/disk"
	"cryptex/sample"
)

type l = []string

func same(a, b disk.Disk) bool {
	return a.Fuse == b.Fuse && a.Dead == b.Dead && slices.Equal(a.Synced, b.Synced) && slices.Equal(a.Pending, b.Pending)
}

var (
	large = strings.Repeat("x", 1<<20+1)
	some  = disk.Disk{Synced: l{"a", "b"}, Pending: l{"c", "d"}, Fuse: -1}
)

func TestNewAndCheck(t *testing.T) {
	for _, fuse := range []int{-1, 0, 7, math.MinInt, math.MaxInt} {
		if d := disk.New(fuse); !same(d, disk.Disk{Fuse: fuse}) || disk.Check(d) != api.OK {
			t.Errorf("New(%d) = %v", fuse, d)
		}
	}
	for i, x := range []struct {
		d   disk.Disk
		err api.Errno
	}{{some, 0}, {disk.Disk{Synced: make(l, 500), Dead: true}, 0}, {disk.Disk{Pending: make(l, 500)}, 0}, {disk.Disk{Synced: make(l, 250), Pending: make(l, 250)}, 0}, {disk.Disk{Synced: l{large[1:]}, Pending: l{large[1:]}}, 0},
		{disk.Disk{Synced: make(l, 501)}, 1}, {disk.Disk{Pending: make(l, 501)}, 1}, {disk.Disk{Synced: make(l, 250), Pending: make(l, 251)}, 1}, {disk.Disk{Synced: l{"", large}}, 1}, {disk.Disk{Pending: l{large}}, 1}} {
		if err := disk.Check(x.d); err != x.err {
			t.Errorf("%d: %v", i, err)
		}
	}
}

func TestSteps(t *testing.T) {
	type step = func(disk.Disk) (disk.Disk, api.Errno)
	write := func(d disk.Disk) (disk.Disk, api.Errno) { return disk.Write(d, "e") }
	swap := func(d disk.Disk) (disk.Disk, api.Errno) { return disk.Swap(d, "e") }
	for i, x := range []struct {
		do   step
		want disk.Disk
	}{{write, disk.Disk{Synced: l{"a", "b"}, Pending: l{"c", "d", "e"}}}, {disk.Sync, disk.Disk{Synced: l{"a", "b", "c", "d"}}}, {swap, disk.Disk{Synced: l{"e"}}}} {
		for fuse, left := range map[int]int{-1: -1, -5: -5, math.MinInt: math.MinInt, 1: 0, 2: 1, math.MaxInt: math.MaxInt - 1} {
			d := some
			d.Fuse, x.want.Fuse = fuse, left
			if got, err := x.do(d); err != api.OK || !same(got, x.want) {
				t.Errorf("step %d with a fuse of %d: %v, %v", i, fuse, got, err)
			}
		}
		d := some
		d.Fuse = 0
		dead := d
		dead.Dead = true
		if got, err := x.do(d); err != api.ErrDead || !same(got, dead) {
			t.Errorf("step %d where the machine dies: %v, %v", i, got, err)
		}
		for _, fuse := range []int{-1, 0, 3} {
			dead.Fuse = fuse
			if got, err := x.do(dead); err != api.ErrDead || !same(got, disk.Disk{}) {
				t.Errorf("step %d on one that is dead: %v, %v", i, got, err)
			}
		}
		for _, wrong := range []disk.Disk{{Synced: make(l, 501)}, {Pending: l{large}, Dead: true}} {
			if got, err := x.do(wrong); err != api.ErrArg || !same(got, disk.Disk{}) {
				t.Errorf("step %d on one that may not be: %v", i, err)
			}
		}
	}
	if !same(some, disk.Disk{Synced: l{"a", "b"}, Pending: l{"c", "d"}, Fuse: -1}) {
		t.Error("the argument was changed")
	}
}

func TestErrorsOfRecords(t *testing.T) {
	full := disk.Disk{Synced: make(l, 200), Pending: make(l, 300), Fuse: -1}
	dying := full
	dying.Fuse = 0
	tell := func(what string, got disk.Disk, err, want api.Errno) {
		t.Helper()
		if err != want || !same(got, disk.Disk{}) {
			t.Errorf("%s: %v", what, err)
		}
	}
	d, err := disk.Write(full, large)
	tell("Write of what is large", d, err, 4)
	d, err = disk.Write(full, "x")
	tell("Write on what is full", d, err, 14)
	d, err = disk.Write(dying, large)
	tell("Write of what is large, ahead of the fuse", d, err, 4)
	d, err = disk.Write(dying, "x")
	tell("Write on what is full, ahead of the fuse", d, err, 14)
	d, err = disk.Swap(dying, large)
	tell("Swap of what is large, ahead of the fuse", d, err, 4)
	d, err = disk.Write(disk.Disk{Dead: true}, large)
	tell("Write on one that is dead", d, err, 15)
	if d, err := disk.Swap(full, large[1:]); err != api.OK || len(d.Synced) != 1 {
		t.Errorf("Swap on what is full: %v", err)
	}
	if d, err := disk.Sync(full); err != api.OK || len(d.Synced) != 500 {
		t.Errorf("Sync of what is full: %v", err)
	}
	full.Pending = full.Pending[1:]
	if d, err := disk.Write(full, large[1:]); err != api.OK || len(d.Pending) != 300 {
		t.Errorf("Write of the last one: %v", err)
	}
}

func TestCrashAndRecords(t *testing.T) {
	for keep, want := range map[int]l{math.MinInt: {"a", "b"}, -1: {"a", "b"}, 0: {"a", "b"}, 1: {"a", "b", "c"}, 2: {"a", "b", "c", "d"}, 3: {"a", "b", "c", "d"}, math.MaxInt: {"a", "b", "c", "d"}} {
		for _, dead := range []bool{false, true} {
			d := some
			d.Dead = dead
			if got := disk.Crash(d, keep, 9); !same(got, disk.Disk{Synced: want, Fuse: 9}) {
				t.Errorf("keep %d: %v", keep, got)
			}
		}
	}
	if got := disk.Crash(disk.Disk{Synced: make(l, 501)}, 1, 4); !same(got, disk.New(4)) {
		t.Errorf("of one that may not be: %v", got)
	}
	if !slices.Equal(disk.Records(some), l{"a", "b", "c", "d"}) || len(disk.Records(disk.New(0))) != 0 {
		t.Error("Records")
	}
}

func TestSame(t *testing.T) {
	rows := []disk.Disk{{}, {Fuse: 1}, {Dead: true}, {Synced: l{""}}, {Pending: l{""}}, {Synced: l{"a"}}, {Synced: l{"a", "b"}}, {Synced: l{"b", "a"}}, {Pending: l{"a"}}}
	for i, a := range rows {
		for j, b := range rows {
			if disk.Same(a, b) != (i == j) {
				t.Errorf("%d, %d", i, j)
			}
		}
	}
	if !disk.Same(disk.Disk{Synced: l{}}, disk.Disk{Pending: l{}}) {
		t.Error("nothing is nothing")
	}
}

func TestAnswersShareNothing(t *testing.T) {
	synced, pending := make(l, 1, 9), make(l, 1, 9)
	d := disk.Disk{Synced: synced, Pending: pending, Fuse: 1}
	one, _ := disk.Write(d, "x")
	two, _ := disk.Write(d, "y")
	three, _ := disk.Sync(d)
	four := disk.Crash(d, 0, 1)
	five := disk.Records(disk.Disk{Synced: synced})
	d.Fuse = 0
	six, _ := disk.Sync(d)
	for _, x := range []l{one.Synced, one.Pending, two.Synced, two.Pending, three.Synced, four.Synced, five, six.Synced, six.Pending} {
		x[0] = "changed"
		_ = append(x, "behind")
	}
	if synced[0] != "" || pending[0] != "" || synced[:2][1] != "" || pending[:2][1] != "" || one.Pending[1] != "x" {
		t.Error("an answer shares with its argument")
	}
}

func TestWhatIsSyncedIsThere(t *testing.T) {
	c := sample.NewChance(4)
	for range 300 {
		d := disk.New(c.Below(12))
		var all, synced l
		for range 20 {
			before := d
			var err api.Errno
			rec := c.Bytes(2)
			switch c.Below(3) {
			case 0:
				d, err = disk.Sync(d)
				if err == api.OK {
					synced = slices.Clone(all)
				}
			default:
				d, err = disk.Write(d, rec)
				if err == api.OK {
					all = append(all, rec)
				}
			}
			if err == api.ErrDead {
				if !d.Dead || before.Fuse != 0 {
					t.Fatalf("dead: %v", d)
				}
				break
			}
		}
		got := disk.Crash(d, c.Below(6)-1, 0).Synced
		if len(got) < len(synced) || len(got) > len(all) || !slices.Equal(got, all[:len(got)]) {
			t.Fatalf("%q of %q", got, all)
		}
	}
}
