package wal_test

import (
	"math"
	"math/rand"
	"slices"
	"strings"
	"testing"

	"doorward/api"
	"doorward/disk"
	"doorward/slot"
	"doorward/wal"
)

var (
	full = strings.Repeat("x", 512)
	over = strings.Repeat("x", 513)
)

func same(a, b api.Log) bool {
	return slices.Equal(a.Sectors, b.Sectors) && slices.Equal(a.Pending, b.Pending) && a.Left == b.Left &&
		a.Epoch == b.Epoch && a.Seq == b.Seq && a.Used == b.Used && slices.Equal(a.Dirty, b.Dirty)
}

func clone(l api.Log) api.Log {
	l.Sectors, l.Pending, l.Dirty = slices.Clone(l.Sectors), slices.Clone(l.Pending), slices.Clone(l.Dirty)
	return l
}

func start(t *testing.T, n int) api.Log {
	t.Helper()
	l, e := wal.New(n)
	if e != api.OK {
		t.Fatal(e)
	}
	return l
}

func commit(t *testing.T, l api.Log, writes ...api.Write) api.Log {
	t.Helper()
	l, e := wal.Commit(l, writes...)
	if e != api.OK {
		t.Fatal(e)
	}
	return l
}

// many are n writes of home sectors.
func many(from, n int, bytes string) []api.Write {
	var l []api.Write
	for i := range n {
		l = append(l, api.Write{Sector: from + i, Bytes: bytes})
	}
	return l
}

// homes is what a log tells of all home sectors.
func homes(l api.Log) []string {
	var all []string
	for i := 53; i < len(l.Sectors); i++ {
		s, e := wal.Read(l, i)
		if e != api.OK {
			return []string{"an error"}
		}
		all = append(all, s)
	}
	return all
}

// play does disk's calls, as the chapter lists them, up to the first error.
type play struct {
	p api.Power
	e api.Errno
}

func (c *play) write(sector int, bytes string) {
	if c.e == api.OK {
		c.p, c.e = disk.Write(c.p, sector, bytes)
	}
}

func (c *play) flush() {
	if c.e == api.OK {
		c.p, c.e = disk.Flush(c.p)
	}
}

func (c *play) end(l api.Log) (api.Log, api.Errno) {
	if c.e != api.OK {
		return api.Log{Power: c.p}, c.e
	}
	l.Power = c.p
	return l, api.OK
}

// checkpointed is what Checkpoint of a log that may be tells.
func checkpointed(l api.Log) (api.Log, api.Errno) {
	c := play{p: l.Power}
	for _, w := range l.Dirty {
		c.write(w.Sector, w.Bytes)
	}
	c.flush()
	s, _ := slot.Super(api.Super{Epoch: l.Epoch + 1})
	c.write(0, s)
	c.flush()
	return c.end(api.Log{Epoch: l.Epoch + 1})
}

// committed is what Commit of writes that may be tells.
func committed(l api.Log, writes []api.Write) (api.Log, api.Errno) {
	if l.Seq == 6 || l.Used+len(writes) > 40 {
		m, e := checkpointed(l)
		if e != api.OK {
			return m, e
		}
		l = m
	}
	c := play{p: l.Power}
	h := api.Head{Epoch: l.Epoch, Seq: l.Seq}
	for i, w := range writes {
		h.Targets = append(h.Targets, w.Sector)
		c.write(13+l.Used+i, w.Bytes)
	}
	s, _ := slot.Head(h)
	c.write(1+l.Seq, s)
	c.flush()
	s, _ = slot.Commit(l.Epoch, l.Seq)
	c.write(7+l.Seq, s)
	c.flush()
	dirty := map[int]string{}
	for _, w := range slices.Concat(l.Dirty, writes) {
		dirty[w.Sector] = strings.TrimRight(w.Bytes, "\x00")
	}
	next := api.Log{Epoch: l.Epoch, Seq: l.Seq + 1, Used: l.Used + len(writes)}
	for i := range l.Sectors {
		if bytes, ok := dirty[i]; ok {
			next.Dirty = append(next.Dirty, api.Write{Sector: i, Bytes: bytes})
		}
	}
	return c.end(next)
}

// wrong are logs that may not be.
func wrong(t *testing.T) []api.Log {
	var all []api.Log
	add := func(change func(l *api.Log)) {
		l := clone(commit(t, start(t, 64), api.Write{Sector: 55, Bytes: "a"}, api.Write{Sector: 60, Bytes: "b"}))
		change(&l)
		all = append(all, l)
	}
	add(func(l *api.Log) { *l = api.Log{} })
	add(func(l *api.Log) { *l = api.Log{Power: l.Power} })
	add(func(l *api.Log) { l.Sectors, l.Dirty = l.Sectors[:63], nil })
	add(func(l *api.Log) { l.Sectors = make([]string, 257) })
	add(func(l *api.Log) { l.Sectors[60] = "a\x00" })
	add(func(l *api.Log) { l.Sectors[2] = over })
	add(func(l *api.Log) { l.Pending = []api.Write{{Sector: 64}} })
	for _, n := range []int{0, -1, 1<<40 + 1, math.MinInt, math.MaxInt} {
		add(func(l *api.Log) { l.Epoch = n })
	}
	for _, n := range []int{-1, 7, math.MinInt, math.MaxInt} {
		add(func(l *api.Log) { l.Seq = n })
	}
	for _, n := range []int{-1, 41, math.MinInt, math.MaxInt} {
		add(func(l *api.Log) { l.Used = n })
	}
	for _, n := range []int{52, 64, 0, -1, math.MinInt, math.MaxInt} {
		add(func(l *api.Log) { l.Dirty = []api.Write{{Sector: n}} })
	}
	add(func(l *api.Log) { l.Dirty[1].Sector = 55 })
	add(func(l *api.Log) { l.Dirty[1].Sector = 54 })
	add(func(l *api.Log) { slices.Reverse(l.Dirty) })
	add(func(l *api.Log) { l.Dirty[0].Bytes = over })
	add(func(l *api.Log) { l.Dirty[1].Bytes = "a\x00" })
	add(func(l *api.Log) { l.Dirty = append(l.Dirty, api.Write{Sector: 64}) })
	return all
}

// right are logs that may be, of many states.
func right(t *testing.T) []api.Log {
	l := start(t, 64)
	all := []api.Log{l, start(t, 256), commit(t, l, many(54, 10, "a")...), commit(t, start(t, 100), many(53, 40, "b")...)}
	for i := range 6 {
		l = commit(t, l, api.Write{Sector: 53 + i, Bytes: "c"})
		all = append(all, l)
	}
	p, _ := disk.Write(l.Power, 60, "on its way")
	l.Power = p
	l.Dirty = nil
	all = append(all, l)
	l.Epoch, l.Used = 1<<40, 40
	all = append(all, l)
	l.Dirty = many(53, 11, full)
	return append(all, l)
}

// P5.1: New.
func TestNew(t *testing.T) {
	for _, n := range []int{64, 65, 200, 256} {
		want := api.Log{Power: api.Power{Disk: api.Disk{Sectors: make([]string, n)}, Left: -1}, Epoch: 1}
		want.Sectors[0], _ = slot.Super(api.Super{Epoch: 1})
		if l, e := wal.New(n); e != api.OK || !same(l, want) {
			t.Errorf("New(%d) = %v, %d", n, l, e)
		}
	}
	for _, n := range []int{63, 257, 1, 0, -1, math.MinInt, math.MaxInt} {
		if l, e := wal.New(n); e != api.ErrArg || !same(l, api.Log{}) {
			t.Errorf("New(%d) = %v, %d", n, l, e)
		}
	}
}

// P5.1: Right.
func TestRight(t *testing.T) {
	for i, l := range right(t) {
		if !wal.Right(l) {
			t.Errorf("log %d may be", i)
		}
	}
	for i, l := range wrong(t) {
		if wal.Right(l) {
			t.Errorf("log %d may not be", i)
		}
	}
}

// P5.2 to P5.4: a log that may not be is refused first.
func TestWrongLogsAreRefused(t *testing.T) {
	for i, l := range wrong(t) {
		was := clone(l)
		for _, at := range []int{53, 60, 0, -1, 64} {
			if s, e := wal.Read(l, at); s != "" || e != api.ErrArg {
				t.Errorf("Read of log %d: %q, %d", i, s, e)
			}
		}
		for _, writes := range [][]api.Write{nil, many(53, 1, "a"), many(0, 1, over), many(53, 41, "a")} {
			if m, e := wal.Commit(l, writes...); e != api.ErrArg || !same(m, api.Log{}) {
				t.Errorf("Commit of log %d: %v, %d", i, m, e)
			}
		}
		if m, e := wal.Checkpoint(l); e != api.ErrArg || !same(m, api.Log{}) {
			t.Errorf("Checkpoint of log %d: %v, %d", i, m, e)
		}
		if !same(l, was) {
			t.Errorf("log %d is changed", i)
		}
	}
}

// P5.2: Read.
func TestRead(t *testing.T) {
	l := commit(t, start(t, 64), api.Write{Sector: 60, Bytes: "a"}, api.Write{Sector: 53, Bytes: "root\x00"})
	l, _ = wal.Checkpoint(l)
	p, _ := disk.Write(l.Power, 61, "on its way")
	l.Power = p
	l = commit(t, l, api.Write{Sector: 60, Bytes: ""}, api.Write{Sector: 63, Bytes: "z"})
	for at, want := range map[int]string{53: "root", 54: "", 60: "", 61: "on its way", 63: "z"} {
		if s, e := wal.Read(l, at); s != want || e != api.OK {
			t.Errorf("Read(%d) = %q, %d", at, s, e)
		}
	}
	for _, at := range []int{52, 0, 7, -1, 64, 255, math.MinInt, math.MaxInt} {
		if s, e := wal.Read(l, at); s != "" || e != api.ErrSector {
			t.Errorf("Read(%d) = %q, %d", at, s, e)
		}
	}
}

// P5.3: Checkpoint is just these calls, whatever power is left.
func TestCheckpoint(t *testing.T) {
	for i, l := range right(t) {
		if l.Epoch == 1<<40 {
			for _, left := range []int{0, 1, -1} {
				l.Left = left
				if m, e := wal.Checkpoint(l); e != api.ErrLong || !same(m, api.Log{}) {
					t.Errorf("Checkpoint of log %d: %v, %d", i, m, e)
				}
			}
			continue
		}
		for left := -1; left < 50; left++ {
			l.Left = left
			was := clone(l)
			m, e := wal.Checkpoint(l)
			want, f := checkpointed(l)
			if e != f || !same(m, want) || !same(l, was) {
				t.Fatalf("Checkpoint of log %d, Left %d: %v, %d, not %v, %d", i, left, m, e, want, f)
			}
		}
	}
	l := start(t, 64)
	l.Epoch = 1<<40 - 1
	if m, e := wal.Checkpoint(l); e != api.OK || m.Epoch != 1<<40 {
		t.Error(m.Epoch, e)
	}
}

// P5.4: Commit's errors, in their order.
func TestCommitRefuses(t *testing.T) {
	l := commit(t, start(t, 100), many(60, 3, "a")...)
	for _, c := range []struct {
		writes []api.Write
		e      api.Errno
	}{
		{many(52, 1, "a"), api.ErrArg}, {many(100, 1, "a"), api.ErrArg}, {many(-1, 1, "a"), api.ErrArg}, {many(0, 1, "a"), api.ErrArg},
		{many(math.MaxInt, 1, "a"), api.ErrArg}, {many(math.MinInt, 1, "a"), api.ErrArg}, {many(255, 1, "a"), api.ErrArg}, {many(256, 1, "a"), api.ErrArg},
		{many(60, 1, over), api.ErrArg}, {many(60, 2, over+"\x00"), api.ErrArg},
		{append(many(60, 3, "a"), api.Write{Sector: 61, Bytes: "a"}), api.ErrArg},
		{append(many(60, 1, "a"), api.Write{Sector: 60, Bytes: "b"}), api.ErrArg},
		{append(many(53, 40, "a"), api.Write{Sector: 53}), api.ErrArg},
		{many(53, 48, "a"), api.ErrArg},
		{many(53, 41, "a"), api.ErrFull}, {many(53, 47, "a"), api.ErrFull},
	} {
		for _, left := range []int{-1, 0, 3} {
			l.Left = left
			was := clone(l)
			if m, e := wal.Commit(l, c.writes...); e != c.e || !same(m, api.Log{}) || !same(l, was) {
				t.Errorf("Commit(%v) = %v, %d", c.writes, m, e)
			}
		}
	}
	big := l
	big.Epoch, big.Seq = 1<<40, 6
	if m, e := wal.Commit(big, many(60, 1, "a")...); e != api.ErrLong || !same(m, api.Log{}) {
		t.Errorf("Commit at the last epoch: %v, %d", m, e)
	}
	big.Seq, big.Used = 1, 40
	if m, e := wal.Commit(big, many(60, 1, "a")...); e != api.ErrLong || !same(m, api.Log{}) {
		t.Errorf("Commit at the last epoch, no room: %v, %d", m, e)
	}
	big.Used, big.Left = 39, -1
	if m, e := wal.Commit(big, many(60, 1, "a")...); e != api.OK || m.Used != 40 || m.Seq != 2 {
		t.Errorf("Commit at the last epoch, room for one: %v, %d", m, e)
	}
}

// P5.4: Commit is just these calls, whatever power is left; without writes the log stays.
func TestCommit(t *testing.T) {
	sets := [][]api.Write{
		many(53, 1, "q"), many(54, 10, "r"), {{Sector: 63, Bytes: full + "\x00"}, {Sector: 53, Bytes: "\x00"}, {Sector: 58, Bytes: "s\x00"}},
		{{Sector: 60, Bytes: ""}, {Sector: 54, Bytes: "\x00t"}},
	}
	for i, l := range right(t) {
		for j, writes := range sets {
			if l.Epoch == 1<<40 {
				continue
			}
			for left := -1; left < 60; left++ {
				l.Left = left
				was, written := clone(l), slices.Clone(writes)
				m, e := wal.Commit(l, writes...)
				want, f := committed(l, writes)
				if e != f || !same(m, want) || !same(l, was) || !slices.Equal(writes, written) {
					t.Fatalf("Commit %d of log %d, Left %d: %v, %d, not %v, %d", j, i, left, m, e, want, f)
				}
				if e == api.OK && !wal.Right(m) {
					t.Fatalf("Commit %d of log %d may not be", j, i)
				}
			}
		}
		for _, left := range []int{0, 1, -1} {
			l.Left = left
			if m, e := wal.Commit(l); e != api.OK || !same(m, l) {
				t.Errorf("Commit of nothing: %v, %d", m, e)
			}
		}
	}
	wide := start(t, 256)
	for _, n := range []int{40, 39, 1, 1, 20, 20, 40} {
		want, _ := committed(wide, many(100, n, "w"))
		wide = commit(t, wide, many(100, n, "w")...)
		if !same(wide, want) {
			t.Fatalf("Commit of %d: %v, not %v", n, wide, want)
		}
	}
}

// P5.4: two logs that came of one share no place behind their lists.
func TestLogsOfOneAreParted(t *testing.T) {
	l := commit(t, start(t, 64), api.Write{Sector: 60, Bytes: "a"})
	l.Dirty = slices.Grow(l.Dirty, 5)
	one := commit(t, l, api.Write{Sector: 61, Bytes: "one"}, api.Write{Sector: 60, Bytes: "b"})
	two := commit(t, l, api.Write{Sector: 61, Bytes: "two"})
	for i, x := range []api.Log{l, one, two} {
		a, _ := wal.Read(x, 60)
		b, _ := wal.Read(x, 61)
		if want := []string{"a", "", "b", "one", "a", "two"}[2*i : 2*i+2]; a != want[0] || b != want[1] {
			t.Errorf("log %d: %q, %q", i, a, b)
		}
	}
}

// P5.5: Open's errors.
func TestOpenRefuses(t *testing.T) {
	l := commit(t, start(t, 64), many(54, 3, "a")...)
	check := func(what string, want api.Errno, change func(p *api.Power)) {
		t.Helper()
		for _, left := range []int{-1, 0, 5} {
			p := clone(l).Power
			p.Left = left
			change(&p)
			if m, e := wal.Open(p); e != want || !same(m, api.Log{}) {
				t.Errorf("%s: %v, %d", what, m, e)
			}
		}
	}
	check("none", api.ErrArg, func(p *api.Power) { p.Disk = api.Disk{} })
	check("63 sectors", api.ErrArg, func(p *api.Power) { p.Sectors = p.Sectors[:63] })
	check("257 sectors", api.ErrArg, func(p *api.Power) { p.Sectors = slices.Concat(p.Sectors, make([]string, 193)) })
	check("not trimmed", api.ErrArg, func(p *api.Power) { p.Sectors[63] = "\x00" })
	check("too long", api.ErrArg, func(p *api.Power) { p.Sectors[63] = over })
	check("a write on its way", api.ErrArg, func(p *api.Power) { p.Pending = []api.Write{{Sector: 60, Bytes: "a"}} })
	check("a write that may not be", api.ErrArg, func(p *api.Power) { p.Pending = []api.Write{{Sector: 64}} })
	check("a write, no super", api.ErrArg, func(p *api.Power) { p.Sectors[0], p.Pending = "", []api.Write{{}} })
	check("63 sectors, no super", api.ErrArg, func(p *api.Power) { p.Sectors = p.Sectors[:63]; p.Sectors[0] = "" })
	check("one sector, no super", api.ErrArg, func(p *api.Power) { p.Sectors = make([]string, 1) })
	check("not trimmed, no super", api.ErrArg, func(p *api.Power) { p.Sectors[0], p.Sectors[63] = "", "a\x00" })
	check("257 sectors, no super", api.ErrArg, func(p *api.Power) { p.Sectors = make([]string, 257) })
	check("no super", api.ErrCorrupt, func(p *api.Power) { p.Sectors[0] = "" })
	check("a broken super", api.ErrCorrupt, func(p *api.Power) { p.Sectors[0] = p.Sectors[0][1:] })
	check("a commit there", api.ErrCorrupt, func(p *api.Power) { p.Sectors[0], _ = slot.Commit(1, 0) })
	check("a new disk", api.ErrCorrupt, func(p *api.Power) { p.Disk, _ = disk.New(64) })
	check("the last epoch", api.ErrLong, func(p *api.Power) { p.Sectors[0], _ = slot.Super(api.Super{Epoch: 1 << 40}) })
}

// P5.5: Open takes the transactions that stand whole, one behind the other, and checkpoints them.
func TestOpen(t *testing.T) {
	base := start(t, 70)
	base.Sectors[0], _ = slot.Super(api.Super{Epoch: 9})
	for i := 13; i < 53; i++ {
		base.Sectors[i] = "i" + string(rune('A'+i-13))
	}
	transaction := func(l *api.Log, j, epoch, seq int, targets ...int) {
		l.Sectors[1+j], _ = slot.Head(api.Head{Epoch: epoch, Seq: seq, Targets: targets})
		l.Sectors[7+j], _ = slot.Commit(epoch, seq)
	}
	w := func(sector, image int) api.Write {
		return api.Write{Sector: sector, Bytes: base.Sectors[13+image]}
	}
	check := func(what string, dirty []api.Write, change func(l *api.Log)) {
		t.Helper()
		l := clone(base)
		change(&l)
		for left := -1; left < 45; left++ {
			l.Left = left
			want, f := checkpointed(api.Log{Power: l.Power, Epoch: 9, Dirty: dirty})
			was := clone(l)
			if m, e := wal.Open(l.Power); e != f || !same(m, want) {
				t.Errorf("%s, Left %d: %v, %d, not %v, %d", what, left, m, e, want, f)
			}
			if !same(l, was) {
				t.Errorf("%s: the disk is changed", what)
			}
		}
	}
	check("none", nil, func(l *api.Log) {})
	check("one", []api.Write{w(53, 1), w(60, 0)}, func(l *api.Log) { transaction(l, 0, 9, 0, 60, 53) })
	check("two", []api.Write{w(53, 1), w(60, 3), w(69, 2)}, func(l *api.Log) { transaction(l, 0, 9, 0, 60, 53); transaction(l, 1, 9, 1, 69, 60) })
	check("six", []api.Write{w(53, 1), w(54, 2), w(55, 3), w(56, 4), w(60, 6), w(61, 5)}, func(l *api.Log) {
		for j, targets := range [][]int{{60, 53}, {54}, {55}, {56}, {61}, {60}} {
			transaction(l, j, 9, j, targets...)
		}
	})
	check("a gap", []api.Write{w(60, 0)}, func(l *api.Log) { transaction(l, 0, 9, 0, 60); transaction(l, 2, 9, 2, 61) })
	check("the second alone", nil, func(l *api.Log) { transaction(l, 1, 9, 1, 60) })
	check("another epoch", nil, func(l *api.Log) { transaction(l, 0, 8, 0, 60) })
	check("a later epoch", nil, func(l *api.Log) { transaction(l, 0, 10, 0, 60) })
	check("another place", nil, func(l *api.Log) { transaction(l, 0, 9, 1, 60) })
	check("a head of another epoch", nil, func(l *api.Log) {
		transaction(l, 0, 9, 0, 60)
		l.Sectors[1], _ = slot.Head(api.Head{Epoch: 8, Targets: []int{60}})
	})
	check("a head of another place", nil, func(l *api.Log) {
		transaction(l, 0, 9, 0, 60)
		l.Sectors[1], _ = slot.Head(api.Head{Epoch: 9, Seq: 1, Targets: []int{60}})
	})
	check("a commit of another epoch", nil, func(l *api.Log) { transaction(l, 0, 9, 0, 60); l.Sectors[7], _ = slot.Commit(8, 0) })
	check("a commit of another place", nil, func(l *api.Log) { transaction(l, 0, 9, 0, 60); l.Sectors[7], _ = slot.Commit(9, 1) })
	check("no commit", nil, func(l *api.Log) { transaction(l, 0, 9, 0, 60); l.Sectors[7] = "" })
	check("no head", nil, func(l *api.Log) { transaction(l, 0, 9, 0, 60); l.Sectors[1] = "" })
	check("a broken second head", []api.Write{w(60, 0)}, func(l *api.Log) {
		transaction(l, 0, 9, 0, 60)
		transaction(l, 1, 9, 1, 61)
		l.Sectors[2] = l.Sectors[2][1:]
	})
	check("a sector that there is not", nil, func(l *api.Log) { transaction(l, 0, 9, 0, 60, 70) })
	check("the last sector", []api.Write{w(60, 0), w(69, 1)}, func(l *api.Log) { transaction(l, 0, 9, 0, 60, 69) })
	check("a sector that there is not, in the second", []api.Write{w(60, 0)}, func(l *api.Log) { transaction(l, 0, 9, 0, 60); transaction(l, 1, 9, 1, 255) })
}

// P5.5: no more than 40 images are taken, all together.
func TestOpenTakesFortyImages(t *testing.T) {
	for _, c := range []struct{ first, second, want int }{{40, 1, 40}, {39, 1, 40}, {39, 2, 39}, {20, 20, 40}, {20, 21, 20}, {1, 40, 1}} {
		l := start(t, 256)
		for i := 13; i < 53; i++ {
			l.Sectors[i] = "i"
		}
		for j, n := range []int{c.first, c.second} {
			h := api.Head{Epoch: 1, Seq: j}
			for i := range n {
				h.Targets = append(h.Targets, 60+50*j+i)
			}
			l.Sectors[1+j], _ = slot.Head(h)
			l.Sectors[7+j], _ = slot.Commit(1, j)
		}
		m, e := wal.Open(l.Power)
		n := 0
		for _, s := range homes(m) {
			n += len(s)
		}
		if e != api.OK || n != c.want {
			t.Errorf("%v: %d, %d", c, n, e)
		}
	}
}

// some are random writes, at most so many.
func some(r *rand.Rand, n, most int) []api.Write {
	var l []api.Write
	for _, i := range r.Perm(n - 53)[:1+r.Intn(min(most, n-53))] {
		l = append(l, api.Write{Sector: 53 + i, Bytes: strings.Repeat(string(rune('a'+r.Intn(26))), r.Intn(4))})
	}
	return l
}

// P5.6: what is committed is read, other home sectors stay; a checkpoint and an opening change nothing of what is read.
func TestCommittedIsRead(t *testing.T) {
	r := rand.New(rand.NewSource(1))
	for range 60 {
		n := 64 + r.Intn(193)
		l := start(t, n)
		want := make([]string, n-53)
		for range 25 {
			writes := some(r, n, 1+r.Intn(40))
			l = commit(t, l, writes...)
			for _, w := range writes {
				want[w.Sector-53] = w.Bytes
			}
			if r.Intn(6) == 0 {
				l, _ = wal.Checkpoint(l)
			}
			if r.Intn(6) == 0 {
				l, _ = wal.Open(l.Power)
			}
			if got := homes(l); !slices.Equal(got, want) || !wal.Right(l) {
				t.Fatalf("%v, not %v", got, want)
			}
		}
	}
}

// crashes hands over what may be left of a disk whose power has gone.
func crashes(r *rand.Rand, d api.Disk, then func(api.Disk)) {
	n := len(d.Pending)
	for i := range 12 {
		keep := make([]bool, n)
		for j := range keep {
			keep[j] = i == 1 || i == 2 && j == n-1 || i == 3 && j < n-1 || i > 3 && r.Intn(2) == 0
		}
		left, _ := disk.Crash(d, keep...)
		then(left)
	}
}

// reopened opens a disk, with crashes on the way, and tells all home sectors.
func reopened(t *testing.T, r *rand.Rand, d api.Disk, then func([]string)) {
	t.Helper()
	l, e := wal.Open(api.Power{Disk: d, Left: -1})
	if e != api.OK {
		t.Fatalf("Open tells %d", e)
	}
	then(homes(l))
	for left := range 50 {
		down, e := wal.Open(api.Power{Disk: d, Left: left})
		if e == api.OK {
			return
		}
		if e != api.ErrDown || down.Left != 0 || down.Epoch != 0 {
			t.Fatalf("Open with %d calls tells %v, %d", left, down, e)
		}
		keep := make([]bool, len(down.Pending))
		for j := range keep {
			keep[j] = r.Intn(2) == 0
		}
		again, _ := disk.Crash(down.Disk, keep...)
		l, e := wal.Open(api.Power{Disk: again, Left: -1})
		if e != api.OK {
			t.Fatalf("Open behind a crash in Open tells %d", e)
		}
		then(homes(l))
	}
}

// P5.7: wherever the power goes, all home sectors are what they were ahead of the call, or what they are behind it.
func TestCrashes(t *testing.T) {
	r := rand.New(rand.NewSource(2))
	for range 14 {
		l := start(t, 66)
		for range 9 {
			writes := some(r, 66, 4)
			if r.Intn(5) == 0 {
				writes = some(r, 66, 13)
			}
			ahead := homes(l)
			call := func(l api.Log) (api.Log, api.Errno) { return wal.Commit(l, writes...) }
			if r.Intn(5) == 0 {
				call = wal.Checkpoint
			}
			done, _ := call(l)
			behind := homes(done)
			for left := range 60 {
				l.Left = left
				down, e := call(l)
				either := func(got []string) {
					if !slices.Equal(got, behind) && (e == api.OK || !slices.Equal(got, ahead)) {
						t.Fatalf("Left %d, %d: %v, not %v or %v", left, e, got, ahead, behind)
					}
				}
				if e == api.OK {
					crashes(r, down.Disk, func(d api.Disk) { reopened(t, r, d, either) })
					break
				}
				if e != api.ErrDown || down.Left != 0 || !same(down, api.Log{Power: down.Power}) {
					t.Fatalf("Left %d: %v, %d", left, down, e)
				}
				crashes(r, down.Disk, func(d api.Disk) { reopened(t, r, d, either) })
			}
			l = done
		}
	}
}

// The chapter's examples.
func TestExamples(t *testing.T) {
	l := commit(t, start(t, 64), api.Write{Sector: 60, Bytes: "a"})
	if s, e := wal.Read(l, 60); s != "a" || e != api.OK {
		t.Error(s, e)
	}
	d, _ := disk.Crash(l.Disk)
	l, _ = wal.Open(api.Power{Disk: d, Left: -1})
	if s, e := wal.Read(l, 60); s != "a" || e != api.OK {
		t.Error(s, e)
	}
}
