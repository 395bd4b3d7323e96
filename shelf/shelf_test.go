package shelf_test

import (
	"maps"
	"math"
	"math/rand"
	"slices"
	"strings"
	"testing"

	"doorward/api"
	"doorward/blob"
	"doorward/disk"
	"doorward/entry"
	"doorward/room"
	"doorward/shelf"
	"doorward/wal"
)

func sameEntries(a, b []api.Entry) bool {
	return slices.EqualFunc(a, b, func(x, y api.Entry) bool {
		return x.Name == y.Name && x.Current == y.Current && x.Next == y.Next && slices.Equal(x.Vers, y.Vers)
	})
}

func sameLog(a, b api.Log) bool {
	return slices.Equal(a.Sectors, b.Sectors) && slices.Equal(a.Pending, b.Pending) && a.Left == b.Left &&
		a.Epoch == b.Epoch && a.Seq == b.Seq && a.Used == b.Used && slices.Equal(a.Dirty, b.Dirty)
}

func same(a, b api.Shelf) bool {
	return sameLog(a.Log, b.Log) && slices.Equal(a.Taken, b.Taken) && a.List == b.List && sameEntries(a.Entries, b.Entries)
}

func cloneEntries(l []api.Entry) []api.Entry {
	l = slices.Clone(l)
	for i := range l {
		l[i].Vers = slices.Clone(l[i].Vers)
	}
	return l
}

func clone(s api.Shelf) api.Shelf {
	s.Sectors, s.Pending, s.Dirty = slices.Clone(s.Sectors), slices.Clone(s.Pending), slices.Clone(s.Dirty)
	s.Taken, s.Entries = slices.Clone(s.Taken), cloneEntries(s.Entries)
	return s
}

func start(t *testing.T, n int) api.Shelf {
	t.Helper()
	s, e := shelf.New(n)
	if e != api.OK {
		t.Fatal(e)
	}
	return s
}

func publish(t *testing.T, s api.Shelf, name, source, filter string) api.Shelf {
	t.Helper()
	s, _, e := shelf.Publish(s, name, source, filter)
	if e != api.OK {
		t.Fatalf("Publish %q: %d", name, e)
	}
	return s
}

func filter(n int) string { return strings.Repeat("f", 8*n) }

// rootOf is the root sector's bytes.
func rootOf(list, n int, row []bool) string {
	return strings.TrimRight(string([]byte{byte(list), byte(list >> 8), byte(n), byte(n >> 8)})+room.Pack(row), "\x00")
}

// saved is what saving a list tells, step by step.
func saved(s api.Shelf, l []api.Entry, row []bool, writes []api.Write) (api.Shelf, api.Errno) {
	packed, e := entry.Pack(l)
	if e != api.OK {
		return api.Shelf{}, e
	}
	row, head, own, e := blob.Lay(row, packed)
	if e != api.OK {
		return api.Shelf{}, e
	}
	if s.List != 0 {
		_, old, _ := blob.Load(s.Log, s.List)
		if row, e = room.Give(row, old...); e != api.OK {
			return api.Shelf{}, e
		}
	}
	log, e := wal.Commit(s.Log, slices.Concat(writes, own, []api.Write{{Sector: 53, Bytes: rootOf(head, len(s.Sectors), row)}})...)
	if e != api.OK {
		return api.Shelf{Log: log}, e
	}
	return api.Shelf{Log: log, Taken: row, List: head, Entries: l}, api.OK
}

// published is what Publish tells of what may be published.
func published(s api.Shelf, name, source, filter string) (api.Shelf, int, api.Errno) {
	l := cloneEntries(s.Entries)
	at, found := entry.Find(l, name)
	if !found {
		l = slices.Insert(l, at, api.Entry{Name: name, Next: 1})
	}
	row, a, first, e := blob.Lay(s.Taken, source)
	if e != api.OK {
		return api.Shelf{}, 0, e
	}
	row, b, second, e := blob.Lay(row, filter)
	if e != api.OK {
		return api.Shelf{}, 0, e
	}
	no := l[at].Next
	l[at].Vers = append(l[at].Vers, api.Ver{No: no, Source: a, Filter: b, Bytes: len(source), Insns: len(filter) / 8})
	l[at].Current, l[at].Next = no, no+1
	next, e := saved(s, l, row, slices.Concat(first, second))
	if e != api.OK {
		no = 0
	}
	return next, no, e
}

// some is a shelf with two names.
func some(t *testing.T) api.Shelf {
	s := publish(t, start(t, 100), "web", "source one", filter(1))
	s = publish(t, s, "db", strings.Repeat("d", 1200), filter(70))
	return publish(t, s, "web", "", filter(2))
}

// wrong are shelves that may not be.
func wrong(t *testing.T) []api.Shelf {
	var all []api.Shelf
	add := func(change func(s *api.Shelf)) {
		s := clone(some(t))
		change(&s)
		all = append(all, s)
	}
	add(func(s *api.Shelf) { *s = api.Shelf{} })
	add(func(s *api.Shelf) { *s = api.Shelf{Log: api.Log{Power: s.Power}} })
	add(func(s *api.Shelf) { *s = api.Shelf{Log: s.Log} })
	add(func(s *api.Shelf) { s.Epoch = 0 })
	add(func(s *api.Shelf) { s.Seq = 7 })
	add(func(s *api.Shelf) { s.Sectors = s.Sectors[:63] })
	add(func(s *api.Shelf) { s.Sectors = append(s.Sectors, "") })
	add(func(s *api.Shelf) { s.Dirty = nil })
	add(func(s *api.Shelf) { s.Dirty[0].Bytes = "" })
	add(func(s *api.Shelf) { s.List++ })
	add(func(s *api.Shelf) { s.List = 0 })
	add(func(s *api.Shelf) { s.Taken[99] = true })
	add(func(s *api.Shelf) { s.Taken[54] = !s.Taken[54] })
	add(func(s *api.Shelf) { s.Taken = s.Taken[:99] })
	add(func(s *api.Shelf) { s.Taken = append(s.Taken, false) })
	add(func(s *api.Shelf) { s.Taken = nil })
	add(func(s *api.Shelf) { s.Entries = nil })
	add(func(s *api.Shelf) { s.Entries = s.Entries[1:] })
	add(func(s *api.Shelf) { slices.Reverse(s.Entries) })
	add(func(s *api.Shelf) { s.Entries[0].Name = "dc" })
	add(func(s *api.Shelf) { s.Entries[1].Current = 1 })
	add(func(s *api.Shelf) { s.Entries[0].Next++ })
	add(func(s *api.Shelf) { s.Entries[1].Vers = s.Entries[1].Vers[1:] })
	add(func(s *api.Shelf) { s.Entries[0].Vers[0].No = 2 })
	add(func(s *api.Shelf) { s.Entries[0].Vers[0].Bytes-- })
	add(func(s *api.Shelf) { s.Entries[0].Vers[0].Insns-- })
	add(func(s *api.Shelf) { s.Entries[0].Vers[0].Source++ })
	add(func(s *api.Shelf) { s.Entries[0].Vers[0].Filter-- })
	add(func(s *api.Shelf) { s.Entries = append(s.Entries, api.Entry{Name: "z"}) })
	return all
}

// P9.1: New.
func TestNew(t *testing.T) {
	for _, n := range []int{64, 65, 100, 255, 256} {
		l, _ := wal.New(n)
		row, _ := room.New(n)
		want, _ := saved(api.Shelf{Log: l}, nil, row, nil)
		s, e := shelf.New(n)
		if e != api.OK || !same(s, want) || s.List != 54 || len(s.Entries) != 0 || s.Left != -1 || room.Free(s.Taken) != n-55 || !shelf.Right(s) {
			t.Errorf("New(%d) = %v, %d", n, s, e)
		}
		if root, _ := wal.Read(s.Log, 53); root != rootOf(54, n, s.Taken) {
			t.Errorf("New(%d): the root sector is %q", n, root)
		}
		if list, _ := wal.Read(s.Log, 54); list != "\x00\x00\x01" {
			t.Errorf("New(%d): the list's sector is %q", n, list)
		}
	}
	for _, n := range []int{63, 257, 0, -1, math.MinInt, math.MaxInt} {
		if s, e := shelf.New(n); e != api.ErrArg || !same(s, api.Shelf{}) {
			t.Errorf("New(%d) = %v, %d", n, s, e)
		}
	}
}

// P9.1: Right.
func TestRight(t *testing.T) {
	if s := some(t); !shelf.Right(s) || !shelf.Right(start(t, 256)) {
		t.Error("they may be")
	}
	for i, s := range wrong(t) {
		if shelf.Right(s) {
			t.Errorf("shelf %d may not be", i)
		}
	}
}

// P9.2 to P9.5: a shelf that may not be is refused first.
func TestWrongShelvesAreRefused(t *testing.T) {
	for i, s := range wrong(t) {
		was := clone(s)
		for _, name := range []string{"web", "none", "", "a name that is too long"} {
			if a, b, v, e := shelf.Get(s, name, 9); e != api.ErrArg || a != "" || b != "" || v != (api.Ver{}) {
				t.Errorf("Get of shelf %d: %d", i, e)
			}
			if x, no, e := shelf.Publish(s, name, "a", filter(1)); e != api.ErrArg || no != 0 || !same(x, api.Shelf{}) {
				t.Errorf("Publish of shelf %d: %v, %d", i, x, e)
			}
			if x, e := shelf.Rollback(s, name, 9); e != api.ErrArg || !same(x, api.Shelf{}) {
				t.Errorf("Rollback of shelf %d: %v, %d", i, x, e)
			}
			if x, e := shelf.Delete(s, name); e != api.ErrArg || !same(x, api.Shelf{}) {
				t.Errorf("Delete of shelf %d: %v, %d", i, x, e)
			}
		}
		if x, e := shelf.Collect(s); e != api.ErrArg || !same(x, api.Shelf{}) {
			t.Errorf("Collect of shelf %d: %v, %d", i, x, e)
		}
		if !same(s, was) {
			t.Errorf("shelf %d is changed", i)
		}
	}
}

// P9.1: Open's errors: those of wal.Open, and ErrCorrupt of a log that tells no shelf.
func TestOpenRefuses(t *testing.T) {
	l, _ := wal.New(100)
	for _, p := range []api.Power{{}, {Left: -1}, {Disk: api.Disk{Sectors: make([]string, 63)}, Left: -1}} {
		if s, e := shelf.Open(p); e != api.ErrArg || !same(s, api.Shelf{}) {
			t.Errorf("Open(%v) = %v, %d", p, s, e)
		}
	}
	if s, e := shelf.Open(api.Power{Disk: api.Disk{Sectors: make([]string, 100)}, Left: -1}); e != api.ErrCorrupt || !same(s, api.Shelf{}) {
		t.Errorf("Open of an empty disk: %v, %d", s, e)
	}
	if s, e := shelf.Open(l.Power); e != api.ErrCorrupt || !same(s, api.Shelf{}) {
		t.Errorf("Open of a log without a shelf: %v, %d", s, e)
	}
	base := some(t)
	for left := range 40 {
		p := clone(base).Power
		p.Left = left
		log, e := wal.Open(p)
		s, f := shelf.Open(p)
		if e != f || !sameLog(s.Log, log) || e != api.OK && !same(s, api.Shelf{Log: api.Log{Power: log.Power}}) || e == api.OK && !shelf.Right(s) {
			t.Errorf("Open with %d calls: %v, %d, not %d", left, s, f, e)
		}
	}
}

// broken opens what some is, with other home sectors.
func broken(t *testing.T, what string, change func(s api.Shelf) []api.Write) {
	t.Helper()
	s := some(t)
	l, e := wal.Commit(s.Log, change(s)...)
	if e != api.OK {
		t.Fatal(what, e)
	}
	if x, e := shelf.Open(l.Power); e != api.ErrCorrupt || !same(x, api.Shelf{}) {
		t.Errorf("%s: %d", what, e)
	}
	s.Log = l
	if shelf.Right(s) {
		t.Errorf("%s: it may not be", what)
	}
}

func at(sector int, bytes string) []api.Write { return []api.Write{{Sector: sector, Bytes: bytes}} }

// relisted are the writes that lay another list where nothing lies, and the root sector with it.
func relisted(s api.Shelf, change func(l []api.Entry) []api.Entry) []api.Write {
	packed, _ := entry.Pack(change(cloneEntries(s.Entries)))
	row, head, writes, _ := blob.Lay(s.Taken, packed)
	return append(writes, api.Write{Sector: 53, Bytes: rootOf(head, 100, row)})
}

// P9.1: which logs tell no shelf: the root sector, the list, the blobs, what is one of two, what is not used.
func TestLogsThatTellNoShelf(t *testing.T) {
	broken(t, "no root", func(s api.Shelf) []api.Write { return at(53, "") })
	broken(t, "another size", func(s api.Shelf) []api.Write { return at(53, rootOf(s.List, 101, append(s.Taken, false))) })
	broken(t, "a lesser size", func(s api.Shelf) []api.Write { return at(53, rootOf(s.List, 99, s.Taken[:99])) })
	broken(t, "a row too short", func(s api.Shelf) []api.Write { return at(53, rootOf(s.List, 100, s.Taken)[:8]) })
	broken(t, "more than a row", func(s api.Shelf) []api.Write { return at(53, rootOf(s.List, 100, s.Taken)+"\x00\x00\x00\x00\x01") })
	broken(t, "places behind the row", func(s api.Shelf) []api.Write {
		return at(53, rootOf(s.List, 100, append(s.Taken, false, true)))
	})
	broken(t, "a row that may not be", func(s api.Shelf) []api.Write {
		row := slices.Clone(s.Taken)
		row[20] = false
		return at(53, rootOf(s.List, 100, row))
	})
	broken(t, "another list's sector", func(s api.Shelf) []api.Write { return at(53, rootOf(s.List+1, 100, s.Taken)) })
	broken(t, "no list's sector", func(s api.Shelf) []api.Write { return at(53, rootOf(0, 100, s.Taken)) })
	broken(t, "a list's sector that there is not", func(s api.Shelf) []api.Write { return at(53, rootOf(100, 100, s.Taken)) })
	broken(t, "a list that is none", func(s api.Shelf) []api.Write { return at(s.List, "\x00\x00\x02\x00\x00\x01") })
	broken(t, "a list that is no blob", func(s api.Shelf) []api.Write { return at(s.List, "\xff\xff\x02") })
	for _, i := range []int{0, 1} {
		v := some(t).Entries[i].Vers[0]
		for what, first := range map[string]int{"source": v.Source, "filter": v.Filter} {
			broken(t, "no blob of a "+what, func(s api.Shelf) []api.Write { return at(first, "\x00\x00\xff\xff") })
			broken(t, "a shorter "+what, func(s api.Shelf) []api.Write { return at(first, "\x00\x00\x01\x00a") })
			broken(t, "a ring of a "+what, func(s api.Shelf) []api.Write {
				return at(first, string([]byte{byte(first), 0, 244, 1})+strings.Repeat("a", 500))
			})
			broken(t, "a sector of a "+what+" that is not used", func(s api.Shelf) []api.Write {
				row := slices.Clone(s.Taken)
				row[first] = false
				return at(53, rootOf(s.List, 100, row))
			})
		}
	}
	broken(t, "the list's sector is not used", func(s api.Shelf) []api.Write {
		row := slices.Clone(s.Taken)
		row[s.List] = false
		return at(53, rootOf(s.List, 100, row))
	})
	broken(t, "other bytes", func(s api.Shelf) []api.Write {
		return relisted(s, func(l []api.Entry) []api.Entry { l[0].Vers[0].Bytes--; return l })
	})
	broken(t, "other instructions", func(s api.Shelf) []api.Write {
		return relisted(s, func(l []api.Entry) []api.Entry { l[0].Vers[0].Insns++; return l })
	})
	broken(t, "a source of two versions", func(s api.Shelf) []api.Write {
		return relisted(s, func(l []api.Entry) []api.Entry {
			l[1].Vers[0].Source, l[1].Vers[0].Bytes = l[0].Vers[0].Source, l[0].Vers[0].Bytes
			return l
		})
	})
	broken(t, "a filter of two versions", func(s api.Shelf) []api.Write {
		return relisted(s, func(l []api.Entry) []api.Entry {
			l[1].Vers[0].Filter, l[1].Vers[0].Insns = l[0].Vers[0].Filter, l[0].Vers[0].Insns
			return l
		})
	})
	broken(t, "a source that begins within another one", func(s api.Shelf) []api.Write {
		_, sectors, _ := blob.Load(s.Log, s.Entries[0].Vers[0].Source)
		return relisted(s, func(l []api.Entry) []api.Entry {
			l[1].Vers[0].Source, l[1].Vers[0].Bytes = sectors[1], 700
			return l
		})
	})
	broken(t, "a source that is the list", func(s api.Shelf) []api.Write {
		packed, _ := entry.Pack(s.Entries)
		l := cloneEntries(s.Entries)
		l[1].Vers[0].Source, l[1].Vers[0].Bytes = s.List, len(packed)
		again, _ := entry.Pack(l)
		_, _, writes, _ := blob.Lay(s.Taken, again)
		return at(s.List, writes[0].Bytes)
	})
}

// P9.1: a log of which more is used, and another list of the same blobs, tell a shelf.
func TestOpenTellsWhatTheLogTells(t *testing.T) {
	s := some(t)
	row := slices.Clone(s.Taken)
	row[99] = true
	l, _ := wal.Commit(s.Log, at(53, rootOf(s.List, 100, row))...)
	x, e := shelf.Open(l.Power)
	if e != api.OK || !slices.Equal(x.Taken, row) || x.List != s.List || !sameEntries(x.Entries, s.Entries) || !shelf.Right(x) {
		t.Errorf("%v, %d", x, e)
	}
	fewer := relisted(s, func(l []api.Entry) []api.Entry { l[1].Current = 1; return l[1:] })
	l, _ = wal.Commit(s.Log, fewer...)
	x, e = shelf.Open(l.Power)
	if e != api.OK || len(x.Entries) != 1 || x.Entries[0].Current != 1 || x.Epoch != l.Epoch+1 || !shelf.Right(x) {
		t.Errorf("%v, %d", x, e)
	}
}

// P9.2: Get.
func TestGet(t *testing.T) {
	s := some(t)
	long := strings.Repeat("d", 1200)
	for _, c := range []struct {
		name           string
		no             int
		source, filter string
		i, j           int
		e              api.Errno
	}{
		{"web", 0, "", filter(2), 1, 1, api.OK}, {"web", 2, "", filter(2), 1, 1, api.OK}, {"web", 1, "source one", filter(1), 1, 0, api.OK},
		{"db", 0, long, filter(70), 0, 0, api.OK}, {"db", 1, long, filter(70), 0, 0, api.OK},
		{"web", 3, "", "", 0, 0, api.ErrVersion}, {"web", -1, "", "", 0, 0, api.ErrVersion}, {"db", 2, "", "", 0, 0, api.ErrVersion},
		{"web", math.MaxInt, "", "", 0, 0, api.ErrVersion}, {"web", math.MinInt, "", "", 0, 0, api.ErrVersion},
		{"we", 0, "", "", 0, 0, api.ErrName}, {"", 0, "", "", 0, 0, api.ErrName}, {"webb", 9, "", "", 0, 0, api.ErrName}, {strings.Repeat("z", 99), 1, "", "", 0, 0, api.ErrName},
	} {
		v := api.Ver{}
		if c.e == api.OK {
			v = s.Entries[c.i].Vers[c.j]
		}
		if a, b, got, e := shelf.Get(s, c.name, c.no); e != c.e || a != c.source || b != c.filter || got != v {
			t.Errorf("Get(%q, %d) = %d bytes, %d bytes, %v, %d", c.name, c.no, len(a), len(b), got, e)
		}
	}
	s, _ = shelf.Rollback(s, "web", 1)
	if a, b, v, e := shelf.Get(s, "web", 0); a != "source one" || b != filter(1) || v.No != 1 || e != api.OK {
		t.Error(a, b, v, e)
	}
}

// P9.3: Publish, as the list is saved.
func TestPublish(t *testing.T) {
	s := start(t, 256)
	for _, c := range []struct {
		name, source, filter string
		no                   int
	}{
		{"web", "x", filter(1), 1}, {"a", "", filter(62), 1}, {"web", strings.Repeat("y", 2000), filter(63), 2}, {"123456789012", strings.Repeat("z", 500), filter(1000), 1},
		{"\x00", "\x00\x00", strings.Repeat("\x00", 16), 1}, {"web", "x", filter(1), 3}, {"a", strings.Repeat("q", 501), filter(125), 2},
	} {
		was := clone(s)
		want, no, _ := published(s, c.name, c.source, c.filter)
		got, n, e := shelf.Publish(s, c.name, c.source, c.filter)
		if e != api.OK || n != no || n != c.no || !same(got, want) || !shelf.Right(got) || !same(s, was) {
			t.Fatalf("Publish %q: %d, %d", c.name, n, e)
		}
		s = got
		if a, b, v, e := shelf.Get(s, c.name, 0); a != c.source || b != c.filter || v.No != n || e != api.OK {
			t.Errorf("Get of %q: %q, %d", c.name, a, e)
		}
	}
	// The widest that the log takes: 34 sectors of a filter, 4 of a source, the list's and the root.
	s = start(t, 256)
	if _, no, e := shelf.Publish(s, "wide", strings.Repeat("s", 2000), filter(34*500/8)); no != 1 || e != api.OK {
		t.Error(no, e)
	}
}

// P9.3: Publish's errors, in their order.
func TestPublishRefuses(t *testing.T) {
	check := func(s api.Shelf, name, source, filter string, want api.Errno) {
		t.Helper()
		was := clone(s)
		if x, no, e := shelf.Publish(s, name, source, filter); e != want || no != 0 || !same(x, api.Shelf{}) || !same(s, was) {
			t.Errorf("Publish(%q, %d, %d) = %d, %d", name, len(source), len(filter), no, e)
		}
	}
	s := some(t)
	check(s, "", "x", filter(1), api.ErrArg)
	check(s, "1234567890123", "x", filter(1), api.ErrArg)
	check(s, "web", strings.Repeat("x", 2001), filter(1), api.ErrArg)
	for _, n := range []int{0, 1, 7, 9, 15, 17, 500, 32769, 32776, 32767} {
		check(s, "web", "x", strings.Repeat("f", n), api.ErrArg)
	}
	check(s, "web", "x", strings.Repeat("f", 32768), api.ErrFull)
	check(s, "web", "x", strings.Repeat("f", 20008), api.ErrFull)
	small := start(t, 64)
	check(small, "web", "x", strings.Repeat("f", 4008), api.ErrSpace)         // the source 1, the filter 9: nothing is left for the list
	check(small, "web", strings.Repeat("x", 2000), filter(313), api.ErrSpace) // the filter finds no room
	check(small, "web", strings.Repeat("x", 2000), filter(4000), api.ErrFull) // the filter is refused ahead of being laid
	check(start(t, 256), "web", strings.Repeat("x", 2000), filter(34*500/8+1), api.ErrFull)
	full := filled(t, s)
	check(full, "g", "x", filter(4000), api.ErrSpace) // the source is laid ahead of the filter
	check(full, "web", "", filter(1), api.ErrSpace)
	check(full, "1234567890123", "", filter(1), api.ErrArg)
	check(full, "web", strings.Repeat("x", 2001), filter(1), api.ErrArg)
	check(full, "web", "", filter(1)+"f", api.ErrArg)

	many := start(t, 256)
	for _, name := range strings.Split("abcdefgh", "") {
		many = publish(t, many, name, "", filter(1))
	}
	check(many, "i", "x", filter(1), api.ErrMany)
	check(many, "A", "x", filter(4096), api.ErrMany)
	check(many, "", "x", filter(1), api.ErrArg)
	check(many, "i", "x", "", api.ErrArg)
	check(many, "1234567890123", "x", filter(1), api.ErrArg)
	check(many, "i", strings.Repeat("x", 2001), filter(1), api.ErrArg)
	check(many, "i", "x", strings.Repeat("f", 32776), api.ErrArg)
	for i := 2; i <= 6; i++ {
		many = publish(t, many, "d", "", filter(1))
	}
	check(many, "d", "x", filter(1), api.ErrMany)
	check(many, "d", "x", filter(4096), api.ErrMany)
	if _, no, e := shelf.Publish(many, "e", "x", filter(1)); no != 2 || e != api.OK {
		t.Error(no, e)
	}
}

// P9.1 to P9.5: without power each call that writes tells the power alone, Open once it checkpoints; Get needs none.
func TestWithoutPower(t *testing.T) {
	s := some(t)
	s.Left = 0
	gone := api.Shelf{Log: api.Log{Power: s.Power}}
	if x, no, e := shelf.Publish(s, "web", "x", filter(1)); e != api.ErrDown || no != 0 || !same(x, gone) {
		t.Error(no, e)
	}
	if x, e := shelf.Rollback(s, "web", 1); e != api.ErrDown || !same(x, gone) {
		t.Error(e)
	}
	if x, e := shelf.Delete(s, "web"); e != api.ErrDown || !same(x, gone) {
		t.Error(e)
	}
	if x, e := shelf.Collect(s); e != api.ErrDown || !same(x, gone) {
		t.Error(e)
	}
	if x, e := shelf.Open(s.Power); e != api.ErrDown || !same(x, gone) {
		t.Error(e)
	}
	if a, _, _, e := shelf.Get(s, "web", 1); a != "source one" || e != api.OK || !shelf.Right(s) {
		t.Error(a, e)
	}
	if x, e := shelf.Delete(s, "none"); e != api.ErrName || !same(x, api.Shelf{}) {
		t.Error(e)
	}
}

// P9.3: a name's numbers end where Next is 65535.
func TestNumbersEnd(t *testing.T) {
	s := publish(t, start(t, 100), "web", "x", filter(1))
	for _, next := range []int{65534, 65535} {
		l, e := wal.Commit(s.Log, relisted(s, func(l []api.Entry) []api.Entry { l[0].Next = next; return l })...)
		x, f := shelf.Open(l.Power)
		if e != api.OK || f != api.OK {
			t.Fatal(e, f)
		}
		y, no, e := shelf.Publish(x, "web", "y", filter(1))
		if next == 65535 && (e != api.ErrMany || no != 0 || !same(y, api.Shelf{})) {
			t.Errorf("Next 65535: %d, %d", no, e)
		}
		if next == 65534 && (e != api.OK || no != 65534 || y.Entries[0].Next != 65535 || y.Entries[0].Current != 65534) {
			t.Errorf("Next 65534: %d, %d", no, e)
		}
	}
}

// P9.4: Rollback and Delete.
func TestRollbackAndDelete(t *testing.T) {
	s := some(t)
	for _, c := range []struct {
		name string
		no   int
		e    api.Errno
	}{
		{"web", 1, api.OK}, {"web", 2, api.OK}, {"db", 1, api.OK}, {"web", 0, api.ErrVersion}, {"web", 3, api.ErrVersion}, {"web", -1, api.ErrVersion}, {"db", 2, api.ErrVersion},
		{"w", 1, api.ErrName}, {"", 0, api.ErrName}, {"zebra", 0, api.ErrName},
	} {
		was := clone(s)
		l := cloneEntries(s.Entries)
		want := api.Shelf{}
		if i, found := entry.Find(l, c.name); c.e == api.OK && found {
			l[i].Current = c.no
			want, _ = saved(s, l, s.Taken, nil)
		}
		if x, e := shelf.Rollback(s, c.name, c.no); e != c.e || !same(x, want) || !same(s, was) || e == api.OK && !shelf.Right(x) {
			t.Errorf("Rollback(%q, %d): %d", c.name, c.no, e)
		}
	}
	for _, name := range []string{"web", "db", "none", "", "we"} {
		was := clone(s)
		l := cloneEntries(s.Entries)
		want, f := api.Shelf{}, api.ErrName
		if i, found := entry.Find(l, name); found {
			want, f = saved(s, slices.Delete(l, i, i+1), s.Taken, nil)
		}
		if x, e := shelf.Delete(s, name); e != f || !same(x, want) || !same(s, was) || e == api.OK && !shelf.Right(x) {
			t.Errorf("Delete(%q): %d", name, e)
		}
	}
	x, _ := shelf.Delete(s, "web")
	if _, _, _, e := shelf.Get(x, "web", 0); e != api.ErrName || room.Free(x.Taken) != room.Free(s.Taken) {
		t.Error(e, "its data's sectors stay used")
	}
	x, no, e := shelf.Publish(x, "web", "new", filter(1))
	if no != 1 || e != api.OK || len(x.Entries[1].Vers) != 1 {
		t.Error("a name behind a Delete is a new one", no, e)
	}
}

// filled is a shelf of the same list, with all sectors used.
func filled(t *testing.T, s api.Shelf) api.Shelf {
	t.Helper()
	n := len(s.Sectors)
	l, e := wal.Commit(s.Log, at(53, rootOf(s.List, n, slices.Repeat([]bool{true}, n)))...)
	x, f := shelf.Open(l.Power)
	if e != api.OK || f != api.OK || room.Free(x.Taken) != 0 {
		t.Fatal(e, f)
	}
	return x
}

// P9.4: where there is no room for the list, ErrSpace; a collecting makes some.
func TestNoRoomForTheList(t *testing.T) {
	s := filled(t, some(t))
	if x, e := shelf.Rollback(s, "web", 1); e != api.ErrSpace || !same(x, api.Shelf{}) {
		t.Error(e)
	}
	if x, e := shelf.Delete(s, "web"); e != api.ErrSpace || !same(x, api.Shelf{}) {
		t.Error(e)
	}
	s, e := shelf.Collect(s)
	if e != api.OK || room.Free(s.Taken) == 0 {
		t.Fatal(e)
	}
	if x, e := shelf.Rollback(s, "web", 1); e != api.OK || x.Entries[1].Current != 1 {
		t.Error(e)
	}
}

// P9.5, P9.7: Collect has just the first 54, the list's and the versions' sectors used, and commits the root alone.
func TestCollect(t *testing.T) {
	s := some(t)
	s, _ = shelf.Delete(s, "db")
	row := slices.Clone(s.Taken)
	for i := 54; i < len(row); i++ {
		row[i] = false
	}
	_, list, _ := blob.Load(s.Log, s.List)
	for _, v := range s.Entries[0].Vers {
		_, a, _ := blob.Load(s.Log, v.Source)
		_, b, _ := blob.Load(s.Log, v.Filter)
		list = slices.Concat(list, a, b)
	}
	for _, i := range list {
		row[i] = true
	}
	want := s
	want.Log, _ = wal.Commit(s.Log, at(53, rootOf(s.List, 100, row))...)
	want.Taken = row
	was := clone(s)
	got, e := shelf.Collect(s)
	if e != api.OK || !same(got, want) || !same(s, was) || room.Free(got.Taken) != 100-54-5 || !shelf.Right(got) {
		t.Errorf("%v, %d, not %v", got, e, want)
	}
	if again, e := shelf.Collect(got); e != api.OK || !slices.Equal(again.Taken, got.Taken) || !sameEntries(again.Entries, got.Entries) {
		t.Errorf("again: %d", e)
	}
}

// calls are all calls of a shelf that change it, of a random one.
func calls(r *rand.Rand) func(api.Shelf) (api.Shelf, api.Errno) {
	name := []string{"web", "db", "a", "mail"}[r.Intn(4)]
	no := r.Intn(5)
	source, code := strings.Repeat("s", r.Intn(900)), strings.Repeat("f", 8*(1+r.Intn(90)))
	switch r.Intn(9) {
	case 0:
		return func(s api.Shelf) (api.Shelf, api.Errno) { return shelf.Rollback(s, name, no) }
	case 1:
		return func(s api.Shelf) (api.Shelf, api.Errno) { return shelf.Delete(s, name) }
	case 2, 3:
		return shelf.Collect
	}
	return func(s api.Shelf) (api.Shelf, api.Errno) {
		s, _, e := shelf.Publish(s, name, source, code)
		return s, e
	}
}

// told is all that a shelf tells: each version's data, by name and number, and which one counts.
func told(t *testing.T, s api.Shelf) map[string]string {
	t.Helper()
	all := map[string]string{}
	for _, e := range s.Entries {
		all[e.Name] = string(rune(e.Current)) + " " + string(rune(e.Next))
		for _, v := range e.Vers {
			source, filter, _, why := shelf.Get(s, e.Name, v.No)
			if why != api.OK {
				t.Fatal(why)
			}
			all[e.Name+"/"+string(rune(v.No))] = source + "/" + filter
		}
	}
	return all
}

// P9.6: what is published is got, as it was, as long as its name is not deleted; a rollback and a collecting change no data.
func TestWhatFollows(t *testing.T) {
	r := rand.New(rand.NewSource(1))
	for range 8 {
		s := start(t, 64+r.Intn(193))
		type version struct{ source, filter string }
		kept := map[string]map[int]version{}
		current := map[string]int{}
		for range 60 {
			name := []string{"web", "db", "a"}[r.Intn(3)]
			var e api.Errno
			next := s
			switch r.Intn(7) {
			case 0:
				if next, e = shelf.Delete(s, name); e == api.OK {
					delete(kept, name)
				}
			case 1:
				no := r.Intn(7)
				next, e = shelf.Rollback(s, name, no)
				if _, ok := kept[name][no]; e == api.OK && !ok {
					t.Fatal("a rollback to no version")
				}
				if e == api.OK {
					current[name] = no
				}
			case 2:
				next, e = shelf.Collect(s)
			case 3:
				next, e = shelf.Open(s.Power)
			default:
				v := version{strings.Repeat("s", r.Intn(1200)), strings.Repeat("f", 8*(1+r.Intn(100)))}
				no := 0
				if next, no, e = shelf.Publish(s, name, v.source, v.filter); e == api.OK {
					if kept[name] == nil {
						kept[name] = map[int]version{}
					}
					kept[name][no], current[name] = v, no
				}
			}
			if e == api.OK {
				s = next
			} else if !same(next, api.Shelf{}) {
				t.Fatalf("beside %d: %v", e, next)
			}
			for name, versions := range kept {
				for no, v := range versions {
					if a, b, got, e := shelf.Get(s, name, no); e != api.OK || a != v.source || b != v.filter || got.No != no {
						t.Fatalf("%q %d: %d", name, no, e)
					}
				}
				if _, _, got, e := shelf.Get(s, name, 0); e != api.OK || got.No != current[name] {
					t.Fatalf("%q counts %d: %d", name, got.No, e)
				}
			}
			if len(s.Entries) != len(kept) || !shelf.Right(s) {
				t.Fatal(s.Entries)
			}
		}
	}
}

// P9.6: wherever the power goes, an opened shelf tells what was ahead of the call or what is behind it.
func TestCrashes(t *testing.T) {
	r := rand.New(rand.NewSource(2))
	for range 6 {
		s := start(t, 80)
		for range 10 {
			call := calls(r)
			done, e := call(s)
			if e != api.OK {
				continue
			}
			ahead, behind := told(t, s), told(t, done)
			for left := range 60 {
				s.Left = left
				down, e := call(s)
				if e != api.OK && (e != api.ErrDown || !same(down, api.Shelf{Log: api.Log{Power: down.Power}}) || down.Left != 0) {
					t.Fatalf("with %d calls: %v, %d", left, down, e)
				}
				for i := range 4 {
					keep := make([]bool, len(down.Pending))
					for j := range keep {
						keep[j] = i == 1 || i > 1 && r.Intn(2) == 0
					}
					d, _ := disk.Crash(down.Disk, keep...)
					again, _ := shelf.Open(api.Power{Disk: d, Left: r.Intn(12)})
					if len(again.Entries) == 0 && len(again.Pending) > 0 {
						d, _ = disk.Crash(again.Disk, r.Intn(2) == 0, r.Intn(2) == 0, r.Intn(2) == 0)
					}
					opened, f := shelf.Open(api.Power{Disk: d, Left: -1})
					if f != api.OK {
						t.Fatalf("Open tells %d", f)
					}
					if got := told(t, opened); !maps.Equal(got, behind) && (e == api.OK || !maps.Equal(got, ahead)) {
						t.Fatalf("with %d calls, %d: another shelf", left, e)
					}
				}
				if e == api.OK {
					break
				}
			}
			s = done
		}
	}
}

// P9.7: a publishing finds room, if as many sectors are free as are needed, and no more; and the log takes it, if it is at most 40.
func TestRoomForPublishing(t *testing.T) {
	for source := range 5 {
		for filters := 1; filters <= 37; filters++ {
			for _, n := range []int{64, 70, 94, 95, 96, 97, 98, 200} {
				s := start(t, n)
				data := strings.Repeat("s", 500*source)
				need := blob.Need(len(data)) + filters + 1
				want := api.OK
				if room.Free(s.Taken) < need {
					want = api.ErrSpace
				} else if need+1 > 40 {
					want = api.ErrFull
				}
				if _, _, e := shelf.Publish(s, "web", data, strings.Repeat("f", 496*filters)); e != want {
					t.Fatalf("%d and %d sectors on %d: %d, not %d", source, filters, n, e, want)
				}
			}
		}
	}
}

// The chapter's examples.
func TestExamples(t *testing.T) {
	s, no, e := shelf.Publish(start(t, 64), "web", "x", "12345678")
	if no != 1 || e != api.OK {
		t.Fatal(no, e)
	}
	if a, b, v, e := shelf.Get(s, "web", 0); a != "x" || b != "12345678" || v.No != 1 || e != api.OK {
		t.Error(a, b, v, e)
	}
	if s, e := shelf.Collect(s); room.Free(s.Taken) != 7 || e != api.OK {
		t.Error(room.Free(s.Taken), e)
	}
}
