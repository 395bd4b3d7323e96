package daemon_test

import (
	"math"
	"math/rand"
	"slices"
	"strconv"
	"strings"
	"testing"

	"doorward/api"
	"doorward/call"
	"doorward/daemon"
	"doorward/disk"
	"doorward/insn"
	"doorward/maker"
	"doorward/shelf"
	"doorward/vm"
	"doorward/wal"
)

const (
	x86  = 0xc000003e
	head = "arch x86_64\ndefault allow\n"
)

func sameReply(a, b api.Reply) bool {
	return a.Why == b.Why && a.At == b.At && a.No == b.No && a.Source == b.Source && a.Insns == b.Insns && a.Action == b.Action &&
		slices.EqualFunc(a.Lines, b.Lines, func(x, y api.Line) bool {
			return x.Name == y.Name && x.Current == y.Current && slices.Equal(x.Nos, y.Nos)
		})
}

func sameBooks(a, b []api.Book) bool {
	return slices.EqualFunc(a, b, func(x, y api.Book) bool {
		return x.Name == y.Name && x.Current == y.Current && x.Next == y.Next && slices.Equal(x.Pages, y.Pages)
	})
}

func same(a, b api.Shelf) bool {
	return slices.Equal(a.Sectors, b.Sectors) && slices.Equal(a.Pending, b.Pending) && a.Left == b.Left && a.Epoch == b.Epoch && a.Seq == b.Seq && a.Used == b.Used && slices.Equal(a.Dirty, b.Dirty) &&
		slices.Equal(a.Taken, b.Taken) && a.List == b.List && slices.EqualFunc(a.Entries, b.Entries, func(x, y api.Entry) bool {
		return x.Name == y.Name && x.Current == y.Current && x.Next == y.Next && slices.Equal(x.Vers, y.Vers)
	})
}

func cloneBooks(l []api.Book) []api.Book {
	l = slices.Clone(l)
	for i := range l {
		l[i].Pages = slices.Clone(l[i].Pages)
	}
	return l
}

func clone(s api.Shelf) api.Shelf {
	s.Sectors, s.Pending, s.Dirty, s.Taken, s.Entries = slices.Clone(s.Sectors), slices.Clone(s.Pending), slices.Clone(s.Dirty), slices.Clone(s.Taken), slices.Clone(s.Entries)
	for i := range s.Entries {
		s.Entries[i].Vers = slices.Clone(s.Entries[i].Vers)
	}
	return s
}

func start(t *testing.T, n int) api.Shelf {
	t.Helper()
	s, e := shelf.New(n)
	if e != api.OK {
		t.Fatal(e)
	}
	return s
}

func publishing(name, source string) api.Ask {
	return api.Ask{Kind: api.QPublish, Name: name, Source: source}
}

func record(nr uint32, args ...uint64) string {
	x := api.Call{Nr: nr, Arch: x86}
	copy(x.Args[:], args)
	return call.Pack(x)
}

// some is a shelf with two names, and three versions.
func some(t *testing.T) api.Shelf {
	t.Helper()
	s := start(t, 120)
	for _, q := range []api.Ask{publishing("web", head+"errno 38 read write\n"), publishing("db", head), publishing("web", head+"kill ioctl if arg1 == 0x5412\n")} {
		next, r := daemon.Do(s, q)
		if r.Why != api.OK {
			t.Fatal(r)
		}
		s = next
	}
	return s
}

func wrongAsks() []api.Ask {
	long := strings.Repeat("a", 13)
	l := []api.Ask{
		{}, {Kind: 9}, {Kind: -1}, {Kind: math.MaxInt}, {Kind: math.MinInt}, {Kind: 9, Name: "web"},
		{Kind: api.QPublish}, {Kind: api.QPublish, Source: head}, {Kind: api.QPublish, Name: long, Source: head}, {Kind: api.QPublish, Name: "web", No: 1, Source: head}, {Kind: api.QPublish, Name: "web", No: -1, Source: head}, {Kind: api.QPublish, Name: "web", Source: strings.Repeat(" ", 2001)}, {Kind: api.QPublish, Name: "web", Source: head, Record: "a"},
	}
	for _, kind := range []int{api.QRollback, api.QDelete, api.QGet, api.QEval} {
		l = append(l, api.Ask{Kind: kind}, api.Ask{Kind: kind, Name: long}, api.Ask{Kind: kind, Name: "web", No: -1}, api.Ask{Kind: kind, Name: "web", No: math.MinInt}, api.Ask{Kind: kind, Name: "web", Source: "a"})
		if kind != api.QEval {
			l = append(l, api.Ask{Kind: kind, Name: "web", Record: "a"})
		}
	}
	l = append(l, api.Ask{Kind: api.QDelete, Name: "web", No: 1})
	for _, kind := range []int{api.QList, api.QCollect, api.QSettle} {
		l = append(l, api.Ask{Kind: kind, Name: "web"}, api.Ask{Kind: kind, No: 1}, api.Ask{Kind: kind, No: -1}, api.Ask{Kind: kind, Source: "a"}, api.Ask{Kind: kind, Record: "a"})
	}
	return l
}

func rightAsks() []api.Ask {
	l := []api.Ask{{Kind: api.QList}, {Kind: api.QCollect}, {Kind: api.QSettle}, publishing("a", ""), publishing("123456789012", "~"), publishing("\x00", strings.Repeat(" ", 2000)), {Kind: api.QDelete, Name: "web"}, {Kind: api.QDelete, Name: "123456789012"}}
	for _, kind := range []int{api.QRollback, api.QGet, api.QEval} {
		l = append(l, api.Ask{Kind: kind, Name: "a"}, api.Ask{Kind: kind, Name: "123456789012", No: 7}, api.Ask{Kind: kind, Name: "\xff", No: math.MaxInt})
	}
	return append(l, api.Ask{Kind: api.QEval, Name: "web", Record: "a"}, api.Ask{Kind: api.QEval, Name: "web", No: 1, Record: strings.Repeat("a", 5000)})
}

// P23.1: Right.
func TestRight(t *testing.T) {
	for _, q := range rightAsks() {
		if !daemon.Right(q) {
			t.Errorf("%v may be", q)
		}
	}
	for _, q := range wrongAsks() {
		if daemon.Right(q) {
			t.Errorf("%v may not be", q)
		}
	}
}

func wrongShelves(t *testing.T) []api.Shelf {
	s := some(t)
	other, gone, fewer := clone(s), api.Shelf{Log: api.Log{Power: s.Power}}, clone(s)
	other.Taken[119] = true
	fewer.Entries = fewer.Entries[1:]
	return []api.Shelf{{}, other, gone, fewer}
}

// P23.1: Books.
func TestBooks(t *testing.T) {
	want := []api.Book{
		{Name: "db", Current: 1, Next: 2, Pages: []api.Page{{No: 1, Source: head}}},
		{Name: "web", Current: 2, Next: 3, Pages: []api.Page{{No: 1, Source: head + "errno 38 read write\n"}, {No: 2, Source: head + "kill ioctl if arg1 == 0x5412\n"}}},
	}
	for i := range want {
		for j, p := range want[i].Pages {
			prog, _, _ := maker.Make(p.Source)
			want[i].Pages[j].Insns = len(prog)
		}
	}
	if l, e := daemon.Books(some(t)); !sameBooks(l, want) || e != api.OK {
		t.Errorf("%v, %d", l, e)
	}
	if l, e := daemon.Books(start(t, 64)); len(l) != 0 || e != api.OK {
		t.Errorf("%v, %d", l, e)
	}
	for _, s := range wrongShelves(t) {
		if l, e := daemon.Books(s); len(l) != 0 || e != api.ErrArg {
			t.Errorf("%v, %d", l, e)
		}
	}
}

// P23.2: a shelf or a request that may not be: ErrArg, and the shelf stays.
func TestDoRefuses(t *testing.T) {
	for _, s := range wrongShelves(t) {
		for _, q := range append(rightAsks(), wrongAsks()[:3]...) {
			if x, r := daemon.Do(s, q); !same(x, s) || !sameReply(r, api.Reply{Why: api.ErrArg}) {
				t.Errorf("Do(%v) = %v", q, r)
			}
		}
	}
	s := some(t)
	for _, q := range wrongAsks() {
		if x, r := daemon.Do(s, q); !same(x, s) || !sameReply(r, api.Reply{Why: api.ErrArg}) {
			t.Errorf("Do(%v) = %v", q, r)
		}
	}
}

// plain does a request that may be by the calls that the chapter names.
func plain(s api.Shelf, q api.Ask) (api.Shelf, api.Reply) {
	tell := func(x api.Shelf, e api.Errno, r api.Reply) (api.Shelf, api.Reply) {
		switch e {
		case api.OK:
			return x, r
		case api.ErrDown:
			return api.Shelf{Log: api.Log{Power: x.Power}}, api.Reply{Why: e}
		}
		return s, api.Reply{Why: e}
	}
	switch q.Kind {
	case api.QPublish:
		filter, e, at := maker.Bytes(q.Source)
		if e != api.OK {
			return s, api.Reply{Why: e, At: at}
		}
		x, no, e := shelf.Publish(s, q.Name, q.Source, filter)
		return tell(x, e, api.Reply{No: no, Insns: len(filter) / 8})
	case api.QRollback:
		x, e := shelf.Rollback(s, q.Name, q.No)
		return tell(x, e, api.Reply{No: q.No})
	case api.QDelete:
		x, e := shelf.Delete(s, q.Name)
		return tell(x, e, api.Reply{})
	case api.QCollect:
		x, e := shelf.Collect(s)
		return tell(x, e, api.Reply{})
	case api.QSettle:
		x := s
		l, e := wal.Checkpoint(s.Log)
		x.Log = l
		return tell(x, e, api.Reply{})
	case api.QGet:
		source, _, v, e := shelf.Get(s, q.Name, q.No)
		return tell(s, e, api.Reply{No: v.No, Source: source, Insns: v.Insns})
	case api.QEval:
		_, filter, v, e := shelf.Get(s, q.Name, q.No)
		if e == api.OK && len(q.Record) != 64 {
			e = api.ErrRecord
		}
		if e != api.OK {
			return s, api.Reply{Why: e}
		}
		prog, e := insn.Read(filter)
		if e != api.OK {
			return s, api.Reply{Why: e}
		}
		a, _, e := vm.Run(prog, q.Record)
		return tell(s, e, api.Reply{No: v.No, Action: a})
	}
	r := api.Reply{}
	for _, e := range s.Entries {
		line := api.Line{Name: e.Name, Current: e.Current}
		for _, v := range e.Vers {
			line.Nos = append(line.Nos, v.No)
		}
		r.Lines = append(r.Lines, line)
	}
	return s, r
}

func asks() []api.Ask {
	get := func(kind int, name string, no int) api.Ask { return api.Ask{Kind: kind, Name: name, No: no} }
	eval := func(name string, no int, record string) api.Ask {
		return api.Ask{Kind: api.QEval, Name: name, No: no, Record: record}
	}
	l := []api.Ask{
		publishing("web", head+"log read\n"), publishing("new", head), publishing("a", ""), publishing("web", head+"allow read if"), publishing("web", head+"allow none"), publishing("none", "\n ~"), publishing("web", strings.Repeat(" ", 2000)),
		get(api.QRollback, "web", 1), get(api.QRollback, "web", 2), get(api.QRollback, "web", 0), get(api.QRollback, "web", 3), get(api.QRollback, "none", 1), get(api.QRollback, "none", 0), get(api.QRollback, "db", 1),
		get(api.QDelete, "web", 0), get(api.QDelete, "none", 0), get(api.QDelete, "db", 0), {Kind: api.QCollect}, {Kind: api.QSettle}, {Kind: api.QList},
		get(api.QGet, "web", 0), get(api.QGet, "web", 1), get(api.QGet, "web", 2), get(api.QGet, "web", 3), get(api.QGet, "web", math.MaxInt), get(api.QGet, "none", 0), get(api.QGet, "we", 9), get(api.QGet, "db", 0),
		eval("web", 0, record(16, 0, 0x5412)), eval("web", 2, record(16, 0, 0x5413)), eval("web", 1, record(1)), eval("web", 1, record(2)), eval("db", 0, strings.Repeat("\x00", 64)),
		eval("web", 9, record(1)), eval("none", 0, record(1)), eval("none", 0, "a"), eval("web", 9, "a"),
	}
	for _, n := range []int{0, 1, 63, 65, 100} {
		l = append(l, eval("web", 0, strings.Repeat("a", n)))
	}
	return l
}

// P23.2: each request, whatever power is left.
func TestDo(t *testing.T) {
	deleted, _ := daemon.Do(some(t), api.Ask{Kind: api.QDelete, Name: "web"})
	for _, s := range []api.Shelf{some(t), deleted, start(t, 64)} {
		for _, q := range asks() {
			for _, left := range []int{-1, 0, 1, 2, 3, 4, 5, 6, 7, 8, 9, 10, 11, 12, 13, 20, 40} {
				s.Left = left
				was := clone(s)
				want, answer := plain(s, q)
				x, r := daemon.Do(s, q)
				if !same(x, want) || !sameReply(r, answer) || !same(s, was) {
					t.Fatalf("Do(%v), Left %d: %v, not %v", q, left, r, answer)
				}
				if r.Why == api.ErrDown && !same(x, api.Shelf{Log: api.Log{Power: x.Power}}) {
					t.Fatalf("Do(%v), Left %d: a shelf without power is %v", q, left, x)
				}
			}
		}
	}
}

// P23.2: answers, by hand.
func TestAnswers(t *testing.T) {
	s := some(t)
	check := func(q api.Ask, want api.Reply) {
		t.Helper()
		var r api.Reply
		if s, r = daemon.Do(s, q); !sameReply(r, want) {
			t.Errorf("Do(%v) = %v, not %v", q, r, want)
		}
	}
	size := func(source string) int {
		prog, _, _ := maker.Make(source)
		return len(prog)
	}
	one, two := head+"errno 38 read write\n", head+"kill ioctl if arg1 == 0x5412\n"
	check(api.Ask{Kind: api.QList}, api.Reply{Lines: []api.Line{{Name: "db", Current: 1, Nos: []int{1}}, {Name: "web", Current: 2, Nos: []int{1, 2}}}})
	check(api.Ask{Kind: api.QGet, Name: "web"}, api.Reply{No: 2, Source: two, Insns: size(two)})
	check(api.Ask{Kind: api.QEval, Name: "web", Record: record(16, 0, 0x5412)}, api.Reply{No: 2, Action: 0x80000000})
	check(api.Ask{Kind: api.QEval, Name: "web", Record: record(16, 0, 0x5412+1<<32)}, api.Reply{No: 2, Action: 0x7fff0000})
	check(api.Ask{Kind: api.QEval, Name: "web", No: 1, Record: record(1)}, api.Reply{No: 1, Action: 0x50026})
	check(api.Ask{Kind: api.QRollback, Name: "web", No: 1}, api.Reply{No: 1})
	check(api.Ask{Kind: api.QGet, Name: "web"}, api.Reply{No: 1, Source: one, Insns: size(one)})
	check(api.Ask{Kind: api.QEval, Name: "web", Record: record(1)}, api.Reply{No: 1, Action: 0x50026})
	check(publishing("web", head), api.Reply{No: 3, Insns: size(head)})
	check(api.Ask{Kind: api.QList}, api.Reply{Lines: []api.Line{{Name: "db", Current: 1, Nos: []int{1}}, {Name: "web", Current: 3, Nos: []int{1, 2, 3}}}})
	check(api.Ask{Kind: api.QDelete, Name: "db"}, api.Reply{})
	check(api.Ask{Kind: api.QGet, Name: "db"}, api.Reply{Why: api.ErrName})
	check(api.Ask{Kind: api.QGet, Name: "web", No: 9}, api.Reply{Why: api.ErrVersion})
	check(api.Ask{Kind: api.QEval, Name: "web", Record: record(1)[1:]}, api.Reply{Why: api.ErrRecord})
	check(publishing("web", head+"allow read if\n"), api.Reply{Why: api.ErrParse, At: len(head) + 13})
	check(publishing("web", head+"kill none\n"), api.Reply{Why: api.ErrType})
	check(publishing("web", "arch ~"), api.Reply{Why: api.ErrLex, At: 5})
	check(api.Ask{Kind: api.QCollect}, api.Reply{})
	check(api.Ask{Kind: api.QSettle}, api.Reply{})
	check(api.Ask{Kind: api.QList}, api.Reply{Lines: []api.Line{{Name: "web", Current: 3, Nos: []int{1, 2, 3}}}})
}

// P23.2: QEval of filters that are none, or go wrong.
func TestFiltersThatAreNone(t *testing.T) {
	s := start(t, 120)
	for name, filter := range map[string]string{
		"bytes": "12345678", "wrong": "\x20\x00\x00\x00\x63\x00\x00\x00", "good": "\x06\x00\x00\x00\x07\x00\x00\x00",
	} {
		s, _, _ = shelf.Publish(s, name, "x", filter)
	}
	for name, want := range map[string]api.Reply{"bytes": {Why: api.ErrInsn}, "wrong": {Why: api.ErrProg}, "good": {No: 1, Action: 7}} {
		if x, r := daemon.Do(s, api.Ask{Kind: api.QEval, Name: name, Record: record(1)}); !sameReply(r, want) || !same(x, s) {
			t.Errorf("%s: %v", name, r)
		}
		if _, r := daemon.Do(s, api.Ask{Kind: api.QEval, Name: name, Record: "a"}); !sameReply(r, api.Reply{Why: api.ErrRecord}) {
			t.Errorf("%s: %v", name, r)
		}
	}
}

// P23.2: QSettle at the last epoch: ErrLong, and the shelf stays.
func TestTheLastEpoch(t *testing.T) {
	s := some(t)
	s.Epoch = 1 << 40
	if x, r := daemon.Do(s, api.Ask{Kind: api.QSettle}); !sameReply(r, api.Reply{Why: api.ErrLong}) || !same(x, s) {
		t.Error(r)
	}
}

// noted holds a request to what is remembered then, and what is answered.
func noted(t *testing.T, l []api.Book, q api.Ask, why api.Errno, want []api.Book, answer api.Reply) {
	t.Helper()
	was := cloneBooks(l)
	got, r := daemon.Note(l, q, why)
	if !sameBooks(got, want) || !sameReply(r, answer) {
		t.Errorf("Note(%v, %v, %d) = %v, %v; not %v, %v", l, q, why, got, r, want, answer)
	}
	if !sameBooks(l, was) {
		t.Errorf("%v is changed", was)
	}
}

// books are rows whose names rise, some of which no daemon would make.
func books() []api.Book {
	return []api.Book{
		{Name: "a", Current: 4, Next: 9, Pages: []api.Page{{No: 2, Source: head, Insns: 7}, {No: 4, Source: head + "kill read\n", Insns: 3}, {No: 4, Source: "again"}}},
		{Name: "b", Current: 0, Next: 1, Pages: []api.Page{{No: 0, Source: head}}},
		{Name: "c", Current: 5, Next: 6},
		{Name: "d", Current: 1, Next: -3, Pages: []api.Page{{No: 1, Source: "no source"}}},
	}
}

// P23.3: Note: what is not OK changes nothing, but what does not change anything is done all the same.
func TestNoteOfWhatFoundNoRoom(t *testing.T) {
	l := books()
	for _, why := range []api.Errno{api.ErrSpace, api.ErrFull, api.ErrMany, api.ErrBig, api.ErrDown, api.ErrName, 77, -1} {
		for _, q := range wrongAsks() {
			noted(t, l, q, why, l, api.Reply{Why: api.ErrArg})
			noted(t, l, q, api.OK, l, api.Reply{Why: api.ErrArg})
		}
		for _, q := range []api.Ask{publishing("a", head), publishing("a", "~"), {Kind: api.QRollback, Name: "a", No: 2}, {Kind: api.QRollback, Name: "z", No: 2}, {Kind: api.QDelete, Name: "a"}, {Kind: api.QDelete, Name: "z"}, {Kind: api.QCollect}, {Kind: api.QSettle}} {
			noted(t, l, q, why, l, api.Reply{Why: why})
		}
		noted(t, l, api.Ask{Kind: api.QGet, Name: "a", No: 2}, why, l, api.Reply{No: 2, Source: head, Insns: 7})
		noted(t, l, api.Ask{Kind: api.QEval, Name: "a", No: 2, Record: record(1)}, why, l, api.Reply{No: 2, Action: 0x7fff0000})
		noted(t, l, api.Ask{Kind: api.QList}, why, l, listed(l))
	}
}

func listed(l []api.Book) api.Reply {
	r := api.Reply{}
	for _, b := range l {
		line := api.Line{Name: b.Name, Current: b.Current}
		for _, p := range b.Pages {
			line.Nos = append(line.Nos, p.No)
		}
		r.Lines = append(r.Lines, line)
	}
	return r
}

// P23.3: Note of a publishing.
func TestNoteOfPublish(t *testing.T) {
	prog, _, _ := maker.Make(head)
	n := len(prog)
	for _, name := range []string{"a", "b", "c", "d", "A", "aa", "bb", "zz"} {
		l := books()
		want := books()
		at := slices.IndexFunc(want, func(b api.Book) bool { return b.Name >= name })
		if at < 0 {
			at = len(want)
		}
		if at == len(want) || want[at].Name != name {
			want = slices.Insert(want, at, api.Book{Name: name, Next: 1})
		}
		no := want[at].Next
		want[at].Pages = append(want[at].Pages, api.Page{No: no, Source: head, Insns: n})
		want[at].Current, want[at].Next = no, no+1
		noted(t, l, publishing(name, head), api.OK, want, api.Reply{No: no, Insns: n})
		for i := range l {
			l[i].Pages = slices.Grow(l[i].Pages, 3)
		}
		noted(t, slices.Grow(l, 3), publishing(name, head), api.OK, want, api.Reply{No: no, Insns: n})
	}
	noted(t, nil, publishing("web", head), api.OK, []api.Book{{Name: "web", Current: 1, Next: 2, Pages: []api.Page{{No: 1, Source: head, Insns: n}}}}, api.Reply{No: 1, Insns: n})
	for source, want := range map[string]api.Reply{"": {Why: api.ErrParse}, "  ~": {Why: api.ErrLex, At: 2}, head + "kill none": {Why: api.ErrType}, head + "allow read if": {Why: api.ErrParse, At: len(head) + 13}, head + strings.Repeat("allow read\n", 25): {Why: api.ErrLong}} {
		noted(t, books(), publishing("a", source), api.OK, books(), want)
		noted(t, books(), publishing("new", source), api.OK, books(), want)
	}
}

// P23.3: Note of all else.
func TestNote(t *testing.T) {
	l := books()
	back := func(name string, no int) api.Ask { return api.Ask{Kind: api.QRollback, Name: name, No: no} }
	get := func(name string, no int) api.Ask { return api.Ask{Kind: api.QGet, Name: name, No: no} }
	eval := func(name string, no int, record string) api.Ask {
		return api.Ask{Kind: api.QEval, Name: name, No: no, Record: record}
	}
	for _, c := range []struct {
		q api.Ask
		e api.Errno
	}{
		{back("z", 1), api.ErrName}, {back("", 1), api.ErrArg}, {back("a", 0), api.ErrVersion}, {back("a", 3), api.ErrVersion}, {back("b", 0), api.ErrVersion}, {back("c", 5), api.ErrVersion}, {back("aa", 0), api.ErrName},
		{get("z", 1), api.ErrName}, {get("a", 3), api.ErrVersion}, {get("b", 0), api.ErrVersion}, {get("c", 0), api.ErrVersion}, {get("c", 5), api.ErrVersion}, {get("a", math.MaxInt), api.ErrVersion},
		{eval("z", 1, record(1)), api.ErrName}, {eval("z", 1, ""), api.ErrName}, {eval("a", 3, ""), api.ErrVersion}, {eval("b", 0, ""), api.ErrVersion}, {eval("c", 0, record(1)), api.ErrVersion},
		{eval("a", 2, ""), api.ErrRecord}, {eval("a", 0, record(1)[1:]), api.ErrRecord}, {eval("a", 4, record(1)+"a"), api.ErrRecord}, {eval("d", 1, ""), api.ErrRecord}, {eval("d", 1, record(1)), api.ErrParse}, {eval("d", 0, record(1)), api.ErrParse},
		{api.Ask{Kind: api.QDelete, Name: "z"}, api.ErrName}, {api.Ask{Kind: api.QDelete, Name: "aa"}, api.ErrName},
	} {
		noted(t, l, c.q, api.OK, l, api.Reply{Why: c.e})
	}
	want := books()
	want[0].Current = 2
	noted(t, l, back("a", 2), api.OK, want, api.Reply{No: 2})
	noted(t, l, back("a", 4), api.OK, l, api.Reply{No: 4})
	noted(t, l, get("a", 2), api.OK, l, api.Reply{No: 2, Source: head, Insns: 7})
	noted(t, l, get("a", 0), api.OK, l, api.Reply{No: 4, Source: head + "kill read\n", Insns: 3})
	noted(t, l, get("a", 4), api.OK, l, api.Reply{No: 4, Source: head + "kill read\n", Insns: 3})
	noted(t, l, get("d", 0), api.OK, l, api.Reply{No: 1, Source: "no source"})
	noted(t, l, eval("a", 0, record(0)), api.OK, l, api.Reply{No: 4, Action: 0x80000000})
	noted(t, l, eval("a", 2, record(0)), api.OK, l, api.Reply{No: 2, Action: 0x7fff0000})
	for i, b := range l {
		noted(t, l, api.Ask{Kind: api.QDelete, Name: b.Name}, api.OK, slices.Delete(books(), i, i+1), api.Reply{})
	}
	noted(t, l, api.Ask{Kind: api.QList}, api.OK, l, listed(l))
	noted(t, nil, api.Ask{Kind: api.QList}, api.OK, nil, api.Reply{})
	noted(t, l, api.Ask{Kind: api.QCollect}, api.OK, l, api.Reply{})
	noted(t, l, api.Ask{Kind: api.QSettle}, api.OK, l, api.Reply{})
	slices.Reverse(l)
	for _, q := range rightAsks() {
		daemon.Note(l, q, api.OK) // names that do not rise: no panic
	}
}

var names = []string{"web", "db", "a", "b", "c", "d", "e", "mail", "x", "y"}

// someAsk is a random request, mostly one that may be.
func someAsk(r *rand.Rand) api.Ask {
	name := names[r.Intn(1+r.Intn(len(names)))]
	switch r.Intn(12) {
	case 0:
		return api.Ask{Kind: api.QRollback, Name: name, No: r.Intn(5)}
	case 1:
		if r.Intn(3) == 0 {
			return api.Ask{Kind: api.QDelete, Name: name}
		}
	case 2:
		return api.Ask{Kind: api.QGet, Name: name, No: r.Intn(5)}
	case 3:
		return api.Ask{Kind: api.QList}
	case 4, 5:
		return api.Ask{Kind: api.QEval, Name: name, No: r.Intn(3), Record: record(uint32(r.Intn(20)), uint64(r.Intn(3)))[r.Intn(10)/9:]}
	case 6:
		return api.Ask{Kind: api.QCollect}
	case 7:
		return api.Ask{Kind: api.QSettle}
	case 8:
		return wrongAsks()[r.Intn(len(wrongAsks()))]
	}
	return publishing(name, someSource(r))
}

func someSource(r *rand.Rand) string {
	s := head
	for range r.Intn(5) {
		s += []string{"kill", "log", "errno 13", "trap"}[r.Intn(4)] + " read ioctl write"
		if r.Intn(2) == 0 {
			s += " if arg0 < " + strconv.Itoa(r.Intn(3)) + " or arg1 & 3 == 1"
		}
		s += "\n"
	}
	switch r.Intn(12) {
	case 0:
		return s + "kill none"
	case 1:
		return s + "allow if"
	case 2:
		return s + strings.Repeat("# a remark that makes it long\n", 40)
	case 3:
		return s + "log read write open close stat fstat lseek mmap brk ioctl socket connect bind listen if " + strings.Join(slices.Repeat([]string{"arg0 & 3 < 5"}, 10+r.Intn(31)), " or ") + "\n"
	}
	return s
}

// told is why, where Note can't know it.
func told(why api.Errno) api.Errno {
	switch why {
	case api.ErrSpace, api.ErrFull, api.ErrMany, api.ErrBig:
		return why
	}
	return api.OK
}

// P23.4 and P2: what Do answers is what Note answers; Books are what Note remembers; what is refused changes nothing.
func TestTheModel(t *testing.T) {
	r := rand.New(rand.NewSource(1))
	whys := map[api.Errno]int{}
	for range 8 {
		s := start(t, []int{64, 80, 120, 256}[r.Intn(4)])
		var l []api.Book
		for range 90 {
			q := someAsk(r)
			was := l
			x, answer := daemon.Do(s, q)
			next, want := daemon.Note(l, q, told(answer.Why))
			got, e := daemon.Books(x)
			if !sameReply(answer, want) || !sameBooks(got, next) || e != api.OK {
				t.Fatalf("%v: %v, not %v; %v, not %v", q, answer, want, got, next)
			}
			if answer.Why != api.OK && (!same(x, s) || !sameBooks(next, was)) {
				t.Fatalf("%v is refused, and changes something", q)
			}
			whys[answer.Why]++
			s, l = x, next
		}
	}
	for _, why := range []api.Errno{api.OK, api.ErrArg, api.ErrSpace, api.ErrName, api.ErrVersion, api.ErrType, api.ErrParse} {
		if whys[why] == 0 {
			t.Errorf("never %d", why)
		}
	}
}

// P23.4: one name too many, and one version too many.
func TestTooMany(t *testing.T) {
	s := start(t, 256)
	var l []api.Book
	check := func(q api.Ask, want api.Errno) {
		t.Helper()
		x, answer := daemon.Do(s, q)
		next, noted := daemon.Note(l, q, told(answer.Why))
		got, _ := daemon.Books(x)
		if answer.Why != want || !sameReply(answer, noted) || !sameBooks(got, next) || want != api.OK && !same(x, s) {
			t.Errorf("%v: %v, not %d", q, answer, want)
		}
		s, l = x, next
	}
	for i := range 6 {
		check(publishing("web", head+strings.Repeat("log read\n", i)), api.OK)
	}
	check(publishing("web", head), api.ErrMany)
	check(publishing("web", "~"), api.ErrLex)
	for _, name := range names[1:8] {
		check(publishing(name, head), api.OK)
	}
	check(publishing("new", head), api.ErrMany)
	check(publishing("new", head+"kill none\n"), api.ErrType)
	check(publishing("db", head), api.OK)
	check(api.Ask{Kind: api.QDelete, Name: "web"}, api.OK)
	check(publishing("new", head), api.OK)
}

// P23.5 and P3: wherever the power goes, an opened shelf remembers what it did ahead of the request, or what it does behind it.
func TestCrashes(t *testing.T) {
	r := rand.New(rand.NewSource(2))
	for range 4 {
		s := start(t, 90)
		for range 12 {
			q := someAsk(r)
			done, answer := daemon.Do(s, q)
			if answer.Why != api.OK {
				continue
			}
			ahead, _ := daemon.Books(s)
			behind, _ := daemon.Books(done)
			for left := range 50 {
				s.Left = left
				down, answer := daemon.Do(s, q)
				if answer.Why != api.OK && !sameReply(answer, api.Reply{Why: api.ErrDown}) {
					t.Fatalf("%v with %d calls: %v", q, left, answer)
				}
				for i := range 4 {
					keep := make([]bool, len(down.Pending))
					for j := range keep {
						keep[j] = i == 1 || i > 1 && r.Intn(2) == 0
					}
					d, _ := disk.Crash(down.Disk, keep...)
					opened, e := shelf.Open(api.Power{Disk: d, Left: -1})
					got, f := daemon.Books(opened)
					if e != api.OK || f != api.OK || !sameBooks(got, behind) && (answer.Why == api.OK || !sameBooks(got, ahead)) {
						t.Fatalf("%v with %d calls: %d, %v, not %v or %v", q, left, e, got, ahead, behind)
					}
				}
				if answer.Why == api.OK {
					break
				}
			}
			s = done
		}
	}
}

// P23.6 and P6: QCollect and QSettle change no answer, but that a QRollback that found no room may find it.
func TestCollectAndSettleChangeNoAnswer(t *testing.T) {
	r := rand.New(rand.NewSource(3))
	for range 40 {
		s := start(t, 64+r.Intn(100))
		for range 12 {
			s, _ = daemon.Do(s, someAsk(r))
		}
		for _, kind := range []int{api.QCollect, api.QSettle} {
			x, answer := daemon.Do(s, api.Ask{Kind: kind})
			if answer.Why != api.OK {
				t.Fatal(answer)
			}
			for _, q := range append(asks(), someAsk(r), someAsk(r)) {
				if q.Kind != api.QGet && q.Kind != api.QList && q.Kind != api.QEval && q.Kind != api.QRollback {
					continue
				}
				_, a := daemon.Do(s, q)
				_, b := daemon.Do(x, q)
				if !sameReply(a, b) && !(q.Kind == api.QRollback && a.Why == api.ErrSpace && b.Why == api.OK) {
					t.Fatalf("%v: %v, and behind kind %d %v", q, a, kind, b)
				}
			}
		}
	}
}

// P5: each version has its source as it was published, and a filter that answers any record as the source means.
func TestWhatIsStored(t *testing.T) {
	r := rand.New(rand.NewSource(4))
	s := start(t, 256)
	for range 60 {
		s, _ = daemon.Do(s, someAsk(r))
		if r.Intn(4) == 0 {
			d, _ := disk.Crash(s.Disk)
			s, _ = shelf.Open(api.Power{Disk: d, Left: -1})
		}
	}
	l, _ := daemon.Books(s)
	seen := 0
	for _, b := range l {
		for _, p := range b.Pages {
			for range 10 {
				rec := record(uint32(r.Intn(20)), uint64(r.Intn(4)), uint64(r.Intn(4)))
				want, e := maker.Mean(p.Source, rec)
				_, answer := daemon.Do(s, api.Ask{Kind: api.QEval, Name: b.Name, No: p.No, Record: rec})
				if e != api.OK || !sameReply(answer, api.Reply{No: p.No, Action: want}) {
					t.Fatalf("%q %d: %v, not %x", b.Name, p.No, answer, want)
				}
				seen++
			}
		}
	}
	if seen < 50 {
		t.Error(seen)
	}
}

// The chapter's examples.
func TestExamples(t *testing.T) {
	s, r := daemon.Do(start(t, 64), publishing("web", head))
	if r.Why != api.OK || r.No != 1 {
		t.Error(r)
	}
	if _, r := daemon.Do(s, api.Ask{Kind: api.QEval, Name: "web", Record: record(3)}); !sameReply(r, api.Reply{No: 1, Action: 0x7fff0000}) {
		t.Error(r)
	}
	if _, r := daemon.Do(s, api.Ask{Kind: api.QGet, Name: "db"}); !sameReply(r, api.Reply{Why: api.ErrName}) {
		t.Error(r)
	}
}
