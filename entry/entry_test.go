package entry_test

import (
	"math"
	"math/rand"
	"slices"
	"sort"
	"strings"
	"testing"

	"doorward/api"
	"doorward/entry"
)

func same(a, b []api.Entry) bool {
	return slices.EqualFunc(a, b, func(x, y api.Entry) bool {
		return x.Name == y.Name && x.Current == y.Current && x.Next == y.Next && slices.Equal(x.Vers, y.Vers)
	})
}

func clone(l []api.Entry) []api.Entry {
	l = slices.Clone(l)
	for i := range l {
		l[i].Vers = slices.Clone(l[i].Vers)
	}
	return l
}

func two(l ...int) string {
	s := ""
	for _, n := range l {
		s += string([]byte{byte(n), byte(n >> 8)})
	}
	return s
}

func one(n int) string { return string([]byte{byte(n)}) }

// bytes are a list's, whether it may be or not.
func bytes(l []api.Entry) string {
	s := one(len(l))
	for _, e := range l {
		s += two(len(e.Name)) + e.Name + two(e.Current, e.Next) + one(len(e.Vers))
		for _, v := range e.Vers {
			s += two(v.No, v.Source, v.Filter, v.Bytes, v.Insns)
		}
	}
	return s
}

func version(no int) api.Ver { return api.Ver{No: no, Source: 54, Filter: 60, Bytes: 10, Insns: 3} }

// named is an entry of one version.
func named(name string) api.Entry {
	return api.Entry{Name: name, Current: 1, Next: 2, Vers: []api.Ver{version(1)}}
}

func names(l ...string) []api.Entry {
	var all []api.Entry
	for _, name := range l {
		all = append(all, named(name))
	}
	return all
}

// numbered is an entry of versions with these numbers.
func numbered(current, next int, nos ...int) []api.Entry {
	e := api.Entry{Name: "web", Current: current, Next: next}
	for _, no := range nos {
		e.Vers = append(e.Vers, version(no))
	}
	return []api.Entry{e}
}

// with is a list of one entry, of a version that is changed.
func with(change func(v *api.Ver)) []api.Entry {
	l := names("web")
	change(&l[0].Vers[0])
	return l
}

func right() [][]api.Entry {
	return [][]api.Entry{
		nil, {}, names("a"), names("123456789012"), names("a", "b"), names("a", "aa", "b"), names("A", "a"), names("\x00", "\x00\x00", "\x7f", "\xff"),
		names("1", "2", "3", "4", "5", "6", "7", "8"), names("b", "b\x00"),
		numbered(1, 7, 1, 2, 3, 4, 5, 6), numbered(6, 7, 1, 2, 3, 4, 5, 6), numbered(5, 100, 2, 5, 9), numbered(65534, 65535, 65534), numbered(1, 65535, 1, 65534), numbered(1, 65535, 1),
		with(func(v *api.Ver) { v.Source, v.Filter = 255, 54 }), with(func(v *api.Ver) { v.Bytes = 0 }), with(func(v *api.Ver) { v.Bytes = 2000 }),
		with(func(v *api.Ver) { v.Insns = 1 }), with(func(v *api.Ver) { v.Insns = 4096 }), with(func(v *api.Ver) { v.Source, v.Filter = 54, 255 }),
	}
}

func wrong() [][]api.Entry {
	l := [][]api.Entry{
		names(""), names("1234567890123"), names("b", "a"), names("a", "a"), names("a", "b", "b"), names("a", "c", "b"), names("", "a"), names("aa", "a"), names("\xff", "a"),
		names("1", "2", "3", "4", "5", "6", "7", "8", "9"), {{}}, {{Name: "web"}},
		numbered(1, 2), numbered(1, 8, 1, 2, 3, 4, 5, 6, 7), numbered(1, 3, 2, 1), numbered(1, 3, 1, 1), numbered(3, 5, 1, 2, 4), numbered(0, 5, 1, 2), numbered(2, 5, 1),
		numbered(1, 1, 1), numbered(1, 2, 1, 2), numbered(2, 1, 1, 2), numbered(1, 65536, 1), numbered(1, math.MaxInt, 1), numbered(1, 0, 1), numbered(1, math.MinInt, 1), numbered(0, 1, 0), numbered(65535, 65536, 65535),
		numbered(65535, 65535, 65535), numbered(-1, 1, -1), numbered(1, 5, 1, 4, 3),
		append(names("a"), numbered(1, 1, 1)...),
	}
	for _, n := range []int{0, -1, 65535, math.MinInt, math.MaxInt} {
		l = append(l, with(func(v *api.Ver) { v.No = n }))
	}
	for _, n := range []int{53, 0, -1, 256, 60, math.MinInt, math.MaxInt} {
		l = append(l, with(func(v *api.Ver) { v.Source = n }))
	}
	for _, n := range []int{53, 0, -1, 256, 54, math.MinInt, math.MaxInt} {
		l = append(l, with(func(v *api.Ver) { v.Filter = n }))
	}
	for _, n := range []int{-1, 2001, math.MinInt, math.MaxInt} {
		l = append(l, with(func(v *api.Ver) { v.Bytes = n }))
	}
	for _, n := range []int{0, -1, 4097, math.MinInt, math.MaxInt} {
		l = append(l, with(func(v *api.Ver) { v.Insns = n }))
	}
	return l
}

// P8.1: Right.
func TestRight(t *testing.T) {
	for _, l := range right() {
		if !entry.Right(l) {
			t.Errorf("%v may be", l)
		}
	}
	for _, l := range wrong() {
		if entry.Right(l) {
			t.Errorf("%v may not be", l)
		}
	}
}

// P8.1, P8.3: Pack, and Unpack of it.
func TestPackAndUnpack(t *testing.T) {
	for _, l := range right() {
		was := clone(l)
		s, e := entry.Pack(l)
		if s != bytes(l) || e != api.OK || !same(l, was) {
			t.Errorf("Pack(%v) = %q, %d", l, s, e)
		}
		if got, e := entry.Unpack(s); !same(got, l) || e != api.OK {
			t.Errorf("Unpack(%q) = %v, %d", s, got, e)
		}
	}
	for _, l := range wrong() {
		if s, e := entry.Pack(l); s != "" || e != api.ErrArg {
			t.Errorf("Pack(%v) = %q, %d", l, s, e)
		}
	}
}

// fits tells whether all numbers of a list can be told by its bytes.
func fits(l []api.Entry) bool {
	all := []int{}
	for _, e := range l {
		all = append(all, e.Current, e.Next)
		for _, v := range e.Vers {
			all = append(all, v.No, v.Source, v.Filter, v.Bytes, v.Insns)
		}
	}
	return !slices.ContainsFunc(all, func(n int) bool { return n < 0 || n > 65535 })
}

func refused(t *testing.T, s string) {
	t.Helper()
	if l, e := entry.Unpack(s); len(l) != 0 || e != api.ErrForm {
		t.Errorf("Unpack(%q) = %v, %d", s, l, e)
	}
}

// P8.1: Unpack of bytes that are none.
func TestUnpackRefuses(t *testing.T) {
	for _, s := range []string{"", "\x01", "\x09", "\xff", "\x00\x00", "\x00a", "\x01\x01\x00a", "\x01\xff\xffa", strings.Repeat("\xff", 1000), strings.Repeat("\x00", 640), strings.Repeat("\x01", 640)} {
		refused(t, s)
	}
	for _, l := range wrong() {
		if fits(l) {
			refused(t, bytes(l))
		}
	}
	for _, l := range right() {
		s := bytes(l)
		refused(t, s+"\x00")
		refused(t, s+"x")
		for i := range s {
			refused(t, s[:i])
		}
	}
	s := bytes(names("a", "b"))
	refused(t, "\x01"+s[1:])
	refused(t, "\x03"+s[1:])
	refused(t, "\x00"+s[1:])
}

// P8.2: Find, of a list whose names rise.
func TestFind(t *testing.T) {
	l := names("b", "bb", "d", "f")
	for _, c := range []struct {
		name string
		at   int
		ok   bool
	}{
		{"", 0, false}, {"a", 0, false}, {"b", 0, true}, {"b\x00", 1, false}, {"ba", 1, false}, {"bb", 1, true}, {"bbb", 2, false}, {"c", 2, false},
		{"d", 2, true}, {"e", 3, false}, {"f", 3, true}, {"ff", 4, false}, {"\xff", 4, false}, {strings.Repeat("z", 100), 4, false}, {"B", 0, false},
	} {
		if at, ok := entry.Find(l, c.name); at != c.at || ok != c.ok {
			t.Errorf("Find(%q) = %d, %v", c.name, at, ok)
		}
	}
	if at, ok := entry.Find(nil, "a"); at != 0 || ok {
		t.Error(at, ok)
	}
	r := rand.New(rand.NewSource(1))
	for range 500 {
		all := map[string]bool{}
		for range r.Intn(30) {
			all[strings.Repeat(string(rune('a'+r.Intn(26))), 1+r.Intn(3))] = true
		}
		var sorted []string
		for name := range all {
			sorted = append(sorted, name)
		}
		sort.Strings(sorted)
		name := strings.Repeat(string(rune('a'+r.Intn(26))), 1+r.Intn(3))
		if at, ok := entry.Find(names(sorted...), name); at != sort.SearchStrings(sorted, name) || ok != all[name] {
			t.Fatalf("Find(%q) in %q: %d, %v", name, sorted, at, ok)
		}
	}
	entry.Find(names("c", "a", "b", "", "a"), "a") // any place, but no panic
}

// P8.2: Version, of any entry.
func TestVersion(t *testing.T) {
	e := numbered(5, 100, 2, 5, 9)[0]
	odd := api.Entry{Current: 4, Vers: []api.Ver{{No: 7}, {No: 4, Source: 1}, {No: 4}, {No: 0}, {No: -3}}}
	for _, c := range []struct {
		e  api.Entry
		no int
		at int
		ok bool
	}{
		{e, 0, 1, true}, {e, 2, 0, true}, {e, 5, 1, true}, {e, 9, 2, true}, {e, 1, 0, false}, {e, 3, 0, false}, {e, 10, 0, false}, {e, 100, 0, false}, {e, -1, 0, false},
		{e, math.MinInt, 0, false}, {e, math.MaxInt, 0, false},
		{odd, 0, 1, true}, {odd, 4, 1, true}, {odd, 7, 0, true}, {odd, -3, 4, true}, {odd, 9, 0, false},
		{api.Entry{}, 0, 0, false}, {api.Entry{Current: 3}, 0, 0, false}, {api.Entry{Current: 3}, 3, 0, false},
		{api.Entry{Current: 3, Vers: []api.Ver{{No: 0}}}, 0, 0, false}, {api.Entry{Vers: []api.Ver{{No: 1}, {No: 0}}}, 0, 1, true},
	} {
		if at, ok := entry.Version(c.e, c.no); at != c.at || ok != c.ok {
			t.Errorf("Version(%v, %d) = %d, %v", c.e, c.no, at, ok)
		}
	}
}

// some is a random list that may be.
func some(r *rand.Rand) []api.Entry {
	all := map[string]bool{}
	for range r.Intn(9) {
		b := make([]byte, 1+r.Intn(12))
		r.Read(b)
		all[string(b)] = true
	}
	var l []api.Entry
	for name := range all {
		e := api.Entry{Name: name}
		no := 0
		for range 1 + r.Intn(6) {
			no += 1 + r.Intn(2000)
			e.Vers = append(e.Vers, api.Ver{No: no, Source: 54 + r.Intn(100), Filter: 154 + r.Intn(102), Bytes: r.Intn(2001), Insns: 1 + r.Intn(4096)})
		}
		e.Current, e.Next = e.Vers[r.Intn(len(e.Vers))].No, no+1+r.Intn(100)
		l = append(l, e)
	}
	sort.Slice(l, func(i, j int) bool { return l[i].Name < l[j].Name })
	return l
}

// P8.3: what is packed is unpacked again, and has at most 640 bytes; what is unpacked, packed, is the bytes.
func TestBackAndForth(t *testing.T) {
	r := rand.New(rand.NewSource(2))
	longest := 0
	for range 2000 {
		l := some(r)
		s, e := entry.Pack(l)
		longest = max(longest, len(s))
		if got, f := entry.Unpack(s); !same(got, l) || e != api.OK || f != api.OK || len(s) > 640 {
			t.Fatalf("%v: %q, %d, %v, %d", l, s, e, got, f)
		}
		b := []byte(s)
		b[r.Intn(len(b))] ^= 1 << r.Intn(8)
		if got, e := entry.Unpack(string(b)); e == api.OK {
			if again, f := entry.Pack(got); again != string(b) || f != api.OK {
				t.Fatalf("%q: %v, %q", b, got, again)
			}
		} else if e != api.ErrForm || len(got) != 0 {
			t.Fatalf("%q: %v, %d", b, got, e)
		}
	}
	if longest < 400 {
		t.Error("no long list")
	}
}

// P1: whatever the bytes are, nothing panics.
func TestNothingPanics(t *testing.T) {
	r := rand.New(rand.NewSource(3))
	for range 20000 {
		b := make([]byte, r.Intn(60))
		for i := range b {
			b[i] = byte(r.Intn(256) * r.Intn(2) / (1 + r.Intn(40)))
		}
		if l, e := entry.Unpack(string(b)); e == api.OK && bytes(l) != string(b) || e != api.OK && (e != api.ErrForm || len(l) != 0) {
			t.Fatalf("%q: %v, %d", b, l, e)
		}
	}
}

// The chapter's example.
func TestExample(t *testing.T) {
	if s, e := entry.Pack(nil); s != "\x00" || e != api.OK {
		t.Error(s, e)
	}
}
