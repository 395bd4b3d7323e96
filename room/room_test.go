package room_test

import (
	"math"
	"math/rand"
	"slices"
	"strings"
	"testing"

	"doorward/api"
	"doorward/room"
)

// row is one of n places, the first 54 used, and these.
func row(n int, more ...int) []bool {
	r := make([]bool, n)
	for i := range r {
		r[i] = i < 54 || slices.Contains(more, i)
	}
	return r
}

// without is a row with one place not used.
func without(r []bool, at int) []bool {
	r = slices.Clone(r)
	r[at] = false
	return r
}

func all(n int) []bool { return slices.Repeat([]bool{true}, n) }

func wrong() [][]bool {
	return [][]bool{nil, {}, {true}, row(63), row(257), all(63), all(257), make([]bool, 64), without(row(64), 53), without(row(64), 0), without(all(256), 30), all(1000)}
}

func right() [][]bool {
	return [][]bool{row(64), row(256), all(64), all(256), row(100, 60, 62, 99), without(all(64), 63), without(all(64), 54)}
}

// P6.1: New.
func TestNew(t *testing.T) {
	for _, n := range []int{64, 65, 100, 255, 256} {
		if got, e := room.New(n); e != api.OK || !slices.Equal(got, row(n)) {
			t.Errorf("New(%d) = %v, %d", n, got, e)
		}
	}
	for _, n := range []int{63, 257, 54, 0, -1, math.MinInt, math.MaxInt} {
		if got, e := room.New(n); e != api.ErrArg || len(got) != 0 {
			t.Errorf("New(%d) = %v, %d", n, got, e)
		}
	}
}

// P6.1: Right.
func TestRight(t *testing.T) {
	for i, r := range right() {
		if !room.Right(r) {
			t.Errorf("row %d may be", i)
		}
	}
	for i, r := range wrong() {
		if room.Right(r) {
			t.Errorf("row %d may not be", i)
		}
	}
}

// P6.1: Free, of any row.
func TestFree(t *testing.T) {
	for _, c := range []struct {
		r    []bool
		want int
	}{{nil, 0}, {[]bool{false}, 1}, {[]bool{true, false, false}, 2}, {make([]bool, 64), 64}, {row(64), 10}, {row(256), 202}, {row(64, 54, 63), 8}, {all(256), 0}, {make([]bool, 1000), 1000}} {
		if n := room.Free(c.r); n != c.want {
			t.Errorf("Free of %d: %d", len(c.r), n)
		}
	}
}

// P6.2: Take.
func TestTake(t *testing.T) {
	for _, c := range []struct {
		r     []bool
		many  int
		taken []int
	}{
		{row(64), 0, nil}, {row(64), 2, []int{54, 55}}, {row(64), 10, []int{54, 55, 56, 57, 58, 59, 60, 61, 62, 63}},
		{row(64, 54, 56, 57), 3, []int{55, 58, 59}}, {all(64), 0, nil}, {without(all(256), 255), 1, []int{255}},
		{without(without(all(200), 60), 199), 1, []int{60}}, {without(without(all(200), 60), 199), 2, []int{60, 199}},
	} {
		was := slices.Clone(c.r)
		want := slices.Clone(c.r)
		for _, i := range c.taken {
			want[i] = true
		}
		if got, taken, e := room.Take(c.r, c.many); e != api.OK || !slices.Equal(taken, c.taken) || !slices.Equal(got, want) || !slices.Equal(c.r, was) {
			t.Errorf("Take(%d) = %v, %v, %d", c.many, got, taken, e)
		}
	}
}

// P6.2: Take's errors, in their order.
func TestTakeRefuses(t *testing.T) {
	check := func(r []bool, many int, want api.Errno) {
		t.Helper()
		if got, taken, e := room.Take(r, many); e != want || len(got) != 0 || len(taken) != 0 {
			t.Errorf("Take(%d) of %d = %v, %v, %d", many, len(r), got, taken, e)
		}
	}
	for _, r := range wrong() {
		for _, many := range []int{0, 1, -1, 500} {
			check(r, many, api.ErrArg)
		}
	}
	check(row(64), -1, api.ErrArg)
	check(all(64), -1, api.ErrArg)
	check(row(64), math.MinInt, api.ErrArg)
	check(row(64), 11, api.ErrSpace)
	check(row(64, 60), 10, api.ErrSpace)
	check(all(256), 1, api.ErrSpace)
	check(row(256), 203, api.ErrSpace)
	check(row(256), math.MaxInt, api.ErrSpace)
}

// P6.2: Give.
func TestGive(t *testing.T) {
	for _, c := range []struct {
		r     []bool
		given []int
		want  []bool
	}{
		{row(64), nil, row(64)}, {row(64, 54), []int{54}, row(64)}, {row(64, 54, 63, 60), []int{63, 54}, row(64, 60)},
		{all(256), []int{255}, without(all(256), 255)}, {all(64), []int{60, 59, 61}, without(without(without(all(64), 60), 59), 61)},
	} {
		was := slices.Clone(c.r)
		if got, e := room.Give(c.r, c.given...); e != api.OK || !slices.Equal(got, c.want) || !slices.Equal(c.r, was) {
			t.Errorf("Give(%v) = %v, %d", c.given, got, e)
		}
	}
}

// P6.2: Give's errors.
func TestGiveRefuses(t *testing.T) {
	check := func(r []bool, given ...int) {
		t.Helper()
		was, sectors := slices.Clone(r), slices.Clone(given)
		if got, e := room.Give(r, given...); e != api.ErrArg || len(got) != 0 || !slices.Equal(r, was) || !slices.Equal(given, sectors) {
			t.Errorf("Give(%v) of %d = %v, %d", given, len(r), got, e)
		}
	}
	for _, r := range wrong() {
		check(r)
		check(r, 54)
	}
	for _, i := range []int{53, 0, -1, 64, 100, math.MinInt, math.MaxInt} {
		check(all(64), i)
		check(all(64), 60, i)
	}
	check(row(64, 60), 61)
	check(row(64, 60), 60, 61)
	check(row(64, 60), 60, 60)
	check(row(64, 60, 61), 60, 61, 60)
	check(all(256), 256)
}

// P6.3: Pack, of any row.
func TestPack(t *testing.T) {
	for _, c := range []struct {
		r    []bool
		want string
	}{
		{nil, ""}, {[]bool{true, false, true}, "\x05"}, {[]bool{false}, "\x00"}, {[]bool{true}, "\x01"},
		{[]bool{false, false, false, false, false, false, false, true}, "\x80"},
		{[]bool{false, false, false, false, false, false, false, false, true}, "\x00\x01"},
		{all(8), "\xff"}, {all(9), "\xff\x01"}, {make([]bool, 17), "\x00\x00\x00"},
		{row(64), "\xff\xff\xff\xff\xff\xff\x3f\x00"}, {row(64, 63, 54), "\xff\xff\xff\xff\xff\xff\x7f\x80"},
		{all(256), strings.Repeat("\xff", 32)}, {all(1000), strings.Repeat("\xff", 125)},
	} {
		if s := room.Pack(c.r); s != c.want {
			t.Errorf("Pack of %v: %q", c.r, s)
		}
	}
}

// P6.3: Unpack, of any number of places.
func TestUnpack(t *testing.T) {
	for _, c := range []struct {
		s    string
		n    int
		want []bool
	}{
		{"", 0, nil}, {"\x05", 3, []bool{true, false, true}}, {"\x05", 4, []bool{true, false, true, false}}, {"\x00", 1, []bool{false}},
		{"\x80", 8, []bool{false, false, false, false, false, false, false, true}}, {"\xff\x01", 9, all(9)},
		{"\xff\xff\xff\xff\xff\xff\x3f\x00", 64, row(64)}, {strings.Repeat("\xff", 125), 1000, all(1000)},
	} {
		if got, e := room.Unpack(c.s, c.n); e != api.OK || !slices.Equal(got, c.want) {
			t.Errorf("Unpack(%q, %d) = %v, %d", c.s, c.n, got, e)
		}
	}
	for _, c := range []struct {
		s string
		n int
	}{
		{"", -1}, {"\x00", -1}, {"\x00", -7}, {"", math.MinInt}, {"", 1}, {"\x00", 0}, {"\x00", 9}, {"\x00\x00", 8}, {"\x00", math.MaxInt}, {"", math.MaxInt}, {"", 1 << 45},
		{"\x05", 2}, {"\x08", 3}, {"\x80", 7}, {"\xff\x02", 9}, {"\xff\x80", 15}, {"\xff\xff\xff\xff\xff\xff\x3f", 64}, {"\xff\xff\xff\xff\xff\xff\x3f\x00\x00", 64},
	} {
		if got, e := room.Unpack(c.s, c.n); e != api.ErrForm || len(got) != 0 {
			t.Errorf("Unpack(%q, %d) = %v, %d", c.s, c.n, got, e)
		}
	}
}

// some is a random row that may be.
func some(r *rand.Rand) []bool {
	l := row(64 + r.Intn(193))
	for i := 54; i < len(l); i++ {
		l[i] = r.Intn(3) == 0
	}
	return l
}

// P6.4: what is taken is free, and used then; given back, in whatever order, the row is as it was.
func TestTakenIsGivenBack(t *testing.T) {
	r := rand.New(rand.NewSource(1))
	for range 1000 {
		used := some(r)
		many := r.Intn(room.Free(used) + 1)
		next, taken, e := room.Take(used, many)
		if e != api.OK || len(taken) != many || room.Free(next) != room.Free(used)-many || !room.Right(next) {
			t.Fatalf("Take(%d) = %v, %d", many, taken, e)
		}
		for j, i := range taken {
			if used[i] || !next[i] || j > 0 && taken[j-1] >= i {
				t.Fatalf("taken: %v", taken)
			}
		}
		shuffled := slices.Clone(taken)
		r.Shuffle(len(shuffled), func(i, j int) { shuffled[i], shuffled[j] = shuffled[j], shuffled[i] })
		if again, e := room.Give(next, shuffled...); e != api.OK || !slices.Equal(again, used) {
			t.Fatalf("given back: %v, %d, not %v", again, e, used)
		}
	}
}

// P6.4: what is packed is unpacked again.
func TestPackedIsUnpacked(t *testing.T) {
	r := rand.New(rand.NewSource(2))
	for range 1000 {
		l := make([]bool, r.Intn(300))
		for i := range l {
			l[i] = r.Intn(2) == 0
		}
		if got, e := room.Unpack(room.Pack(l), len(l)); e != api.OK || !slices.Equal(got, l) {
			t.Fatalf("%v: %v, %d", l, got, e)
		}
		if used := some(r); !slices.Equal(must(room.Unpack(room.Pack(used), len(used))), used) {
			t.Fatalf("%v", used)
		}
	}
}

func must(l []bool, e api.Errno) []bool {
	if e != api.OK {
		return nil
	}
	return l
}
