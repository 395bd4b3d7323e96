package blob_test

import (
	"math"
	"math/rand"
	"slices"
	"strings"
	"testing"

	"doorward/api"
	"doorward/blob"
	"doorward/room"
	"doorward/wal"
)

// text is data of n bytes, no two parts of which are alike, and without zero bytes.
func text(n int) string {
	b := make([]byte, n)
	for i := range b {
		b[i] = byte(1 + (i+i/500)%251)
	}
	return string(b)
}

func row(n int) []bool {
	r := make([]bool, n)
	for i := range r {
		r[i] = i < 54
	}
	return r
}

func two(n int) string { return string([]byte{byte(n), byte(n >> 8)}) }

// sector is a part's, as it is written.
func sector(next int, part string) string {
	return strings.TrimRight(two(next)+two(len(part))+part, "\x00")
}

// log is one with these home sectors.
func log(t *testing.T, n int, sectors map[int]string) api.Log {
	t.Helper()
	l, e := wal.New(n)
	for at, s := range sectors {
		if e == api.OK {
			l, e = wal.Commit(l, api.Write{Sector: at, Bytes: s})
		}
	}
	if e != api.OK {
		t.Fatal(e)
	}
	return l
}

// P7.1: Need.
func TestNeed(t *testing.T) {
	for _, c := range [][2]int{{0, 1}, {1, 1}, {499, 1}, {500, 1}, {501, 2}, {999, 2}, {1000, 2}, {1001, 3}, {2000, 4}, {20000, 40}, {20001, 41},
		{-1, 1}, {-500, 1}, {-501, 1}, {math.MinInt, 1}, {math.MaxInt, math.MaxInt/500 + 1}} {
		if n := blob.Need(c[0]); n != c[1] {
			t.Errorf("Need(%d) = %d", c[0], n)
		}
	}
}

// P7.1: Lay takes the least free sectors, and writes each part to its own.
func TestLay(t *testing.T) {
	used := row(256)
	for _, i := range []int{54, 56, 57, 60} {
		used[i] = true
	}
	was := slices.Clone(used)
	for _, n := range []int{0, 1, 499, 500, 501, 1000, 1001, 1499, 1500, 20000, 19999} {
		data := text(n)
		many := max((n+499)/500, 1)
		want, taken, _ := room.Take(used, many)
		got, first, writes, e := blob.Lay(used, data)
		if e != api.OK || !slices.Equal(got, want) || first != 55 || len(writes) != many {
			t.Fatalf("Lay of %d: %v, %d, %d writes, %d", n, got, first, len(writes), e)
		}
		for i, w := range writes {
			next := 0
			if i+1 < many {
				next = taken[i+1]
			}
			if w.Sector != taken[i] || w.Bytes != sector(next, data[500*i:min(500*i+500, n)]) {
				t.Errorf("Lay of %d, part %d: %d, %q", n, i, w.Sector, w.Bytes)
			}
		}
		if !slices.Equal(used, was) {
			t.Fatal("the row is changed")
		}
	}
	zeros := "a" + strings.Repeat("\x00", 600)
	_, _, writes, e := blob.Lay(row(64), zeros)
	if want := []api.Write{{Sector: 54, Bytes: "\x37\x00\xf4\x01a"}, {Sector: 55, Bytes: "\x00\x00\x65"}}; e != api.OK || !slices.Equal(writes, want) {
		t.Errorf("Lay of zeros: %v, %d", writes, e)
	}
}

// P7.1: Lay's errors, ErrFull ahead of room.Take's.
func TestLayRefuses(t *testing.T) {
	full := slices.Repeat([]bool{true}, 64)
	odd := row(64)
	odd[10] = false
	for _, c := range []struct {
		used []bool
		n    int
		e    api.Errno
	}{
		{row(256), 20001, api.ErrFull}, {row(64), 30000, api.ErrFull}, {full, 20001, api.ErrFull}, {nil, 20001, api.ErrFull},
		{nil, 1, api.ErrArg}, {odd, 1, api.ErrArg}, {row(63), 1, api.ErrArg}, {row(257), 20000, api.ErrArg}, {[]bool{}, 0, api.ErrArg},
		{row(64), 5001, api.ErrSpace}, {full, 0, api.ErrSpace}, {full, 1, api.ErrSpace}, {row(93), 20000, api.ErrSpace},
	} {
		if got, first, writes, e := blob.Lay(c.used, text(c.n)); e != c.e || len(got) != 0 || first != 0 || len(writes) != 0 {
			t.Errorf("Lay of %d: %v, %d, %v, %d", c.n, got, first, writes, e)
		}
	}
	if _, _, writes, e := blob.Lay(row(64), text(5000)); e != api.OK || len(writes) != 10 {
		t.Errorf("Lay of as much as there is: %d, %d", len(writes), e)
	}
	if _, _, writes, e := blob.Lay(row(94), text(20000)); e != api.OK || len(writes) != 40 {
		t.Errorf("Lay of as much as may be: %d, %d", len(writes), e)
	}
}

// P7.2: Load.
func TestLoad(t *testing.T) {
	a, b, c := text(500), strings.Repeat("b", 500), "c"
	l := log(t, 64, map[int]string{
		54: sector(60, a), 60: sector(57, b), 57: sector(0, c), 58: sector(0, ""), 59: sector(0, b), 61: sector(62, strings.Repeat("\x00", 500)), 62: sector(0, "\x00"), 63: sector(54, a),
	})
	for _, x := range []struct {
		at      int
		data    string
		sectors []int
	}{
		{54, a + b + c, []int{54, 60, 57}}, {60, b + c, []int{60, 57}}, {57, c, []int{57}}, {58, "", []int{58}}, {59, b, []int{59}}, {55, "", []int{55}},
		{61, strings.Repeat("\x00", 501), []int{61, 62}}, {63, a + a + b + c, []int{63, 54, 60, 57}},
	} {
		if data, sectors, e := blob.Load(l, x.at); e != api.OK || data != x.data || !slices.Equal(sectors, x.sectors) {
			t.Errorf("Load(%d) = %d bytes, %v, %d", x.at, len(data), sectors, e)
		}
	}
}

// P7.2: Load's errors.
func TestLoadRefuses(t *testing.T) {
	full := text(500)
	check := func(what string, sectors map[int]string) {
		t.Helper()
		if data, at, e := blob.Load(log(t, 64, sectors), 54); e != api.ErrCorrupt || data != "" || len(at) != 0 {
			t.Errorf("%s: %d bytes, %v, %d", what, len(data), at, e)
		}
	}
	check("itself again", map[int]string{54: sector(54, full)})
	check("a ring", map[int]string{54: sector(55, full), 55: sector(56, full), 56: sector(55, full)})
	check("a sector that there is not", map[int]string{54: sector(64, full)})
	check("a sector that there never is", map[int]string{54: sector(65535, full)})
	check("the root", map[int]string{54: sector(53, full), 53: sector(0, "a")})
	check("the log's", map[int]string{54: sector(13, full)})
	check("499 bytes, another one follows", map[int]string{54: sector(55, full[1:]), 55: sector(0, "a")})
	check("none, another one follows", map[int]string{54: sector(55, ""), 55: sector(0, "a")})
	check("none, following another one", map[int]string{54: sector(55, full), 55: sector(0, "")})
	check("499 bytes in the midst", map[int]string{54: sector(55, full), 55: sector(56, full[1:]), 56: sector(0, "a")})
	check("501 bytes", map[int]string{54: sector(0, full+"a")})
	check("501 bytes, another one follows", map[int]string{54: sector(55, full+"a"), 55: sector(0, "a")})
	check("508 bytes", map[int]string{54: sector(0, full+"12345678")})
	check("a size beyond the sector", map[int]string{54: "\x00\x00\xff\xff" + full})
	check("more than its size", map[int]string{54: "\x00\x00\x03\x00abcd"})
	check("more than its size of none", map[int]string{54: "\x00\x00\x00\x00abcd"})
	check("a broken second one", map[int]string{54: sector(55, full), 55: "\x00\x00\x01\x00ab"})

	l := log(t, 64, nil)
	for _, at := range []int{53, 13, 0, -1, 64, 255, math.MinInt, math.MaxInt} {
		if data, sectors, e := blob.Load(l, at); e != api.ErrCorrupt || data != "" || len(sectors) != 0 {
			t.Errorf("Load(%d) = %q, %v, %d", at, data, sectors, e)
		}
	}
	for _, l := range []api.Log{{}, {Power: l.Power}} {
		for _, at := range []int{54, 0, -1} {
			if data, sectors, e := blob.Load(l, at); e != api.ErrArg || data != "" || len(sectors) != 0 {
				t.Errorf("Load(%d) of no log: %q, %v, %d", at, data, sectors, e)
			}
		}
	}
}

// P7.2: bytes that a size does not cover, though they are zero, can't be told from a shorter sector; a size that covers trimmed ones is as it is written.
func TestLoadOfTrimmedParts(t *testing.T) {
	l := log(t, 64, map[int]string{54: "\x00\x00\x05\x00ab", 55: "\x00\x00\x05"})
	if data, _, e := blob.Load(l, 54); e != api.OK || data != "ab\x00\x00\x00" {
		t.Errorf("%q, %d", data, e)
	}
	if data, _, e := blob.Load(l, 55); e != api.OK || data != "\x00\x00\x00\x00\x00" {
		t.Errorf("%q, %d", data, e)
	}
}

// P7.2: 40 sectors are loaded, 41 are not.
func TestLoadOfManySectors(t *testing.T) {
	sectors := map[int]string{}
	for i := range 45 {
		sectors[60+i] = sector(61+i, text(500))
	}
	sectors[105] = sector(0, "end")
	l := log(t, 200, sectors)
	if data, at, e := blob.Load(l, 105-39); e != api.OK || len(data) != 39*500+3 || len(at) != 40 {
		t.Errorf("40 sectors: %d, %d, %d", len(data), len(at), e)
	}
	for _, from := range []int{105 - 40, 105 - 41, 60} {
		if data, at, e := blob.Load(l, from); e != api.ErrCorrupt || data != "" || len(at) != 0 {
			t.Errorf("from %d: %d, %d, %d", from, len(data), len(at), e)
		}
	}
}

// P7.3: what is laid and committed is loaded, from just the sectors that were taken; other blobs stay.
func TestLaidIsLoaded(t *testing.T) {
	r := rand.New(rand.NewSource(1))
	for range 30 {
		n := 100 + r.Intn(157)
		l := log(t, n, nil)
		used := row(n)
		for i := 54; i < n; i++ {
			used[i] = r.Intn(4) == 0
		}
		type laid struct {
			first   int
			data    string
			sectors []int
		}
		var all []laid
		for {
			b := make([]byte, r.Intn(4000))
			for i := range b {
				b[i] = byte(r.Intn(256) * r.Intn(2))
			}
			next, first, writes, e := blob.Lay(used, string(b))
			if e == api.ErrSpace {
				break
			}
			var sectors []int
			for _, w := range writes {
				sectors = append(sectors, w.Sector)
			}
			_, taken, _ := room.Take(used, len(writes))
			var f api.Errno
			if l, f = wal.Commit(l, writes...); e != api.OK || f != api.OK || !slices.Equal(sectors, taken) {
				t.Fatal(e, f, sectors, taken)
			}
			used = next
			all = append(all, laid{first, string(b), sectors})
		}
		for _, x := range all {
			if data, sectors, e := blob.Load(l, x.first); e != api.OK || data != x.data || !slices.Equal(sectors, x.sectors) {
				t.Fatalf("%d bytes from %d: %d bytes, %v, %d", len(x.data), x.first, len(data), sectors, e)
			}
		}
	}
}

// The chapter's example.
func TestExample(t *testing.T) {
	used, _ := room.New(64)
	_, first, writes, e := blob.Lay(used, "abc")
	if first != 54 || e != api.OK || !slices.Equal(writes, []api.Write{{Sector: 54, Bytes: "\x00\x00\x03\x00abc"}}) {
		t.Error(first, writes, e)
	}
}
