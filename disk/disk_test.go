package disk_test

import (
	"math"
	"math/rand"
	"slices"
	"strings"
	"testing"

	"doorward/api"
	"doorward/disk"
)

var (
	full = strings.Repeat("x", 512)
	over = strings.Repeat("x", 513)
)

func same(a, b api.Disk) bool {
	return slices.Equal(a.Sectors, b.Sectors) && slices.Equal(a.Pending, b.Pending)
}

func samePower(a, b api.Power) bool { return same(a.Disk, b.Disk) && a.Left == b.Left }

func clone(d api.Disk) api.Disk {
	return api.Disk{Sectors: slices.Clone(d.Sectors), Pending: slices.Clone(d.Pending)}
}

// of is a disk with these sectors, and writes on their way.
func of(sectors []string, pending ...api.Write) api.Disk {
	return api.Disk{Sectors: sectors, Pending: pending}
}

// wrong are disks that may not be.
func wrong() []api.Disk {
	two := []string{"a", "b"}
	return []api.Disk{
		{}, of([]string{}), of(make([]string, 257)), of(make([]string, 1000)),
		of([]string{over}), of([]string{"a", over}), of([]string{"a\x00"}), of([]string{"\x00"}), of([]string{"", "a", "b\x00"}),
		of(two, api.Write{Sector: -1}), of(two, api.Write{Sector: 2}), of(two, api.Write{Sector: math.MinInt}), of(two, api.Write{Sector: math.MaxInt}),
		of(two, api.Write{Sector: 1, Bytes: over}), of(two, api.Write{Sector: 0, Bytes: "a\x00"}), of(two, api.Write{Sector: 0, Bytes: "\x00"}),
		of(two, api.Write{Sector: 1, Bytes: "c"}, api.Write{Sector: 2, Bytes: "c"}), of(nil, api.Write{}),
	}
}

// right are disks that may be.
func right() []api.Disk {
	return []api.Disk{
		of([]string{""}), of(make([]string, 256)), of([]string{full}), of([]string{"\x00a"}), of([]string{"a", "b", ""}),
		of([]string{"a", "b"}, api.Write{Sector: 1, Bytes: "c"}), of([]string{"a"}, api.Write{Sector: 0, Bytes: full}),
		of([]string{"a", "b"}, api.Write{Sector: 1, Bytes: "c"}, api.Write{Sector: 0}, api.Write{Sector: 1, Bytes: "d"}),
		of([]string{"a"}, slices.Repeat([]api.Write{{Sector: 0, Bytes: "z"}}, 500)...),
	}
}

// P3.1: New.
func TestNew(t *testing.T) {
	for _, n := range []int{1, 2, 64, 255, 256} {
		if d, e := disk.New(n); e != api.OK || !same(d, of(make([]string, n))) {
			t.Errorf("New(%d) = %v, %d", n, d, e)
		}
	}
	for _, n := range []int{0, -1, 257, math.MinInt, math.MaxInt} {
		if d, e := disk.New(n); e != api.ErrArg || !same(d, api.Disk{}) {
			t.Errorf("New(%d) = %v, %d", n, d, e)
		}
	}
}

// P3.1: Right.
func TestRight(t *testing.T) {
	for i, d := range right() {
		if !disk.Right(d) {
			t.Errorf("disk %d may be", i)
		}
	}
	for i, d := range wrong() {
		if disk.Right(d) {
			t.Errorf("disk %d may not be", i)
		}
	}
}

// P3.2: Read tells the last write to a sector, or else what it has.
func TestRead(t *testing.T) {
	d := of([]string{"a", "b", "c"}, api.Write{Sector: 1, Bytes: "p"}, api.Write{Sector: 2, Bytes: "q"}, api.Write{Sector: 1, Bytes: "r"}, api.Write{Sector: 2, Bytes: ""})
	for i, want := range []string{"a", "r", ""} {
		if s, e := disk.Read(d, i); s != want || e != api.OK {
			t.Errorf("Read(%d) = %q, %d", i, s, e)
		}
	}
	for _, i := range []int{-1, 3, 256, math.MinInt, math.MaxInt} {
		if s, e := disk.Read(d, i); s != "" || e != api.ErrSector {
			t.Errorf("Read(%d) = %q, %d", i, s, e)
		}
	}
	for i, d := range wrong() {
		for _, at := range []int{0, 1, -1, 999} {
			if s, e := disk.Read(d, at); s != "" || e != api.ErrArg {
				t.Errorf("Read of disk %d: %q, %d", i, s, e)
			}
		}
	}
}

// P3.2: Crash leaves of each sector the last write that is kept.
func TestCrash(t *testing.T) {
	d := of([]string{"a", "b", "c"}, api.Write{Sector: 1, Bytes: "p"}, api.Write{Sector: 2, Bytes: "q"}, api.Write{Sector: 1, Bytes: "r"}, api.Write{Sector: 0, Bytes: ""})
	for _, c := range []struct {
		keep []bool
		want []string
	}{
		{nil, []string{"a", "b", "c"}},
		{[]bool{false, false, false, false}, []string{"a", "b", "c"}},
		{[]bool{true}, []string{"a", "p", "c"}},
		{[]bool{true, true}, []string{"a", "p", "q"}},
		{[]bool{false, false, true}, []string{"a", "r", "c"}},
		{[]bool{true, false, true}, []string{"a", "r", "c"}},
		{[]bool{true, true, true, true}, []string{"", "r", "q"}},
		{[]bool{false, true, false, true}, []string{"", "b", "q"}},
		{[]bool{true, true, true, true, true, true}, []string{"", "r", "q"}},
		{[]bool{false, false, false, false, true}, []string{"a", "b", "c"}},
	} {
		if got, e := disk.Crash(d, c.keep...); e != api.OK || !same(got, of(c.want)) {
			t.Errorf("Crash(%v) = %v, %d", c.keep, got, e)
		}
	}
	for i, d := range wrong() {
		for _, keep := range [][]bool{nil, {true}, {true, true, true}} {
			if got, e := disk.Crash(d, keep...); e != api.ErrArg || !same(got, api.Disk{}) {
				t.Errorf("Crash of disk %d: %v, %d", i, got, e)
			}
		}
	}
}

// P3.3: Write puts a write behind the others, trimmed.
func TestWrite(t *testing.T) {
	d := of([]string{"a", "b"}, api.Write{Sector: 0, Bytes: "p"})
	for _, c := range []struct {
		left, then int
	}{{1, 0}, {2, 1}, {7, 6}, {-1, -1}, {-5, -5}, {math.MinInt, math.MinInt}, {math.MaxInt, math.MaxInt - 1}} {
		for _, w := range [][2]string{{"q", "q"}, {"", ""}, {"q\x00\x00", "q"}, {"\x00", ""}, {"\x00q", "\x00q"}, {full, full}, {full + "\x00\x00", full}} {
			got, e := disk.Write(api.Power{Disk: d, Left: c.left}, 1, w[0])
			want := api.Power{Disk: of(d.Sectors, d.Pending[0], api.Write{Sector: 1, Bytes: w[1]}), Left: c.then}
			if e != api.OK || !samePower(got, want) {
				t.Errorf("Write(%d, %q) = %v, %d", c.left, w[0], got, e)
			}
		}
	}
}

// P3.3: Flush has all writes at their places.
func TestFlush(t *testing.T) {
	d := of([]string{"a", "b", "c"}, api.Write{Sector: 1, Bytes: "p"}, api.Write{Sector: 2, Bytes: ""}, api.Write{Sector: 1, Bytes: "r"})
	for _, c := range [][2]int{{1, 0}, {2, 1}, {-1, -1}, {-7, -7}} {
		got, e := disk.Flush(api.Power{Disk: d, Left: c[0]})
		if want := (api.Power{Disk: of([]string{"a", "r", ""}), Left: c[1]}); e != api.OK || !samePower(got, want) {
			t.Errorf("Flush(%d) = %v, %d", c[0], got, e)
		}
	}
	for i, d := range right() {
		if got, e := disk.Flush(api.Power{Disk: d, Left: 3}); e != api.OK || len(got.Pending) != 0 || got.Left != 2 {
			t.Errorf("Flush of disk %d: %v, %d", i, got, e)
		}
	}
}

// P3.3: the errors, in their order; with each the power stays as it is.
func TestWriteAndFlushRefuse(t *testing.T) {
	d := of([]string{"a", "b"}, api.Write{Sector: 0, Bytes: "p"})
	check := func(p api.Power, sector int, bytes string, want api.Errno) {
		t.Helper()
		if got, e := disk.Write(p, sector, bytes); e != want || !samePower(got, p) {
			t.Errorf("Write(%d, %d bytes, Left %d) = %v, %d", sector, len(bytes), p.Left, got, e)
		}
	}
	for _, left := range []int{1, -1, 9} {
		check(api.Power{Disk: d, Left: left}, 2, "q", api.ErrSector)
		check(api.Power{Disk: d, Left: left}, -1, over, api.ErrSector)
		check(api.Power{Disk: d, Left: left}, math.MaxInt, over, api.ErrSector)
		check(api.Power{Disk: d, Left: left}, 1, over, api.ErrLong)
		check(api.Power{Disk: d, Left: left}, 0, strings.Repeat("\x00", 512)+"x", api.ErrLong)
	}
	check(api.Power{Disk: d}, 1, "q", api.ErrDown)
	check(api.Power{Disk: d}, 9, over, api.ErrDown)
	if got, e := disk.Flush(api.Power{Disk: d}); e != api.ErrDown || !samePower(got, api.Power{Disk: d}) {
		t.Errorf("Flush without power: %v, %d", got, e)
	}
	for i, d := range wrong() {
		for _, left := range []int{0, 1, -1} {
			want := api.ErrArg
			if left == 0 {
				want = api.ErrDown
			}
			p := api.Power{Disk: d, Left: left}
			check(p, 0, "q", want)
			check(p, -1, over, want)
			if got, e := disk.Flush(p); e != want || !samePower(got, p) {
				t.Errorf("Flush of disk %d, Left %d: %v, %d", i, left, got, e)
			}
		}
	}
}

// some is a random disk that may be.
func some(r *rand.Rand) api.Disk {
	n := 1 + r.Intn(6)
	d := api.Disk{Sectors: make([]string, n)}
	for i := range n {
		d.Sectors[i] = strings.Repeat(string(rune('a'+r.Intn(26))), r.Intn(3))
	}
	for range r.Intn(7) {
		d.Pending = append(d.Pending, api.Write{Sector: r.Intn(n), Bytes: strings.Repeat(string(rune('A'+r.Intn(26))), r.Intn(3))})
	}
	return d
}

func keeps(r *rand.Rand) []bool {
	k := make([]bool, r.Intn(10))
	for i := range k {
		k[i] = r.Intn(2) == 0
	}
	return k
}

// P3.4: what is written is read, other sectors stay; behind a flush each sector tells what it told, whatever crashes; none is torn.
func TestWhatFollows(t *testing.T) {
	r := rand.New(rand.NewSource(1))
	for range 2000 {
		d := some(r)
		at, bytes := r.Intn(len(d.Sectors)), strings.Repeat("w", r.Intn(4))
		p, e := disk.Write(api.Power{Disk: d, Left: -1}, at, bytes)
		flushed, f := disk.Flush(p)
		if e != api.OK || f != api.OK {
			t.Fatal(e, f)
		}
		crashed, _ := disk.Crash(flushed.Disk, keeps(r)...)
		torn, _ := disk.Crash(p.Disk, keeps(r)...)
		for i := range d.Sectors {
			want, _ := disk.Read(d, i)
			if i == at {
				want = bytes
			}
			for _, x := range []api.Disk{p.Disk, flushed.Disk, crashed} {
				if s, e := disk.Read(x, i); s != want || e != api.OK {
					t.Fatalf("sector %d of %v: %q, %d", i, x, s, e)
				}
			}
			had := []string{d.Sectors[i]}
			for _, w := range p.Pending {
				if w.Sector == i {
					had = append(had, w.Bytes)
				}
			}
			if s, _ := disk.Read(torn, i); !slices.Contains(had, s) {
				t.Fatalf("sector %d of %v crashed: %q", i, p.Disk, s)
			}
		}
	}
}

// P3.5: what is made of a disk that may be may be. R4: no argument changes, even where a list has room behind it.
func TestMadeDisksMayBe(t *testing.T) {
	r := rand.New(rand.NewSource(2))
	for range 1000 {
		d := some(r)
		d.Pending = slices.Grow(d.Pending, 4)
		was := clone(d)
		p := api.Power{Disk: d, Left: 1 + r.Intn(3)}
		one, _ := disk.Write(p, 0, "one\x00")
		two, _ := disk.Write(p, 0, "two")
		if n := len(d.Pending); one.Pending[n].Bytes != "one" || two.Pending[n].Bytes != "two" {
			t.Fatalf("two writes are one: %v, %v", one, two)
		}
		flushed, _ := disk.Flush(one)
		crashed, _ := disk.Crash(d, keeps(r)...)
		for i, x := range []api.Disk{one.Disk, two.Disk, crashed, flushed.Disk} {
			if !disk.Right(x) && (i < 3 || one.Left > 0) {
				t.Fatalf("%v may not be", x)
			}
		}
		if !same(d, was) {
			t.Fatalf("%v was %v", d, was)
		}
	}
}

// The chapter's examples.
func TestExamples(t *testing.T) {
	d, _ := disk.New(64)
	p, _ := disk.Write(api.Power{Disk: d, Left: -1}, 3, "a")
	if s, e := disk.Read(p.Disk, 3); s != "a" || e != api.OK {
		t.Error(s, e)
	}
	p, _ = disk.Write(p, 3, "b")
	d, _ = disk.Crash(p.Disk, true, false)
	if s, e := disk.Read(d, 3); s != "a" || e != api.OK {
		t.Error(s, e)
	}
}
