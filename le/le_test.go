package le_test

import (
	"math"
	"math/rand"
	"strings"
	"testing"

	"doorward/api"
	"doorward/le"
)

// P1.1: Put.
func TestPutWritesTheLowestByteFirst(t *testing.T) {
	for _, c := range []struct {
		n    uint64
		size int
		want string
	}{
		{0, 1, "\x00"},
		{255, 1, "\xff"},
		{258, 2, "\x02\x01"},
		{65535, 2, "\xff\xff"},
		{1, 3, "\x01\x00\x00"},
		{0x123456, 3, "\x56\x34\x12"},
		{0xc000003e, 4, "\x3e\x00\x00\xc0"},
		{0x0102030405, 5, "\x05\x04\x03\x02\x01"},
		{1 << 40, 6, "\x00\x00\x00\x00\x00\x01"},
		{1<<56 - 1, 7, "\xff\xff\xff\xff\xff\xff\xff"},
		{0x0102030405060708, 8, "\x08\x07\x06\x05\x04\x03\x02\x01"},
		{math.MaxUint64, 8, "\xff\xff\xff\xff\xff\xff\xff\xff"},
	} {
		if s, e := le.Put(c.n, c.size); s != c.want || e != api.OK {
			t.Errorf("Put(%d, %d) = %q, %d", c.n, c.size, s, e)
		}
	}
}

// P1.1: Put's error, at each size's bound, and its zero value beside it (R2).
func TestPutRefuses(t *testing.T) {
	for size := 1; size <= 8; size++ {
		most := uint64(math.MaxUint64)
		if size < 8 {
			most = 1<<(8*size) - 1
			if s, e := le.Put(most+1, size); s != "" || e != api.ErrArg {
				t.Errorf("Put(%d, %d) = %q, %d", most+1, size, s, e)
			}
			if s, e := le.Put(math.MaxUint64, size); s != "" || e != api.ErrArg {
				t.Errorf("Put of all bits in %d: %q, %d", size, s, e)
			}
		}
		if s, e := le.Put(most, size); s != strings.Repeat("\xff", size) || e != api.OK {
			t.Errorf("Put(%d, %d) = %q, %d", most, size, s, e)
		}
	}
	for _, size := range []int{0, -1, 9, 16, 64, math.MinInt, math.MaxInt} {
		if s, e := le.Put(0, size); s != "" || e != api.ErrArg {
			t.Errorf("Put(0, %d) = %q, %d", size, s, e)
		}
	}
}

// P1.1: Get.
func TestGetReadsAndTellsThePlaceBehind(t *testing.T) {
	s := "\x01\x02\x03\x04\x05\x06\x07\xf8\x09"
	for _, c := range []struct {
		at, size int
		n        uint64
	}{
		{0, 1, 1}, {0, 2, 0x0201}, {1, 2, 0x0302}, {0, 3, 0x030201}, {2, 4, 0x06050403},
		{3, 5, 0xf807060504}, {3, 6, 0x09f807060504}, {0, 7, 0x07060504030201},
		{0, 8, 0xf807060504030201}, {1, 8, 0x09f8070605040302}, {8, 1, 9}, {7, 1, 0xf8},
	} {
		if n, at, e := le.Get(s, c.at, c.size); n != c.n || at != c.at+c.size || e != api.OK {
			t.Errorf("Get(%d, %d) = %x, %d, %d", c.at, c.size, n, at, e)
		}
	}
}

// P1.1: Get's errors, ErrArg ahead of ErrShort.
func TestGetRefuses(t *testing.T) {
	s := "abcdefgh"
	for _, c := range []struct {
		s        string
		at, size int
		want     api.Errno
	}{
		{s, 0, 0, api.ErrArg}, {s, 0, 9, api.ErrArg}, {s, 0, -1, api.ErrArg}, {s, -1, 1, api.ErrArg},
		{s, math.MinInt, 8, api.ErrArg}, {s, 0, math.MaxInt, api.ErrArg}, {s, 0, math.MinInt, api.ErrArg},
		{s, 9, 0, api.ErrArg}, {"", 0, 9, api.ErrArg}, {"", -1, 1, api.ErrArg},
		{s, 1, 8, api.ErrShort}, {s, 7, 2, api.ErrShort}, {s, 8, 1, api.ErrShort}, {s, 9, 1, api.ErrShort},
		{s, math.MaxInt, 1, api.ErrShort}, {s, math.MaxInt, 8, api.ErrShort}, {"", 0, 1, api.ErrShort}, {"a", 0, 2, api.ErrShort},
	} {
		if n, at, e := le.Get(c.s, c.at, c.size); n != 0 || at != 0 || e != c.want {
			t.Errorf("Get(%q, %d, %d) = %d, %d, %d", c.s, c.at, c.size, n, at, e)
		}
	}
}

// P1.2: Text, and its longest.
func TestText(t *testing.T) {
	long := strings.Repeat("x", 65535)
	for _, c := range []struct{ s, want string }{
		{"", "\x00\x00"}, {"ab", "\x02\x00ab"}, {"\x00", "\x01\x00\x00"},
		{strings.Repeat("y", 256), "\x00\x01" + strings.Repeat("y", 256)},
		{long, "\xff\xff" + long},
	} {
		if s, e := le.Text(c.s); s != c.want || e != api.OK {
			t.Errorf("Text of %d bytes: %d bytes, %d", len(c.s), len(s), e)
		}
	}
	for _, more := range []string{"x", long} {
		if s, e := le.Text(long + more); s != "" || e != api.ErrLong {
			t.Errorf("Text of %d bytes: %d bytes, %d", len(long+more), len(s), e)
		}
	}
}

// P1.2: Cut.
func TestCut(t *testing.T) {
	for _, c := range []struct {
		s    string
		at   int
		want string
		to   int
		e    api.Errno
	}{
		{"\x02\x00abc", 0, "ab", 4, api.OK},
		{"\x00\x00", 0, "", 2, api.OK},
		{"zz\x01\x00q", 2, "q", 5, api.OK},
		{"\x01\x00\x00", 0, "\x00", 3, api.OK},
		{"\x00\x01" + strings.Repeat("y", 257), 0, strings.Repeat("y", 256), 258, api.OK},
		{"\x02\x00a", 0, "", 0, api.ErrShort},
		{"\x00\x01" + strings.Repeat("y", 255), 0, "", 0, api.ErrShort},
		{"\x02", 0, "", 0, api.ErrShort},
		{"", 0, "", 0, api.ErrShort},
		{"\x00\x00", 1, "", 0, api.ErrShort},
		{"\x00\x00", 2, "", 0, api.ErrShort},
		{"\x00\x00", math.MaxInt, "", 0, api.ErrShort},
		{"\x00\x00", -1, "", 0, api.ErrArg},
		{"\x00\x00", math.MinInt, "", 0, api.ErrArg},
		{"", -1, "", 0, api.ErrArg},
	} {
		if s, to, e := le.Cut(c.s, c.at); s != c.want || to != c.to || e != c.e {
			t.Errorf("Cut(%q, %d) = %q, %d, %d", c.s, c.at, s, to, e)
		}
	}
}

// P1.3: Trim takes zero bytes alone, at the end alone.
func TestTrim(t *testing.T) {
	for _, c := range [][2]string{
		{"a\x00\x00", "a"}, {"", ""}, {"\x00", ""}, {"\x00\x00\x00", ""}, {"a", "a"},
		{"\x00a\x00", "\x00a"}, {"a\x00b\x00", "a\x00b"}, {"a ", "a "}, {"a\n\x00", "a\n"},
		{"0", "0"}, {"\xff\x00", "\xff"}, {"\x80\x00", "\x80"}, {"\x01\x00", "\x01"},
	} {
		if s := le.Trim(c[0]); s != c[1] {
			t.Errorf("Trim(%q) = %q", c[0], s)
		}
	}
}

// P1.3: Fill, and its error.
func TestFill(t *testing.T) {
	for _, c := range []struct {
		s    string
		size int
		want string
		e    api.Errno
	}{
		{"a", 3, "a\x00\x00", api.OK}, {"", 0, "", api.OK}, {"", 2, "\x00\x00", api.OK}, {"ab", 2, "ab", api.OK},
		{"a\x00", 3, "a\x00\x00", api.OK}, {"ab", 1, "", api.ErrLong}, {"a\x00", 1, "", api.ErrLong},
		{"a", 0, "", api.ErrLong}, {"", -1, "", api.ErrLong}, {"a", math.MinInt, "", api.ErrLong},
	} {
		if s, e := le.Fill(c.s, c.size); s != c.want || e != c.e {
			t.Errorf("Fill(%q, %d) = %q, %d", c.s, c.size, s, e)
		}
	}
	if s, e := le.Fill("x", 512); len(s) != 512 || s != "x"+strings.Repeat("\x00", 511) || e != api.OK {
		t.Errorf("Fill to 512: %d bytes, %d", len(s), e)
	}
}

// P1.4: numbers go back and forth, in both ways.
func TestNumbersGoBackAndForth(t *testing.T) {
	r := rand.New(rand.NewSource(1))
	for range 3000 {
		size := 1 + r.Intn(8)
		n := r.Uint64() >> (8 * (8 - size)) >> r.Intn(8*size)
		s, e := le.Put(n, size)
		if e != api.OK || len(s) != size {
			t.Fatalf("Put(%d, %d) = %q, %d", n, size, s, e)
		}
		ahead := strings.Repeat("z", r.Intn(5))
		if m, at, e := le.Get(ahead+s+"q", len(ahead), size); m != n || at != len(ahead)+size || e != api.OK {
			t.Fatalf("Get of Put(%d, %d) = %d, %d, %d", n, size, m, at, e)
		}
		b := make([]byte, size)
		r.Read(b)
		m, _, e := le.Get(string(b), 0, size)
		if again, f := le.Put(m, size); again != string(b) || e != api.OK || f != api.OK {
			t.Fatalf("Put of Get(%q) = %q, %d, %d", b, again, e, f)
		}
	}
}

// P1.4: texts go back and forth, one behind the other.
func TestTextsGoBackAndForth(t *testing.T) {
	r := rand.New(rand.NewSource(2))
	for range 200 {
		var texts []string
		all := ""
		for range r.Intn(6) {
			b := make([]byte, r.Intn(700))
			r.Read(b)
			s, e := le.Text(string(b))
			if e != api.OK {
				t.Fatal(e)
			}
			texts, all = append(texts, string(b)), all+s
		}
		at := 0
		for _, want := range texts {
			s, to, e := le.Cut(all, at)
			if s != want || to != at+2+len(want) || e != api.OK {
				t.Fatalf("Cut at %d: %d bytes, %d, %d", at, len(s), to, e)
			}
			at = to
		}
		if at != len(all) {
			t.Fatalf("the last one ends at %d of %d", at, len(all))
		}
	}
}

// P1.4: what is trimmed, filled to as many bytes, is as it was.
func TestTrimmedIsFilledAgain(t *testing.T) {
	r := rand.New(rand.NewSource(3))
	for range 500 {
		b := make([]byte, r.Intn(40))
		for i := range b {
			b[i] = byte(r.Intn(3))
		}
		cut := le.Trim(string(b))
		if strings.HasSuffix(cut, "\x00") {
			t.Fatalf("Trim(%q) = %q", b, cut)
		}
		if s, e := le.Fill(cut, len(b)); s != string(b) || e != api.OK {
			t.Fatalf("Fill of Trim(%q) = %q, %d", b, s, e)
		}
	}
}

// R1: no call keeps anything.
func TestNothingIsKept(t *testing.T) {
	first, _ := le.Put(7, 2)
	le.Put(9, 9)
	le.Get("", 0, 1)
	le.Text(strings.Repeat("x", 70000))
	if again, e := le.Put(7, 2); again != first || e != api.OK {
		t.Error(again, e)
	}
}
