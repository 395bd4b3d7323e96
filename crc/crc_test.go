package crc_test

import (
	"hash/crc32"
	"math/rand"
	"strings"
	"testing"

	"doorward/api"
	"doorward/crc"
)

// bitwise is the sum as the chapter's words tell it.
func bitwise(s string) uint32 {
	register := ^uint32(0)
	for i := 0; i < len(s); i++ {
		for bit := 0; bit < 8; bit++ {
			unlike := register&1 != uint32(s[i]>>bit)&1
			register >>= 1
			if unlike {
				register ^= 0xedb88320
			}
		}
	}
	return ^register
}

func random(r *rand.Rand, most int) string {
	b := make([]byte, r.Intn(most))
	r.Read(b)
	return string(b)
}

func last(sum uint32) string {
	return string([]byte{byte(sum), byte(sum >> 8), byte(sum >> 16), byte(sum >> 24)})
}

// P2.1: Of.
func TestOf(t *testing.T) {
	for _, c := range []struct {
		s    string
		want uint32
	}{
		{"", 0}, {"123456789", 0xcbf43926}, {"\x00", 0xd202ef8d}, {"a", 0xe8b7be43},
		{"\xff\xff\xff\xff", 0xffffffff}, {strings.Repeat("\x00", 32), 0x190a55ad},
	} {
		if sum := crc.Of(c.s); sum != c.want {
			t.Errorf("Of(%q) = %x", c.s, sum)
		}
	}
	for b := range 256 {
		if s := string([]byte{byte(b)}); crc.Of(s) != bitwise(s) {
			t.Errorf("Of(%q) = %x", s, crc.Of(s))
		}
	}
	r := rand.New(rand.NewSource(1))
	for range 500 {
		s := random(r, 700)
		if sum := crc.Of(s); sum != bitwise(s) || sum != crc32.ChecksumIEEE([]byte(s)) {
			t.Fatalf("Of(%q) = %x", s, sum)
		}
	}
}

// P2.1: Seal.
func TestSeal(t *testing.T) {
	for _, c := range [][2]string{
		{"", "\x00\x00\x00\x00"}, {"123456789", "123456789\x26\x39\xf4\xcb"}, {"\x00", "\x00\x8d\xef\x02\xd2"},
	} {
		if s := crc.Seal(c[0]); s != c[1] {
			t.Errorf("Seal(%q) = %q", c[0], s)
		}
	}
	r := rand.New(rand.NewSource(2))
	for range 300 {
		s := random(r, 600)
		if sealed := crc.Seal(s); sealed != s+last(bitwise(s)) {
			t.Fatalf("Seal(%q) = %q", s, sealed)
		}
	}
}

// P2.1: Open's errors.
func TestOpenRefuses(t *testing.T) {
	for _, c := range []struct {
		s string
		e api.Errno
	}{
		{"", api.ErrShort}, {"\x00", api.ErrShort}, {"abc", api.ErrShort}, {"\x00\x00\x00", api.ErrShort},
		{"abcd", api.ErrForm}, {"\x00\x00\x00\x01", api.ErrForm}, {"\xff\xff\xff\xff", api.ErrForm},
		{"\x01\x00\x00\x00", api.ErrForm},
		{"123456789\xcb\xf4\x39\x26", api.ErrForm}, {"123456789\x26\x39\xf4\xca", api.ErrForm},
		{"123456788\x26\x39\xf4\xcb", api.ErrForm}, {"123456789\x26\x39\xf4", api.ErrForm},
		{"\x00\x00\x00\x00\x00", api.ErrForm}, {"\x00123456789\x26\x39\xf4\xcb", api.ErrForm},
	} {
		if s, e := crc.Open(c.s); s != "" || e != c.e {
			t.Errorf("Open(%q) = %q, %d", c.s, s, e)
		}
	}
}

// P2.1, P2.2: what is sealed is opened.
func TestSealedIsOpened(t *testing.T) {
	for _, s := range []string{"", "\x00", "\x00\x00\x00\x00", "abc", "123456789", strings.Repeat("\x00", 100)} {
		if got, e := crc.Open(crc.Seal(s)); got != s || e != api.OK {
			t.Errorf("Open of Seal(%q) = %q, %d", s, got, e)
		}
	}
	r := rand.New(rand.NewSource(3))
	for range 300 {
		s := random(r, 600)
		if got, e := crc.Open(crc.Seal(s)); got != s || e != api.OK {
			t.Fatalf("Open of Seal(%q) = %q, %d", s, got, e)
		}
		if got, e := crc.Open(crc.Seal(crc.Seal(s))); got != crc.Seal(s) || e != api.OK {
			t.Fatalf("sealed twice: %q, %d", got, e)
		}
	}
}

// turn turns the bits of pattern in s, the lowest one at the bit at.
func turn(s string, at int, pattern uint32) string {
	b := []byte(s)
	for i := range 32 {
		if pattern>>i&1 == 1 && at+i < 8*len(b) {
			b[(at+i)/8] ^= 1 << ((at + i) % 8)
		}
	}
	return string(b)
}

// P2.2: bits that are turned within 32 are found.
func TestTurnedBitsAreRefused(t *testing.T) {
	r := rand.New(rand.NewSource(4))
	for range 40 {
		sealed := crc.Seal(random(r, 30))
		for at := range 8 * len(sealed) {
			for _, pattern := range []uint32{1, 3, 0x80000001, 0xffffffff, 0xedb88320, r.Uint32() | 1} {
				broken := turn(sealed, at, pattern)
				if broken == sealed {
					continue
				}
				if s, e := crc.Open(broken); s != "" || e != api.ErrForm {
					t.Fatalf("Open(%q), of %q: %q, %d", broken, sealed, s, e)
				}
			}
		}
	}
}

// P2.3: the sums of three texts of one length, and that of their odd bits, go together.
func TestSumsGoTogether(t *testing.T) {
	r := rand.New(rand.NewSource(5))
	for range 300 {
		n := r.Intn(100)
		var texts [3][]byte
		odd := make([]byte, n)
		for i := range texts {
			texts[i] = make([]byte, n)
			r.Read(texts[i])
			for j := range odd {
				odd[j] ^= texts[i][j]
			}
		}
		want := crc.Of(string(texts[0])) ^ crc.Of(string(texts[1])) ^ crc.Of(string(texts[2]))
		if sum := crc.Of(string(odd)); sum != want {
			t.Fatalf("%q: %x, not %x", texts, sum, want)
		}
	}
}

// R1: no call keeps anything.
func TestNothingIsKept(t *testing.T) {
	first := crc.Of("abc")
	crc.Seal("xyz")
	crc.Open("xyz")
	if crc.Of("abc") != first {
		t.Error("another sum")
	}
}
