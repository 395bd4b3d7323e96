package insn_test

import (
	"math"
	"math/rand"
	"slices"
	"strings"
	"testing"

	"doorward/api"
	"doorward/insn"
)

// codes are all that there are.
var codes = []int{
	0x20, 0x80, 0x00, 0x60, 0x01, 0x61, 0x81, 0x02, 0x03, 0x04, 0x14, 0x24, 0x34, 0x44, 0x54, 0x64, 0x74, 0x84, 0xa4,
	0x0c, 0x1c, 0x2c, 0x3c, 0x4c, 0x5c, 0x6c, 0x7c, 0xac, 0x05, 0x15, 0x25, 0x35, 0x45, 0x1d, 0x2d, 0x3d, 0x4d, 0x06, 0x16, 0x07, 0x87,
}

func bytes(i api.Insn) string {
	return string([]byte{byte(i.Code), byte(i.Code >> 8), byte(i.Jt), byte(i.Jf), byte(i.K), byte(i.K >> 8), byte(i.K >> 16), byte(i.K >> 24)})
}

// P10.1: Known.
func TestKnown(t *testing.T) {
	for code := -300; code < 70000; code++ {
		if insn.Known(code) != slices.Contains(codes, code) {
			t.Errorf("Known(%x) = %v", code, insn.Known(code))
		}
	}
	for _, code := range []int{math.MinInt, math.MaxInt, 1 << 32, 1<<32 + 6, 1<<63 - 256 + 6, -256 + 6} {
		if insn.Known(code) {
			t.Errorf("Known(%x)", code)
		}
	}
}

// P10.1: Put.
func TestPut(t *testing.T) {
	for _, c := range []struct {
		i    api.Insn
		want string
	}{
		{api.Insn{Code: 6, K: 0x7fff0000}, "\x06\x00\x00\x00\x00\x00\xff\x7f"},
		{api.Insn{Code: 0x15, Jt: 1, Jf: 255, K: 0x04030201}, "\x15\x00\x01\xff\x01\x02\x03\x04"},
		{api.Insn{}, "\x00\x00\x00\x00\x00\x00\x00\x00"},
		{api.Insn{Code: 65535, Jt: 255, Jf: 255, K: math.MaxUint32}, "\xff\xff\xff\xff\xff\xff\xff\xff"},
		{api.Insn{Code: 0x1234, Jt: 2, Jf: 3, K: 4}, "\x34\x12\x02\x03\x04\x00\x00\x00"},
	} {
		if s, e := insn.Put(c.i); s != c.want || e != api.OK {
			t.Errorf("Put(%v) = %q, %d", c.i, s, e)
		}
	}
	for _, i := range wrong() {
		if s, e := insn.Put(i); s != "" || e != api.ErrArg {
			t.Errorf("Put(%v) = %q, %d", i, s, e)
		}
	}
}

func wrong() []api.Insn {
	var l []api.Insn
	for _, n := range []int{-1, 256, 1 << 16, 1 << 32, math.MinInt, math.MaxInt} {
		l = append(l, api.Insn{Code: 6, Jt: n}, api.Insn{Code: 6, Jf: n})
		if n != 256 {
			l = append(l, api.Insn{Code: n})
		}
	}
	return l
}

// P10.1: Get.
func TestGet(t *testing.T) {
	for code := range 70000 {
		i := api.Insn{Code: code & 65535, Jt: code % 256, Jf: code / 256 % 256, K: uint32(code) * 65537}
		got, e := insn.Get(bytes(i))
		if slices.Contains(codes, i.Code) && (got != i || e != api.OK) || !slices.Contains(codes, i.Code) && (got != (api.Insn{}) || e != api.ErrInsn) {
			t.Fatalf("Get of %v: %v, %d", i, got, e)
		}
	}
	good := "\x06\x00\x00\x00\x00\x00\xff\x7f"
	for _, s := range []string{"", "\x06", good[:7], good + "\x00", good + good, strings.Repeat("\x00", 7), strings.Repeat("\x00", 9), strings.Repeat("\x00", 16)} {
		if i, e := insn.Get(s); i != (api.Insn{}) || e != api.ErrInsn {
			t.Errorf("Get(%q) = %v, %d", s, i, e)
		}
	}
}

// P10.2: All.
func TestAll(t *testing.T) {
	some := []api.Insn{{Code: 0x20, K: 4}, {Code: 0x15, Jt: 0, Jf: 1, K: 5}, {Code: 6, K: 1}, {Code: 0x1234}}
	want := ""
	for _, i := range some {
		want += bytes(i)
	}
	was := slices.Clone(some)
	if s, e := insn.All(some); s != want || e != api.OK || !slices.Equal(some, was) {
		t.Errorf("%q, %d", s, e)
	}
	for _, l := range [][]api.Insn{nil, {}} {
		if s, e := insn.All(l); s != "" || e != api.OK {
			t.Errorf("%q, %d", s, e)
		}
	}
	long := slices.Repeat([]api.Insn{{Code: 6, K: 9}}, 4096)
	if s, e := insn.All(long); s != strings.Repeat(bytes(long[0]), 4096) || e != api.OK {
		t.Errorf("%d bytes, %d", len(s), e)
	}
	if s, e := insn.All(append(long, long[0])); s != "" || e != api.ErrLong {
		t.Errorf("%d bytes, %d", len(s), e)
	}
	for _, i := range wrong() {
		if s, e := insn.All([]api.Insn{some[0], i, some[1]}); s != "" || e != api.ErrArg {
			t.Errorf("All of %v: %q, %d", i, s, e)
		}
		if s, e := insn.All(append(slices.Clone(long), i)); s != "" || e != api.ErrLong {
			t.Errorf("too many, and %v: %d bytes, %d", i, len(s), e)
		}
	}
}

// P10.2: Read.
func TestRead(t *testing.T) {
	ret := bytes(api.Insn{Code: 6, K: 7})
	jump := bytes(api.Insn{Code: 0x15, Jt: 1, Jf: 2, K: 3})
	unknown := bytes(api.Insn{Code: 8})
	for _, c := range []struct {
		s    string
		want []api.Insn
		e    api.Errno
	}{
		{"", nil, api.OK}, {ret, []api.Insn{{Code: 6, K: 7}}, api.OK}, {jump + ret, []api.Insn{{Code: 0x15, Jt: 1, Jf: 2, K: 3}, {Code: 6, K: 7}}, api.OK},
		{strings.Repeat(ret, 4096), slices.Repeat([]api.Insn{{Code: 6, K: 7}}, 4096), api.OK},
		{ret[:7], nil, api.ErrInsn}, {ret + "\x00", nil, api.ErrInsn}, {"\x00", nil, api.ErrInsn}, {unknown, nil, api.ErrInsn}, {ret + unknown + ret, nil, api.ErrInsn}, {ret + jump + unknown, nil, api.ErrInsn},
		{strings.Repeat(ret, 4097), nil, api.ErrLong}, {strings.Repeat(ret, 4096) + "\x06", nil, api.ErrLong}, {strings.Repeat(unknown, 4097), nil, api.ErrLong}, {strings.Repeat(unknown, 4096), nil, api.ErrInsn},
		{strings.Repeat(ret, 4096)[1:], nil, api.ErrInsn}, {strings.Repeat("\x08", 40001), nil, api.ErrLong},
	} {
		if l, e := insn.Read(c.s); !slices.Equal(l, c.want) || e != c.e {
			t.Errorf("Read of %d bytes: %d, %d", len(c.s), len(l), e)
		}
	}
}

// P10.3: what is written, if its code is known, is read again; what is read, written, is the bytes.
func TestBackAndForth(t *testing.T) {
	r := rand.New(rand.NewSource(1))
	for range 300 {
		l := make([]api.Insn, r.Intn(50))
		for i := range l {
			l[i] = api.Insn{Code: codes[r.Intn(len(codes))], Jt: r.Intn(256), Jf: r.Intn(256), K: r.Uint32()}
			s, e := insn.Put(l[i])
			if got, f := insn.Get(s); got != l[i] || e != api.OK || f != api.OK {
				t.Fatalf("%v: %q, %v", l[i], s, got)
			}
		}
		s, e := insn.All(l)
		got, f := insn.Read(s)
		again, g := insn.All(got)
		if !slices.Equal(got, l) || again != s || len(s) != 8*len(l) || e != api.OK || f != api.OK || g != api.OK {
			t.Fatalf("%v: %q, %v", l, s, got)
		}
	}
}
