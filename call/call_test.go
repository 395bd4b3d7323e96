package call_test

import (
	"encoding/binary"
	"math"
	"math/rand"
	"strings"
	"testing"

	"doorward/api"
	"doorward/call"
)

const (
	x86 = 0xc000003e
	arm = 0xc00000b7
)

// calls is the chapter's table; -1: none.
var calls = []struct {
	name     string
	x86, arm int
}{
	{"read", 0, 63}, {"write", 1, 64}, {"open", 2, -1}, {"close", 3, 57}, {"stat", 4, -1}, {"fstat", 5, 80}, {"lseek", 8, 62},
	{"mmap", 9, 222}, {"mprotect", 10, 226}, {"munmap", 11, 215}, {"brk", 12, 214}, {"ioctl", 16, 29}, {"access", 21, -1},
	{"pipe", 22, -1}, {"dup", 32, 23}, {"getpid", 39, 172}, {"socket", 41, 198}, {"connect", 42, 203}, {"accept", 43, 202},
	{"bind", 49, 200}, {"listen", 50, 201}, {"clone", 56, 220}, {"fork", 57, -1}, {"execve", 59, 221}, {"exit", 60, 93},
	{"kill", 62, 129}, {"uname", 63, 160}, {"fcntl", 72, 25}, {"ptrace", 101, 117}, {"getuid", 102, 174}, {"mount", 165, 40},
	{"futex", 202, 98}, {"exit_group", 231, 94}, {"openat", 257, 56}, {"seccomp", 317, 277},
}

var wrongNames = []string{"", "READ", "read ", " read", "reads", "rea", "fork\x00", "none", "x86_64", "errno", "0", strings.Repeat("read", 100)}

func packed(c api.Call) string {
	b := binary.LittleEndian.AppendUint32(nil, c.Nr)
	b = binary.LittleEndian.AppendUint32(b, c.Arch)
	b = binary.LittleEndian.AppendUint64(b, c.IP)
	for _, arg := range c.Args {
		b = binary.LittleEndian.AppendUint64(b, arg)
	}
	return string(b)
}

// P13.1, P13.3: Pack and Unpack; each record is one call's, and each call has one record.
func TestPackAndUnpack(t *testing.T) {
	r := rand.New(rand.NewSource(1))
	all := []api.Call{{}, {Nr: 1}, {Arch: x86}, {IP: 1}, {Nr: math.MaxUint32, Arch: math.MaxUint32, IP: math.MaxUint64}, {Args: [6]uint64{1, 2, 3, 4, 5, 1 << 63}}}
	for i := range 6 {
		c := api.Call{}
		c.Args[i] = 0x0807060504030201
		all = append(all, c)
	}
	for range 500 {
		c := api.Call{Nr: r.Uint32(), Arch: r.Uint32(), IP: r.Uint64()}
		for i := range c.Args {
			c.Args[i] = r.Uint64()
		}
		all = append(all, c)
	}
	for _, c := range all {
		s := call.Pack(c)
		if got, e := call.Unpack(s); s != packed(c) || got != c || e != api.OK {
			t.Errorf("%v: %q, %v, %d", c, s, got, e)
		}
	}
	for range 500 {
		b := make([]byte, 64)
		r.Read(b)
		if c, e := call.Unpack(string(b)); packed(c) != string(b) || e != api.OK {
			t.Errorf("Unpack(%q) = %v, %d", b, c, e)
		}
	}
	for _, n := range []int{0, 1, 16, 60, 63, 65, 128} {
		if c, e := call.Unpack(strings.Repeat("\x01", n)); c != (api.Call{}) || e != api.ErrRecord {
			t.Errorf("Unpack of %d bytes: %v, %d", n, c, e)
		}
	}
}

// P13.2: Arch.
func TestArch(t *testing.T) {
	for name, want := range map[string]uint32{"x86_64": x86, "aarch64": arm} {
		if n, ok := call.Arch(name); n != want || !ok {
			t.Errorf("Arch(%q) = %x, %v", name, n, ok)
		}
	}
	for _, name := range append([]string{"", "x86", "arm", "X86_64", "x86_64 ", "aarch", "aarch64\n", "read"}, wrongNames[:8]...) {
		if n, ok := call.Arch(name); n != 0 || ok {
			t.Errorf("Arch(%q) = %x, %v", name, n, ok)
		}
	}
}

// P13.2, P13.3: Nr and Name lead to one another.
func TestNrAndName(t *testing.T) {
	names := map[uint32]map[uint32]string{x86: {}, arm: {}}
	for _, c := range calls {
		for arch, nr := range map[uint32]int{x86: c.x86, arm: c.arm} {
			n, ok := call.Nr(arch, c.name)
			if nr < 0 {
				if n != 0 || ok {
					t.Errorf("Nr(%x, %q) = %d, %v", arch, c.name, n, ok)
				}
				continue
			}
			names[arch][uint32(nr)] = c.name
			if n != uint32(nr) || !ok {
				t.Errorf("Nr(%x, %q) = %d, %v", arch, c.name, n, ok)
			}
		}
	}
	for arch, of := range names {
		for nr := range uint32(1000) {
			name, ok := call.Name(arch, nr)
			if want, known := of[nr]; name != want || ok != known {
				t.Errorf("Name(%x, %d) = %q, %v", arch, nr, name, ok)
			}
		}
		for _, nr := range []uint32{math.MaxUint32, 1 << 31, 65536 + 1} {
			if name, ok := call.Name(arch, nr); name != "" || ok {
				t.Errorf("Name(%x, %d) = %q, %v", arch, nr, name, ok)
			}
		}
		for _, name := range wrongNames {
			if n, ok := call.Nr(arch, name); n != 0 || ok {
				t.Errorf("Nr(%x, %q) = %d, %v", arch, name, n, ok)
			}
		}
	}
	for _, arch := range []uint32{0, 1, x86 + 1, arm - 1, 0x3e, 0xb7, math.MaxUint32, 0x4000003e} {
		for _, c := range calls {
			if n, ok := call.Nr(arch, c.name); n != 0 || ok {
				t.Errorf("Nr(%x, %q) = %d, %v", arch, c.name, n, ok)
			}
		}
		for nr := range uint32(320) {
			if name, ok := call.Name(arch, nr); name != "" || ok {
				t.Errorf("Name(%x, %d) = %q, %v", arch, nr, name, ok)
			}
		}
	}
}

// P13.2, P13.3: Action; no two actions with data have one number.
func TestAction(t *testing.T) {
	type told struct {
		name string
		data uint64
	}
	seen := map[uint32]told{}
	for name, c := range map[string]struct {
		number uint32
		most   uint64
	}{
		"kill": {0x80000000, 0}, "kill_thread": {0, 0}, "log": {0x7ffc0000, 0}, "allow": {0x7fff0000, 0},
		"errno": {0x00050000, 4095}, "trap": {0x00030000, 65535}, "trace": {0x7ff00000, 65535},
	} {
		for data := range c.most + 1 {
			n, ok := call.Action(name, data)
			if n != c.number+uint32(data) || !ok {
				t.Fatalf("Action(%q, %d) = %x, %v", name, data, n, ok)
			}
			if other, twice := seen[n]; twice {
				t.Fatalf("%v and %q %d are %x", other, name, data, n)
			}
			seen[n] = told{name, data}
		}
		for _, data := range []uint64{c.most + 1, c.most + 2, 65536, 1 << 32, 1<<32 + 1, 1 << 63, math.MaxUint64} {
			if n, ok := call.Action(name, data); n != 0 || ok {
				t.Errorf("Action(%q, %d) = %x, %v", name, data, n, ok)
			}
		}
	}
	for _, name := range []string{"", "Kill", "killed", "kill ", "deny", "ALLOW", "errn", "kill_process", "read", "notify"} {
		for _, data := range []uint64{0, 1, 13} {
			if n, ok := call.Action(name, data); n != 0 || ok {
				t.Errorf("Action(%q, %d) = %x, %v", name, data, n, ok)
			}
		}
	}
}

// The chapter's examples.
func TestExamples(t *testing.T) {
	if n, ok := call.Nr(x86, "openat"); n != 257 || !ok {
		t.Error(n, ok)
	}
	if n, ok := call.Action("errno", 13); n != 0x0005000d || !ok {
		t.Error(n, ok)
	}
}
