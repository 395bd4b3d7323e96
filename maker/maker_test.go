package maker_test

import (
	"math"
	"math/rand"
	"slices"
	"strconv"
	"strings"
	"testing"

	"doorward/api"
	"doorward/call"
	"doorward/check"
	"doorward/emit"
	"doorward/insn"
	"doorward/maker"
	"doorward/mean"
	"doorward/parse"
	"doorward/tree"
	"doorward/types"
	"doorward/vm"
)

const (
	x86  = 0xc000003e
	arm  = 0xc00000b7
	head = "arch x86_64\ndefault allow\n"
)

// big is a source whose filter would be too big, though the source is not.
func big() string {
	names := "read write open close stat fstat lseek mmap mprotect munmap brk ioctl access pipe dup getpid socket connect accept bind listen clone fork execve exit"
	var tests []string
	for i := range 40 {
		tests = append(tests, "arg"+strconv.Itoa(i%6)+" & 0x7ffffffffffffff0 <= "+strconv.Itoa(i))
	}
	return head + "log " + names + " if " + strings.Join(tests, " or ") + "\n"
}

// assembled is what the layers below make of a source that types.Check takes.
func assembled(t *testing.T, source string) api.Errno {
	t.Helper()
	p, e, _ := parse.Parse(source)
	typed, f := types.Check(p)
	steps, g := tree.Steps(typed)
	if e != api.OK || f != api.OK || g != api.OK {
		t.Fatalf("%q: %d, %d, %d", source, e, f, g)
	}
	_, e = emit.Assemble(steps)
	return e
}

// P22.1, P22.2: of more than 4096 instructions there is no filter, if its source is right.
func TestBig(t *testing.T) {
	for _, source := range []string{big(), strings.ReplaceAll(big(), "allow", "kill #~\n")} {
		if assembled(t, source) == api.OK {
			made(t, source)
			continue
		}
		if prog, e, at := maker.Make(source); len(prog) != 0 || e != api.ErrBig || at != 0 {
			t.Errorf("Make(%q): %d instructions, %d, %d", source, len(prog), e, at)
		}
		if s, e, at := maker.Bytes(source); s != "" || e != api.ErrBig || at != 0 {
			t.Errorf("Bytes(%q): %d bytes, %d, %d", source, len(s), e, at)
		}
	}
}

// faults are sources, with Make's error and place.
func faults() map[string]struct {
	e  api.Errno
	at int
} {
	type fault = struct {
		e  api.Errno
		at int
	}
	return map[string]fault{
		"":                                {api.ErrParse, 0},
		"~":                               {api.ErrLex, 0},
		"\n\n A":                          {api.ErrLex, 3},
		head + "allow read if":            {api.ErrParse, len(head) + 13},
		head + "allow read if arg0 == 08": {api.ErrLex, len(head) + 22},
		head + "allow":                    {api.ErrParse, len(head) + 5},
		head + "allow read if " + strings.Repeat("not ", 9) + "arg0 == 1": {api.ErrDeep, len(head) + 14 + 36},
		strings.Repeat(" ", 2001):                  {api.ErrLong, 0},
		head + strings.Repeat("allow read\n", 25):  {api.ErrLong, 0},
		head + "allow none\n":                      {api.ErrType, 0},
		head + "errno 4096 read\n":                 {api.ErrType, 0},
		"arch arm\ndefault allow\n":                {api.ErrType, 0},
		"arch x86_64\ndefault allow 1\n":           {api.ErrType, 0},
		"arch aarch64\ndefault allow\nkill open\n": {api.ErrType, 0},
		head + "log read if " + tests(41):          {api.ErrLong, 0},
		head + "log none if " + tests(41):          {api.ErrLong, 0},
	}
}

func tests(n int) string {
	return strings.Join(slices.Repeat([]string{"arg0 == 1"}, n), " or ")
}

// P22.1, P22.2: Make's errors, with their places; Bytes tells the same.
func TestErrors(t *testing.T) {
	for source, want := range faults() {
		if prog, e, at := maker.Make(source); len(prog) != 0 || e != want.e || at != want.at {
			t.Errorf("Make(%q): %d instructions, %d, %d; not %d, %d", source, len(prog), e, at, want.e, want.at)
		}
		if s, e, at := maker.Bytes(source); s != "" || e != want.e || at != want.at {
			t.Errorf("Bytes(%q): %d bytes, %d, %d; not %d, %d", source, len(s), e, at, want.e, want.at)
		}
	}
}

// P22.3: Mean's errors: the source's come ahead of the record's; a policy too big for a filter still means something.
func TestMeanErrors(t *testing.T) {
	good := call.Pack(api.Call{Nr: 1, Arch: x86, Args: [6]uint64{math.MaxUint64, math.MaxUint64, math.MaxUint64, math.MaxUint64, math.MaxUint64, math.MaxUint64}})
	for source, want := range faults() {
		for _, record := range []string{"", good, good[1:], good + "a"} {
			if a, e := maker.Mean(source, record); a != 0 || e != want.e {
				t.Errorf("Mean(%q) = %x, %d", source, a, e)
			}
		}
	}
	for _, record := range []string{"", good[1:], good + "\x00", strings.Repeat("a", 128)} {
		for _, source := range []string{head, big()} {
			if a, e := maker.Mean(source, record); a != 0 || e != api.ErrRecord {
				t.Errorf("Mean of %d bytes: %x, %d", len(record), a, e)
			}
		}
	}
	if a, e := maker.Mean(big(), good); a != 0x7fff0000 || e != api.OK {
		t.Errorf("%x, %d", a, e)
	}
	if a, e := maker.Mean(big(), call.Pack(api.Call{Nr: 1, Arch: x86})); a != 0x7ffc0000 || e != api.OK {
		t.Errorf("%x, %d", a, e)
	}
}

// made asks for a source's filter, and holds it to all that is promised of it but what it returns.
func made(t *testing.T, source string) []api.Insn {
	t.Helper()
	prog, e, at := maker.Make(source)
	if e != api.OK || at != 0 {
		t.Fatalf("Make(%q): %d, %d", source, e, at)
	}
	if i, e := check.Check(prog); i != 0 || e != api.OK {
		t.Fatalf("%q: its filter may not be: %d, %d", source, i, e)
	}
	want, _ := insn.All(prog)
	if s, e, at := maker.Bytes(source); s != want || e != api.OK || at != 0 {
		t.Fatalf("Bytes(%q): %d bytes, %d, %d", source, len(s), e, at)
	}
	return prog
}

// meant holds a filter, and Mean, to what the source's policy means.
func meant(t *testing.T, source string, prog []api.Insn, x api.Call) {
	t.Helper()
	p, _, _ := parse.Parse(source)
	typed, _ := types.Check(p)
	record := call.Pack(x)
	want, _ := mean.Of(typed, record)
	if a, e := maker.Mean(source, record); a != want || e != api.OK {
		t.Fatalf("Mean(%q) of %v: %x, %d, not %x", source, x, a, e, want)
	}
	if a, steps, e := vm.Run(prog, record); a != want || e != api.OK || steps > len(prog) {
		t.Fatalf("%q on %v: %x in %d steps of %d, %d; not %x", source, x, a, steps, len(prog), e, want)
	}
}

var names = []string{"read", "write", "close", "ioctl", "openat", "futex", "brk", "seccomp"}

// some is a random source, whose lines are parted by as many blanks and remarks as between makes.
func some(r *rand.Rand) string {
	lines := []string{"arch " + []string{"x86_64", "aarch64"}[r.Intn(2)], "default " + action(r)}
	for range r.Intn(6) {
		line := action(r)
		for range 1 + r.Intn(4) {
			line += " " + names[r.Intn(len(names))]
		}
		if r.Intn(3) > 0 {
			line += " if " + condition(r, 2)
		}
		lines = append(lines, line)
	}
	return strings.Join(lines, "\n") + "\n"
}

func action(r *rand.Rand) string {
	return []string{"allow", "kill", "kill_thread", "log", "errno 13", "errno 4095", "trap 7", "trace 65535", "trap", "errno 0x1"}[r.Intn(10)]
}

var values = []uint64{0, 1, 2, 3, 5, 1 << 32, 1<<32 + 1, 3 << 32, 1<<32 - 1, math.MaxUint64}

func condition(r *rand.Rand, deep int) string {
	if deep == 0 || r.Intn(3) == 0 {
		s := "arg" + strconv.Itoa(r.Intn(6))
		if r.Intn(3) == 0 {
			s += " & " + strconv.FormatUint(values[r.Intn(len(values))], 10)
		}
		return s + " " + []string{"==", "!=", "<", "<=", ">", ">="}[r.Intn(6)] + " " + strconv.FormatUint(values[r.Intn(len(values))], 10)
	}
	if r.Intn(4) == 0 {
		return "not (" + condition(r, deep-1) + ")"
	}
	return "(" + condition(r, deep-1) + ")" + []string{" and ", " or "}[r.Intn(2)] + condition(r, deep-1)
}

func someCall(r *rand.Rand) api.Call {
	x := api.Call{Arch: []uint32{x86, arm, x86, arm, 7}[r.Intn(5)], IP: r.Uint64()}
	x.Nr, _ = call.Nr(x.Arch, names[r.Intn(len(names))])
	x.Nr += uint32(r.Intn(12) / 11)
	for i := range x.Args {
		x.Args[i] = values[r.Intn(len(values))]
	}
	return x
}

// P22.1, P22.3, P22.4 and P4: random sources; two of one policy have filters that return the same.
func TestRandomSources(t *testing.T) {
	r := rand.New(rand.NewSource(1))
	for range 600 {
		source := some(r)
		wide := "# a remark\n" + strings.ReplaceAll(strings.ReplaceAll(source, " ", " \t"), "\n", " # ~\n\n")
		if len(wide) > 2000 {
			continue
		}
		prog, other := made(t, source), made(t, wide)
		for range 25 {
			x := someCall(r)
			meant(t, source, prog, x)
			meant(t, source, other, x)
		}
	}
}

// P22.1: whether it is ErrBig or a filter hangs on the source's policy alone.
func TestBigHangsOnThePolicyAlone(t *testing.T) {
	for n := 1; n <= 40; n++ {
		source := head + "log read write open close stat fstat lseek mmap brk ioctl if " + strings.Join(slices.Repeat([]string{"arg0 & 3 < 5"}, n), " or ") + "\n"
		want := assembled(t, source)
		for _, other := range []string{
			source, strings.ReplaceAll(source, "0 & 3 < 5", "0&0x03<0x5"), "\n#\n" + strings.ReplaceAll(source, "log", "\n\n log"), strings.ReplaceAll(source, " if ", " if (((") + ")))",
		} {
			other = strings.ReplaceAll(other, "\n)))", ")))\n")
			prog, e, at := maker.Make(other)
			if e != want || at != 0 || (len(prog) > 0) != (e == api.OK) {
				t.Errorf("%d tests: %d, not %d", n, e, want)
			}
		}
	}
}

// P22.1: a source of at most 150 bytes is never ErrBig.
func TestShortSourcesAreNeverBig(t *testing.T) {
	for _, line := range []string{
		"log brk dup read open stat mmap pipe bind fork exit kill dup brk if arg0<1 or arg1<1 or arg2<1 or arg3<1 or arg4<1",
		"log brk dup read open stat mmap pipe bind fork exit if arg0&1<1 or arg1&1<1 or arg2&1<1 or arg3&1<1 or arg4<1",
		"log brk dup read open stat if arg0<1 or arg1<1 or arg2<1 or arg3<1 or arg4<1 or arg5<1 or arg0<1 or arg1<1",
		"log brk if arg0<1\nlog brk if arg1<1\nlog brk if arg2<1\nlog brk if arg3<1\nlog brk if arg4<1\nlog brk if arg5<1",
	} {
		source := "arch x86_64\ndefault log\n" + line
		if len(source) > 150 {
			t.Fatalf("%q has %d bytes", source, len(source))
		}
		prog := made(t, source)
		r := rand.New(rand.NewSource(1))
		for range 50 {
			meant(t, source, prog, someCall(r))
		}
	}
}

// P22.1: edges of numbers and arguments, by hand.
func TestAnswers(t *testing.T) {
	source := head + "kill ioctl if arg1 == 0x5412\nerrno 38 read write\nerrno 1 write\nlog close if arg5 & 0xff00 > 255 and not arg0 < 4294967296\n"
	prog := made(t, source)
	for _, c := range []struct {
		x    api.Call
		want uint32
	}{
		{api.Call{Nr: 16, Arch: x86, Args: [6]uint64{0, 0x5412}}, 0x80000000}, {api.Call{Nr: 16, Arch: x86, Args: [6]uint64{0, 0x5412 + 1<<32}}, 0x7fff0000}, {api.Call{Nr: 16, Arch: x86, Args: [6]uint64{0x5412}}, 0x7fff0000},
		{api.Call{Nr: 0, Arch: x86}, 0x00050026}, {api.Call{Nr: 1, Arch: x86}, 0x00050026}, {api.Call{Nr: 2, Arch: x86}, 0x7fff0000}, {api.Call{Nr: 16, Arch: arm, Args: [6]uint64{0, 0x5412}}, 0x80000000}, {api.Call{Nr: 0}, 0x80000000},
		{api.Call{Nr: 3, Arch: x86, Args: [6]uint64{1 << 32, 0, 0, 0, 0, 0x100}}, 0x7ffc0000}, {api.Call{Nr: 3, Arch: x86, Args: [6]uint64{1<<32 - 1, 0, 0, 0, 0, 0x100}}, 0x7fff0000}, {api.Call{Nr: 3, Arch: x86, Args: [6]uint64{1 << 32, 0, 0, 0, 0, 0xff}}, 0x7fff0000},
		{api.Call{Nr: math.MaxUint32, Arch: x86}, 0x7fff0000},
	} {
		meant(t, source, prog, c.x)
		if a, _, e := vm.Run(prog, call.Pack(c.x)); a != c.want || e != api.OK {
			t.Errorf("%v: %x, not %x", c.x, a, c.want)
		}
	}
}

// The chapter's example.
func TestExample(t *testing.T) {
	prog := made(t, head+"errno 13 write\n")
	if a, _, e := vm.Run(prog, call.Pack(api.Call{Nr: 1, Arch: x86})); a != 0x5000d || e != api.OK {
		t.Errorf("%x, %d", a, e)
	}
}
