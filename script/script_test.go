package script_test

import (
	"encoding/hex"
	"math"
	"math/rand"
	"slices"
	"strconv"
	"strings"
	"testing"

	"doorward/api"
	"doorward/call"
	"doorward/daemon"
	"doorward/disk"
	"doorward/script"
	"doorward/shelf"
)

const head = "arch x86_64\ndefault allow\n"

func same(a, b api.Plan) bool {
	return a.Size == b.Size && slices.EqualFunc(a.Steps, b.Steps, func(x, y api.Step) bool {
		return x.Ask == y.Ask && x.Crash == y.Crash && slices.Equal(x.Keep, y.Keep)
	})
}

func sameReply(a, b api.Reply) bool {
	return a.Why == b.Why && a.At == b.At && a.No == b.No && a.Source == b.Source && a.Insns == b.Insns && a.Action == b.Action &&
		slices.EqualFunc(a.Lines, b.Lines, func(x, y api.Line) bool {
			return x.Name == y.Name && x.Current == y.Current && slices.Equal(x.Nos, y.Nos)
		})
}

func sameShelf(a, b api.Shelf) bool {
	return slices.Equal(a.Sectors, b.Sectors) && slices.Equal(a.Pending, b.Pending) && a.Left == b.Left && a.Epoch == b.Epoch && a.Seq == b.Seq && a.Used == b.Used && slices.Equal(a.Dirty, b.Dirty) &&
		slices.Equal(a.Taken, b.Taken) && a.List == b.List && slices.EqualFunc(a.Entries, b.Entries, func(x, y api.Entry) bool {
		return x.Name == y.Name && x.Current == y.Current && x.Next == y.Next && slices.Equal(x.Vers, y.Vers)
	})
}

func clone(p api.Plan) api.Plan {
	p.Steps = slices.Clone(p.Steps)
	for i := range p.Steps {
		p.Steps[i].Keep = slices.Clone(p.Steps[i].Keep)
	}
	return p
}

func ask(q api.Ask) api.Step { return api.Step{Ask: q} }

func crash(keep ...bool) api.Step { return api.Step{Crash: true, Keep: keep} }

func plan(size int, steps ...api.Step) api.Plan { return api.Plan{Size: size, Steps: steps} }

func publish(name, source string) api.Step {
	return ask(api.Ask{Kind: api.QPublish, Name: name, Source: source})
}

func record(nr uint32, args ...uint64) string {
	x := api.Call{Nr: nr, Arch: 0xc000003e}
	copy(x.Args[:], args)
	return call.Pack(x)
}

func eval(name string, no int, record string) api.Step {
	return ask(api.Ask{Kind: api.QEval, Name: name, No: no, Record: record})
}

// lines are steps, and how each is written.
func lines() map[string]api.Step {
	return map[string]api.Step{
		"publish 776562 61":                        publish("web", "a"),
		"publish 00 -":                             publish("\x00", ""),
		"publish ff0a20 090aff":                    publish("\xff\n ", "\t\n\xff"),
		"rollback 776562 2":                        ask(api.Ask{Kind: api.QRollback, Name: "web", No: 2}),
		"rollback 776562 0":                        ask(api.Ask{Kind: api.QRollback, Name: "web"}),
		"delete 6162636465666768696a6b6c":          ask(api.Ask{Kind: api.QDelete, Name: "abcdefghijkl"}),
		"get 776562 0":                             ask(api.Ask{Kind: api.QGet, Name: "web"}),
		"get 61 10":                                ask(api.Ask{Kind: api.QGet, Name: "a", No: 10}),
		"get 61 9223372036854775807":               ask(api.Ask{Kind: api.QGet, Name: "a", No: math.MaxInt}),
		"list":                                     ask(api.Ask{Kind: api.QList}),
		"eval 61 0 -":                              eval("a", 0, ""),
		"eval 61 7 00":                             eval("a", 7, "\x00"),
		"eval 61 7 " + strings.Repeat("7f", 100):   eval("a", 7, strings.Repeat("\x7f", 100)),
		"publish 61 " + strings.Repeat("20", 2000): publish("a", strings.Repeat(" ", 2000)),
		"collect":                                  ask(api.Ask{Kind: api.QCollect}),
		"settle":                                   ask(api.Ask{Kind: api.QSettle}),
		"crash -":                                  crash(),
		"crash 1":                                  crash(true),
		"crash 0":                                  crash(false),
		"crash 1001":                               crash(true, false, false, true),
		"crash " + strings.Repeat("01", 100):       crash(slices.Repeat([]bool{false, true}, 100)...),
	}
}

// wrongLines are lines that are not as one of some plan may be.
func wrongLines() []string {
	l := []string{
		"", " ", "-", "disk 64", "list ", " list", "list -", "list 1", "lists", "List", "LIST", "collect 0", "settle -", "settle settle", "list list", "none", "get", "crash", "eval", "publish", "rollback", "delete",
		"publish 61", "publish 61 ", "publish  61 61", "publish 61  61", "publish 61 61 ", "publish 61 61 61", "publish - 61", "publish 6 61", "publish 61 6", "publish 61 6g", "publish 61 6A", "publish 6A 61", "publish 61 0x61", "publish web 61", "publish 61 --", "publish 61\t61", "publish 61 61\r",
		"publish 6162636465666768696a6b6c6d 61", "publish 61 " + strings.Repeat("20", 2001), "publish -- 61", "publish 61-- 61", "publish 61 +1", "publish 61 1_", "publish 61 _1",
		"rollback 61", "rollback 61 ", "rollback 61 -", "rollback 61 01", "rollback 61 00", "rollback 61 +1", "rollback 61 -1", "rollback 61 -0", "rollback 61 1.", "rollback 61 0x1", "rollback 61 1 1", "rollback - 1", "rollback 61 a", "rollback 61 1_0", "rollback 61 9223372036854775808", "rollback 61 99999999999999999999999", "rollback 61 18446744073709551617",
		"delete", "delete -", "delete 61 0", "delete 61 ", "delete 6162636465666768696a6b6c6d", "get 61", "get 61 01", "get - 0", "get 61 0 -", "get 61 -1", "get 0 61",
		"eval 61 0", "eval 61 0 ", "eval 61 - -", "eval 61 0 6", "eval 61 0 - -", "eval 61 0 " + strings.Repeat("7f", 101), "eval - 0 -", "eval 61 00 -",
		"crash ", "crash 2", "crash 1 0", "crash 1-", "crash -1", "crash --", "crash x", "crash 10 ", "crash  1", "crash 1\r", "crash " + strings.Repeat("1", 201), "Crash -", "\x00", "\xff",
	}
	return l
}

func wrongSteps() []api.Step {
	l := []api.Step{
		{}, {Keep: []bool{true}}, {Crash: true, Ask: api.Ask{Kind: api.QList}}, {Crash: true, Ask: api.Ask{Name: "a"}}, {Crash: true, Ask: api.Ask{No: 1}}, {Crash: true, Ask: api.Ask{Source: "a"}}, {Crash: true, Ask: api.Ask{Record: "a"}}, {Crash: true, Ask: api.Ask{Kind: -1}},
		crash(make([]bool, 201)...), crash(make([]bool, 5000)...), {Ask: api.Ask{Kind: api.QList}, Keep: []bool{false}}, ask(api.Ask{Kind: 9}), ask(api.Ask{Kind: api.QGet}), ask(api.Ask{Kind: api.QGet, Name: "a", No: -1}), ask(api.Ask{Kind: api.QList, Name: "a"}),
		publish("", "a"), publish("abcdefghijklm", "a"), publish("a", strings.Repeat(" ", 2001)), ask(api.Ask{Kind: api.QPublish, Name: "a", Record: "a"}), eval("a", 0, strings.Repeat("a", 101)), eval("a", -1, ""), ask(api.Ask{Kind: api.QDelete, Name: "a", No: 1}),
	}
	return l
}

// P25.1: Right and Print.
func TestRightAndPrint(t *testing.T) {
	refused := func(p api.Plan) {
		t.Helper()
		if s, e := script.Print(p); script.Right(p) || s != "" || e != api.ErrArg {
			t.Errorf("%v: %v, %q, %d", p, script.Right(p), s, e)
		}
		if s, l, e := script.Run(p); !sameShelf(s, api.Shelf{}) || len(l) != 0 || e != api.ErrArg {
			t.Errorf("Run(%v): %v, %v, %d", p, s, l, e)
		}
	}
	for _, n := range []int{63, 257, 0, -1, math.MinInt, math.MaxInt} {
		refused(plan(n))
	}
	for _, s := range wrongSteps() {
		refused(plan(64, s))
		refused(plan(64, ask(api.Ask{Kind: api.QList}), s, crash()))
	}
	refused(plan(64, slices.Repeat([]api.Step{crash()}, 61)...))
	refused(api.Plan{})
	for _, n := range []int{64, 65, 100, 256} {
		if s, e := script.Print(plan(n)); s != "disk "+strconv.Itoa(n)+"\n" || e != api.OK || !script.Right(plan(n)) {
			t.Errorf("%d: %q, %d", n, s, e)
		}
	}
	for want, step := range lines() {
		p := plan(64, step, step)
		was := clone(p)
		if s, e := script.Print(p); s != "disk 64\n"+want+"\n"+want+"\n" || e != api.OK || !script.Right(p) || !same(p, was) {
			t.Errorf("%v: %q, %d", p, s, e)
		}
	}
	if p := plan(64, slices.Repeat([]api.Step{crash()}, 60)...); !script.Right(p) {
		t.Error("60 steps may be")
	}
	if p := plan(64, api.Step{Ask: api.Ask{Kind: api.QList}, Keep: []bool{}}, api.Step{Crash: true, Keep: []bool{}}); !script.Right(p) {
		t.Error("an empty Keep is none")
	}
}

func parsed(t *testing.T, s string, want api.Plan) {
	t.Helper()
	if p, e, n := script.Parse(s); !same(p, want) || e != api.OK || n != 0 {
		t.Errorf("Parse(%q) = %v, %d, %d", s, p, e, n)
	}
	if again, e := script.Print(want); again != s || e != api.OK {
		t.Errorf("Print(%v) = %q, %d, not %q", want, again, e, s)
	}
}

func refused(t *testing.T, s string, line int) {
	t.Helper()
	if p, e, n := script.Parse(s); !same(p, api.Plan{}) || e != api.ErrLine || n != line {
		t.Errorf("Parse(%q) = %v, %d, %d; not line %d", s, p, e, n, line)
	}
}

// P25.1, P25.3: Parse of each line.
func TestParse(t *testing.T) {
	for s, step := range lines() {
		parsed(t, "disk 64\n"+s+"\n", plan(64, step))
		parsed(t, "disk 256\nlist\n"+s+"\n"+s+"\ncrash -\n", plan(256, ask(api.Ask{Kind: api.QList}), step, step, crash()))
		refused(t, "disk 64\n"+s, 2)
		refused(t, "disk 64\nlist\n"+s, 3)
		refused(t, s+"\n", 1)
		refused(t, "disk 64\n"+s+" \n", 2)
		refused(t, "disk 64\n "+s+"\n", 2)
		refused(t, "disk 64\n"+s+"\n\n", 3)
	}
	for n := 64; n <= 256; n++ {
		parsed(t, "disk "+strconv.Itoa(n)+"\n", plan(n))
	}
}

// P25.1: the first line that is not as one of some plan may be.
func TestParseRefuses(t *testing.T) {
	for _, s := range []string{"", "\n", "disk", "disk\n", "disk 64", "disk \n", "disk 63\n", "disk 257\n", "disk 064\n", "disk 0x40\n", "disk +64\n", "disk -64\n", "disk 64 \n", "disk  64\n", " disk 64\n", "disk 64 64\n", "Disk 64\n", "disc 64\n", "64\n", "disk 6 4\n", "disk 99999999999999999999\n", "disk 18446744073709551680\n", "disk -\n", "disk 64\r\n", "list\n", "\ndisk 64\n"} {
		refused(t, s, 1)
		if strings.HasSuffix(s, "\n") {
			refused(t, s+"none\n", 1)
		}
	}
	for _, s := range wrongLines() {
		refused(t, "disk 64\n"+s+"\n", 2)
		refused(t, "disk 64\nlist\ncrash 10\n"+s+"\nlist\n", 4)
		refused(t, "disk 64\nlist\ncrash 10\n"+s+"\nnone\n", 4)
	}
	refused(t, "disk 64\nlist\nlist", 3)
	refused(t, "disk 64\nlist\nnone", 3)
	refused(t, "disk 64\ndisk 64\n", 2)
	refused(t, "disk 64\n\n", 2)
}

// P25.1: 60 steps may be, the 61st is line 62, whatever it is.
func TestTooManySteps(t *testing.T) {
	most := "disk 64\n" + strings.Repeat("list\n", 60)
	parsed(t, most, plan(64, slices.Repeat([]api.Step{ask(api.Ask{Kind: api.QList})}, 60)...))
	for _, s := range []string{"list\n", "list", "none\n", "\n", "list\nlist\n", "list\nnone\n", strings.Repeat("list\n", 1000)} {
		refused(t, most+s, 62)
	}
	refused(t, most[:len(most)-5]+"none\nlist\nlist\n", 61)
}

func someAsk(r *rand.Rand) api.Ask {
	name := []string{"web", "db", "a", "\x00", "twelve bytes", "x", "y", "z", "v"}[r.Intn(1+r.Intn(9))]
	switch r.Intn(11) {
	case 0:
		return api.Ask{Kind: api.QRollback, Name: name, No: r.Intn(5)}
	case 1:
		return api.Ask{Kind: api.QDelete, Name: name}
	case 2:
		return api.Ask{Kind: api.QGet, Name: name, No: r.Intn(5)}
	case 3:
		return api.Ask{Kind: api.QList}
	case 4, 5:
		return api.Ask{Kind: api.QEval, Name: name, No: r.Intn(3), Record: record(uint32(r.Intn(4)), uint64(r.Intn(3)))[r.Intn(10)/9:]}
	case 6:
		return api.Ask{Kind: api.QCollect}
	case 7:
		return api.Ask{Kind: api.QSettle}
	}
	source := head
	for range r.Intn(3) {
		source += []string{"kill read\n", "log write if arg0 < 2 or arg0 & 3 == 1\n", "errno 13 open close\n", "trap none\n", "allow if\n"}[r.Intn(5)]
	}
	return api.Ask{Kind: api.QPublish, Name: name, Source: source}
}

func somePlan(r *rand.Rand, most int) api.Plan {
	p := api.Plan{Size: 64 + r.Intn(193)}
	for range r.Intn(most + 1) {
		if r.Intn(4) == 0 {
			keep := make([]bool, r.Intn(12))
			for i := range keep {
				keep[i] = r.Intn(2) == 0
			}
			p.Steps = append(p.Steps, crash(keep...))
			continue
		}
		p.Steps = append(p.Steps, ask(someAsk(r)))
	}
	return p
}

// written is a plan's text by the chapter's words, with other means.
func written(p api.Plan) string {
	word := func(s string) string {
		if s == "" {
			return "-"
		}
		return hex.EncodeToString([]byte(s))
	}
	s := "disk " + strconv.Itoa(p.Size) + "\n"
	for _, step := range p.Steps {
		q := step.Ask
		no := " " + strconv.Itoa(q.No)
		if step.Crash {
			s += "crash "
			for _, kept := range step.Keep {
				s += map[bool]string{true: "1", false: "0"}[kept]
			}
			if len(step.Keep) == 0 {
				s += "-"
			}
		} else {
			s += []string{"", "publish ", "rollback ", "delete ", "get ", "list", "eval ", "collect", "settle"}[q.Kind]
			if q.Name != "" {
				s += word(q.Name)
			}
			switch q.Kind {
			case api.QPublish:
				s += " " + word(q.Source)
			case api.QRollback, api.QGet:
				s += no
			case api.QEval:
				s += no + " " + word(q.Record)
			}
		}
		s += "\n"
	}
	return s
}

// P25.3: what is printed is parsed as that plan; what is parsed, printed, is the text.
func TestBackAndForth(t *testing.T) {
	r := rand.New(rand.NewSource(1))
	fine := 0
	for range 500 {
		p := somePlan(r, 60)
		s := written(p)
		parsed(t, s, p)
		b := []byte(s)
		for range 1 + r.Intn(2) {
			b[r.Intn(len(b))] = "0123456789abcdef -\nlistgercol"[r.Intn(29)]
		}
		got, e, n := script.Parse(string(b))
		if e == api.OK {
			fine++
			if again, f := script.Print(got); again != string(b) || f != api.OK {
				t.Fatalf("%q: %q", b, again)
			}
		} else if e != api.ErrLine || n < 1 || n > 62 || !same(got, api.Plan{}) {
			t.Fatalf("%q: %v, %d, %d", b, got, e, n)
		}
	}
	if fine < 20 {
		t.Error(fine)
	}
}

// ran is what Run tells, step by step.
func ran(t *testing.T, p api.Plan) (api.Shelf, []api.Reply) {
	t.Helper()
	s, e := shelf.New(p.Size)
	var l []api.Reply
	for _, step := range p.Steps {
		if step.Crash {
			d, f := disk.Crash(s.Disk, step.Keep...)
			if s, e = shelf.Open(api.Power{Disk: d, Left: -1}); f != api.OK {
				t.Fatal(f)
			}
		} else {
			var r api.Reply
			s, r = daemon.Do(s, step.Ask)
			l = append(l, r)
		}
		if e != api.OK {
			t.Fatal(e)
		}
	}
	return s, l
}

// P25.2 and P25.4: Run; without its crashes a plan's answers are the same. R1: so is another run of it.
func TestRun(t *testing.T) {
	r := rand.New(rand.NewSource(2))
	whys := map[api.Errno]int{}
	for range 60 {
		p := somePlan(r, 60)
		was := clone(p)
		want, answers := ran(t, p)
		s, l, e := script.Run(p)
		if e != api.OK || !sameShelf(s, want) || !slices.EqualFunc(l, answers, sameReply) || !same(p, was) {
			t.Fatalf("%v: %v, %d, not %v", p, l, e, answers)
		}
		if again, more, f := script.Run(p); f != api.OK || !sameShelf(again, s) || !slices.EqualFunc(more, l, sameReply) {
			t.Fatalf("%v: another time %v, %d", p, more, f)
		}
		calm := api.Plan{Size: p.Size}
		for _, step := range p.Steps {
			if !step.Crash {
				calm.Steps = append(calm.Steps, step)
			}
		}
		if _, again, e := script.Run(calm); e != api.OK || !slices.EqualFunc(l, again, sameReply) {
			t.Fatalf("%v: %v, and without crashes %v, %d", p, l, again, e)
		}
		for _, answer := range l {
			whys[answer.Why]++
		}
	}
	for _, why := range []api.Errno{api.OK, api.ErrName, api.ErrVersion, api.ErrType, api.ErrParse} {
		if whys[why] == 0 {
			t.Errorf("never %d", why)
		}
	}
}

// P25.2: a plan without steps is a new shelf.
func TestRunOfNothing(t *testing.T) {
	for _, n := range []int{64, 256} {
		want, _ := shelf.New(n)
		if s, l, e := script.Run(plan(n)); !sameShelf(s, want) || len(l) != 0 || e != api.OK {
			t.Errorf("%d: %v, %v, %d", n, s, l, e)
		}
	}
}

// answers of a plan on 128 sectors.
func answers(t *testing.T, steps ...api.Step) (api.Shelf, []api.Reply) {
	t.Helper()
	s, l, e := script.Run(plan(128, steps...))
	if e != api.OK {
		t.Fatal(e)
	}
	return s, l
}

// The ten examples of the whole.
func TestTenExamples(t *testing.T) {
	arm := call.Pack(api.Call{Arch: 0xc00000b7})
	get := func(name string, no int) api.Step { return ask(api.Ask{Kind: api.QGet, Name: name, No: no}) }
	check := func(what string, r, want api.Reply) {
		t.Helper()
		if !sameReply(r, want) {
			t.Errorf("%s: %v, not %v", what, r, want)
		}
	}
	_, l := answers(t, publish("web", head), eval("web", 0, record(3)), eval("web", 0, arm))
	check("1", l[1], api.Reply{No: 1, Action: 0x7fff0000})
	check("1, aarch64", l[2], api.Reply{No: 1, Action: 0x80000000})
	_, l = answers(t, publish("web", "arch x86_64\ndefault errno 38\nallow read write\n"), eval("web", 0, record(0)), eval("web", 0, record(1)), eval("web", 0, record(2)))
	check("2, read", l[1], api.Reply{No: 1, Action: 0x7fff0000})
	check("2, write", l[2], api.Reply{No: 1, Action: 0x7fff0000})
	check("2, open", l[3], api.Reply{No: 1, Action: 0x00050026})
	_, l = answers(t, publish("web", head+"kill ioctl if arg1 == 0x5412\n"), eval("web", 0, record(16, 0, 0x5412)), eval("web", 0, record(16, 0, 0x5412+1<<32)))
	check("3", l[1], api.Reply{No: 1, Action: 0x80000000})
	check("3, greater by 2^32", l[2], api.Reply{No: 1, Action: 0x7fff0000})
	_, l = answers(t, publish("web", "arch aarch64\ndefault allow\nkill open\n"), publish("web", head+"allow read if\n"))
	check("4", l[0], api.Reply{Why: api.ErrType})
	check("5", l[1], api.Reply{Why: api.ErrParse, At: len(head) + 13})
	_, l = answers(t, get("web", 0), publish("web", head), get("web", 9))
	check("6, no name", l[0], api.Reply{Why: api.ErrName})
	check("6, no version", l[2], api.Reply{Why: api.ErrVersion})
	_, l = answers(t, publish("web", head), publish("web", head+"kill read\n"), ask(api.Ask{Kind: api.QRollback, Name: "web", No: 1}), get("web", 0), publish("web", head))
	if l[2].No != 1 || l[3].No != 1 || l[3].Source != head || l[4].No != 3 {
		t.Errorf("7: %v", l)
	}
	ahead, _ := answers(t)
	behind, _ := answers(t, publish("web", head), ask(api.Ask{Kind: api.QDelete, Name: "web"}), ask(api.Ask{Kind: api.QCollect}))
	if free(ahead) != free(behind) {
		t.Errorf("8: %d, %d", free(ahead), free(behind))
	}
	_, l = answers(t, publish("web", head), crash(), eval("web", 0, record(3)), crash(), get("web", 1))
	check("9", l[1], api.Reply{No: 1, Action: 0x7fff0000})
	check("9, the source", l[2], api.Reply{No: 1, Source: head, Insns: l[0].Insns})
	_, l = answers(t, publish("web", head), eval("web", 0, record(3)[1:]))
	check("10", l[1], api.Reply{Why: api.ErrRecord})
}

func free(s api.Shelf) int {
	n := 0
	for _, used := range s.Taken {
		if !used {
			n++
		}
	}
	return n
}

// The chapter's examples.
func TestExamples(t *testing.T) {
	parsed(t, "disk 64\nget 776562 0\n", plan(64, ask(api.Ask{Kind: api.QGet, Name: "web"})))
	refused(t, "disk 63\n", 1)
}
