package client_test

import (
	"fmt"
	"math"
	"strings"
	"testing"

	"coppice/api"
	"coppice/arena"
	"coppice/client"
	"coppice/shape"
)

// The chapter's table of examples, and what stands between its rows.
func TestExamples(t *testing.T) {
	a := lone().lay(t)
	c := client.New(a, two(), 5, []api.Op{putOp("a", "1"), getOp("a")})
	is(t, c, false)
	for now := range 7 {
		steps(t, c, now, 1)
		is(t, c, false, "5/0 put a=1: 0 -1 -1")
		if held := len(a.Held()); held != now/5 {
			t.Fatalf("behind Step(%d): held %d", now, held)
		}
	}
	steps(t, c, 7, 1)
	is(t, c, false, "5/0 put a=1: 0 7 7 done")
	if list(shape.Map(a)) != "a=1" {
		t.Fatalf("%s", list(shape.Map(a)))
	}
	for now := 9; now < 13; now++ {
		steps(t, c, now, 1)
		is(t, c, false, "5/0 put a=1: 0 7 7 done", "5/1 get a=: 9 -1 -1")
	}
	steps(t, c, 13, 1)
	is(t, c, true, "5/0 put a=1: 0 7 7 done", "5/1 get a=: 9 13 13 done there value 1")
	if c.Step(14) {
		t.Fatal("Step(14)")
	}
	is(t, c, true, "5/0 put a=1: 0 7 7 done", "5/1 get a=: 9 13 13 done there value 1")
}

// Each row of the table of machines: how many steps it takes, and what stands in the call then.
func TestMachines(t *testing.T) {
	full := string(streamOf(t, 4, "b", "1", "d", "2", "m", "3"))
	one := two()
	one.Block = 1
	ones := string(streamOf(t, 1, "b", "1", "d", "2", "m", "3"))
	long := strings.Repeat("k", 65)
	for _, x := range []struct {
		c    api.Config
		op   api.Op
		last int
		want string // behind First, 0, and Last
		left string
	}{
		{two(), getOp("b"), 8, "8 done there value 1", "b=1 d=2 m=3"},
		{two(), getOp("m"), 8, "8 done there value 3", "b=1 d=2 m=3"},
		{two(), getOp("c"), 8, "8 done", "b=1 d=2 m=3"},
		{two(), getOp(""), 0, "0 done error 3", "b=1 d=2 m=3"},
		{two(), getOp(long), 0, "0 done error 3", "b=1 d=2 m=3"},
		{two(), getOp(long[1:]), 8, "8 done", "b=1 d=2 m=3"},

		{two(), putOp("b", "9"), 11, "11 done there", "b=9 d=2 m=3"},
		{two(), putOp("n", "9"), 11, "11 done", "b=1 d=2 m=3 n=9"},
		{two(), putOp("n", ""), 11, "11 done", "b=1 d=2 m=3 n="},
		{two(), putOp("c", "9"), 24, "16 done", "b=1 c=9 d=2 m=3"}, // a leaf in two, and its key in the root
		{two(), putOp("", "9"), 0, "0 done error 3", "b=1 d=2 m=3"},
		{two(), putOp(long, "9"), 0, "0 done error 3", "b=1 d=2 m=3"},
		{two(), putOp("n", strings.Repeat("v", 257)), 0, "0 done error 3", "b=1 d=2 m=3"},

		{two(), delOp("b"), 11, "11 done there", "d=2 m=3"},
		{two(), delOp("c"), 8, "8 done", "b=1 d=2 m=3"},
		{two(), delOp(""), 0, "0 done error 3", "b=1 d=2 m=3"},
		{two(), delOp(long), 0, "0 done error 3", "b=1 d=2 m=3"},

		{two(), scanOp("", "", 9), 12, "-1 done entries b=1 d=2 m=3", "b=1 d=2 m=3"},
		{two(), scanOp("c", "", 9), 12, "-1 done entries d=2 m=3", "b=1 d=2 m=3"},
		{two(), scanOp("", "m", 9), 8, "-1 done entries b=1 d=2", "b=1 d=2 m=3"},
		{two(), scanOp("", "d", 9), 8, "-1 done entries b=1", "b=1 d=2 m=3"},
		{two(), scanOp("", "", 1), 8, "-1 done entries b=1", "b=1 d=2 m=3"},
		{two(), scanOp("n", "", 9), 8, "-1 done", "b=1 d=2 m=3"},
		{two(), scanOp("", "", 0), 0, "-1 done", "b=1 d=2 m=3"},
		{two(), scanOp("d", "d", 9), 0, "-1 done", "b=1 d=2 m=3"},
		{two(), scanOp("", "", -1), 0, "-1 done error 1", "b=1 d=2 m=3"},
		{two(), scanOp("", "", math.MaxInt), 12, "-1 done entries b=1 d=2 m=3", "b=1 d=2 m=3"},

		{two(), exportOp(0), 14, "-1 done value " + bare([]byte(full)), "b=1 d=2 m=3"},
		{one, exportOp(0), 15, "-1 done value " + bare([]byte(ones)), "b=1 d=2 m=3"},

		{two(), otherOp(0), 0, "-1 done error 1", "b=1 d=2 m=3"},
		{two(), otherOp(6), 0, "-1 done error 1", "b=1 d=2 m=3"},
	} {
		a := small().lay(t)
		was := mark(a)
		c := client.New(a, x.c, 0, []api.Op{x.op})
		if got := play(t, c); got != x.last+1 {
			t.Errorf("%s: %d steps", toldOp(x.op), got)
		}
		is(t, c, true, fmt.Sprintf("0/0 %s: 0 %d %s", toldOp(x.op), x.last, x.want))
		if got := list(shape.Map(a)); got != x.left || !shape.Check(a, two()).Sound {
			t.Errorf("%s: left: %s", toldOp(x.op), got)
		}
		if got := mark(a); x.op.Kind != api.OpPut && x.op.Kind != api.OpDelete && got != was {
			t.Errorf("%s turned something", toldOp(x.op))
		}
	}
}

// No operations: done from the beginning on, and a step does nothing.
func TestNoOperations(t *testing.T) {
	for _, ops := range [][]api.Op{nil, {}, make([]api.Op, 0, 9)} {
		a := small().lay(t)
		was := mark(a)
		c := client.New(a, two(), 3, ops)
		for _, now := range []int{0, 1, -1, math.MinInt, math.MaxInt} {
			is(t, c, true)
			if c.Step(now) {
				t.Fatalf("Step(%d)", now)
			}
		}
		is(t, c, true)
		if mark(a) != was {
			t.Fatal("something was turned")
		}
	}
}

// An operation of another kind is through in the step in which it begins, with ErrArg, wherever it stands, and turns nothing; those beside it go as ever.
func TestOtherKinds(t *testing.T) {
	for _, kind := range []int{0, 6, 7, -1, -5, 256 + 2, 1<<32 + 1, math.MinInt, math.MaxInt} {
		for place := range 3 {
			ops := []api.Op{putOp("a", "1"), getOp("a")}
			ops = append(append(append([]api.Op{}, ops[:place]...), otherOp(kind)), ops[place:]...)
			at := []int{0, 8, 13}[place]
			want, now := []string{}, 0
			for i, op := range ops {
				last, point, how := now, -1, " error 1"
				switch op.Kind {
				case api.OpPut:
					last, point, how = now+7, now+7, ""
				case api.OpGet:
					last, point, how = now+4, now+4, " there value 1"
				}
				want = append(want, fmt.Sprintf("7/%d %s: %d %d %d done%s", i, toldOp(op), now, last, point, how))
				now = last + 1
			}
			a := lone().lay(t)
			c := client.New(a, two(), 7, ops)
			steps(t, c, 0, at)
			is(t, c, false, want[:place]...)
			was := mark(a)
			steps(t, c, at, 1)
			is(t, c, place == 2, want[:place+1]...)
			if mark(a) != was {
				t.Fatal("something was turned")
			}
			steps(t, c, at+1, now-at-1)
			is(t, c, true, want...)
		}
		// Alone, and many of them.
		c := client.New(lone().lay(t), two(), 7, []api.Op{otherOp(kind)})
		steps(t, c, 4, 1)
		is(t, c, true, fmt.Sprintf("7/0 %s: 4 4 -1 done error 1", toldOp(otherOp(kind))))
		var many []api.Op
		for range 300 {
			many = append(many, otherOp(kind))
		}
		c = client.New(lone().lay(t), two(), 7, many)
		if got := play(t, c); got != 300 || len(c.Calls()) != 300 {
			t.Fatalf("%d steps, %d calls", got, len(c.Calls()))
		}
		for i, call := range c.Calls() {
			if call.First != i || call.Last != i || call.Number != i || call.Err != api.ErrArg {
				t.Fatalf("%s", told(call))
			}
		}
	}
}

// A moment is any number: the same one at several steps, one below an earlier one, one below 0. Each call has those that it was told.
func TestMoments(t *testing.T) {
	ops := []api.Op{putOp("a", "1"), getOp("a"), otherOp(9)}
	for _, x := range []struct {
		moment func(step int) int
		want   string
	}{
		{func(step int) int { return step }, "0 7 7, 8 12 12, 13 13 -1"},
		{func(step int) int { return 10 * step }, "0 70 70, 80 120 120, 130 130 -1"},
		{func(step int) int { return 4 }, "4 4 4, 4 4 4, 4 4 -1"},
		{func(step int) int { return step / 4 }, "0 1 1, 2 3 3, 3 3 -1"},
		{func(step int) int { return 20 - step }, "20 13 13, 12 8 8, 7 7 -1"},
		{func(step int) int { return step - 9 }, "-9 -2 -2, -1 3 3, 4 4 -1"},
		{func(step int) int { return -1 }, "-1 -1 -1, -1 -1 -1, -1 -1 -1"},
		{func(step int) int { return math.MinInt + step }, fmt.Sprintf("%d %d %[2]d, %d %d %[4]d, %d %[5]d -1", math.MinInt, math.MinInt+7, math.MinInt+8, math.MinInt+12, math.MinInt+13)},
		{func(step int) int { return math.MaxInt - step%2 }, fmt.Sprintf("%d %d %[2]d, %[1]d %[1]d %[1]d, %[2]d %[2]d -1", math.MaxInt, math.MaxInt-1)},
	} {
		c := client.New(lone().lay(t), two(), 0, ops)
		for step := range 14 {
			if !c.Step(x.moment(step)) {
				t.Fatalf("step %d: false", step)
			}
		}
		var got []string
		for _, call := range c.Calls() {
			got = append(got, fmt.Sprint(call.First, call.Last, call.Point))
		}
		if strings.Join(got, ", ") != x.want || !c.Done() || c.Step(x.moment(14)) {
			t.Errorf("%s; not %s", strings.Join(got, ", "), x.want)
		}
	}
}

// A put takes effect steps ahead of its end, where leaves are halved: Point is that step's, and the call is not done yet; its answer comes with the end.
func TestPointAheadOfTheEnd(t *testing.T) {
	c := client.New(small().lay(t), two(), 0, []api.Op{putOp("c", "9"), putOp("c", "8")})
	steps(t, c, 100, 16)
	is(t, c, false, "0/0 put c=9: 100 -1 -1")
	for step := 16; step < 24; step++ {
		steps(t, c, 100+step, 1)
		is(t, c, false, "0/0 put c=9: 100 -1 116")
	}
	steps(t, c, 124, 1)
	is(t, c, false, "0/0 put c=9: 100 124 116 done")
	for step := 25; step < 36; step++ {
		steps(t, c, 100+step, 1)
		is(t, c, false, "0/0 put c=9: 100 124 116 done", "0/1 put c=8: 125 -1 -1")
	}
	steps(t, c, 136, 1)
	is(t, c, true, "0/0 put c=9: 100 124 116 done", "0/1 put c=8: 125 136 136 done there")
}

// Behind the end a step is false, and nothing is turned, however often it is asked, and whatever others do in the tree.
func TestBehindTheEnd(t *testing.T) {
	a := small().lay(t)
	c := client.New(a, two(), 1, []api.Op{putOp("c", "9"), delOp("b"), scanOp("", "", 9)})
	play(t, c)
	was := all(c.Calls())
	for round := range 3 {
		stood := mark(a)
		for _, now := range []int{99, 99, 0, -1, math.MaxInt, math.MinInt} {
			if c.Step(now) || !c.Done() || all(c.Calls()) != was || mark(a) != stood {
				t.Fatalf("Step(%d): %s", now, all(c.Calls()))
			}
		}
		play(t, client.New(a, two(), 2, []api.Op{putOp("x", fmt.Sprint(round))}))
	}
}

// A client's number is any, and told in each of its calls; two clients may have the same.
func TestNumbers(t *testing.T) {
	a := lone().lay(t)
	for _, number := range []int{0, 1, 15, 16, -1, 5, 5, math.MinInt, math.MaxInt} {
		c := client.New(a, two(), number, []api.Op{getOp("a"), getOp("b"), otherOp(8)})
		steps(t, c, 0, 1)
		is(t, c, false, fmt.Sprintf("%d/0 get a=: 0 -1 -1", number))
		play(t, c)
		for i, call := range c.Calls() {
			if call.Client != number || call.Number != i {
				t.Fatalf("%s", told(call))
			}
		}
	}
}

// More operations than a script may have: the client does them all.
func TestManyOperations(t *testing.T) {
	c := two()
	c.Nodes = 2000
	a, _ := arena.New(c.Nodes)
	var ops []api.Op
	for i := range 600 {
		key := fmt.Sprintf("k%03d", i*7%600)
		ops = append(ops, putOp(key, fmt.Sprint(i)), getOp(key))
	}
	x := client.New(a, c, 0, ops)
	for now := 0; x.Step(now); now++ {
	}
	calls := x.Calls()
	if len(calls) != 1200 || !x.Done() || !shape.Check(a, c).Sound || len(shape.Map(a)) != 600 {
		t.Fatalf("%d calls, %+v", len(calls), shape.Check(a, c))
	}
	for i, call := range calls {
		if call.Number != i || !call.Done || call.Err != api.OK || call.There != (i%2 == 1) || i%2 == 1 && string(call.Value) != fmt.Sprint(i/2) {
			t.Fatalf("%s", told(call))
		}
	}
}
