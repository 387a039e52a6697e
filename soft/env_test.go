package soft_test

import (
	"slices"
	"sync"
	"testing"

	"softfloat/soft"
)

// Records by the flags of their results.
var (
	exact     = soft.Record{Op: add, A: one, B: two}              // 0
	rounds    = soft.Record{Op: div, A: one, B: three}            // 1
	underflow = soft.Record{Op: mul, A: least, B: half}           // 3
	overflow  = soft.Record{Op: hypot, A: greatest, B: greatest}  // 5
	byZero    = soft.Record{Op: rsqrt}                            // 8
	invalid   = soft.Record{Op: sqrt, A: minus | one}             // 16
	cleared   = soft.Record{Op: clearing, Mode: 4, A: signalling} // 0
	badClear  = soft.Record{Op: clearing, Mode: 5}                // Bad
	badCode   = soft.Record{Op: 11, A: signalling}                // Bad
	negative  = soft.Record{Op: cbrt, Mode: 3, A: minus | eight}  // 0
)

// told are the results that a loop tells, left behind stop of them (0: never); the places must be 0, 1, ..
func told(t *testing.T, loop func(func(int, soft.Result) bool), stop int) []soft.Result {
	t.Helper()
	var out []soft.Result
	for i, r := range loop {
		if i != len(out) {
			t.Errorf("P4: place %d, want %d", i, len(out))
		}
		out = append(out, r)
		if len(out) == stop {
			break
		}
	}
	return out
}

// answers of Do.
func answers(l []soft.Record) []soft.Result {
	var out []soft.Result
	for _, r := range l {
		out = append(out, soft.Do(r))
	}
	return out
}

func expectFlags(t *testing.T, e *soft.Env, want uint8) {
	t.Helper()
	if got := e.Flags(); got != want {
		t.Errorf("P4: flags %d, want %d", got, want)
	}
}

// P4: of each list, on an Env of zero value, the places and results, and the flags behind it; and the same again.
func TestRun(t *testing.T) {
	for _, c := range []struct {
		l     []soft.Record
		flags uint8
	}{
		{nil, 0},
		{[]soft.Record{}, 0},
		{[]soft.Record{exact}, 0},
		{[]soft.Record{rounds}, 1},
		{[]soft.Record{underflow}, 3},
		{[]soft.Record{overflow, exact, negative}, 5},
		{[]soft.Record{byZero, invalid}, 24},
		{[]soft.Record{underflow, overflow, byZero, invalid}, 31},
		{[]soft.Record{cleared}, 0},
		{[]soft.Record{overflow, cleared}, 0},
		{[]soft.Record{overflow, cleared, underflow}, 3},
		{[]soft.Record{overflow, cleared, byZero, cleared, rounds}, 1},
		{[]soft.Record{overflow, badClear, byZero}, 13},
		{[]soft.Record{invalid, cleared, rounds, badClear, badCode}, 1},
		{[]soft.Record{badCode, badClear}, 0},
	} {
		var e soft.Env
		expectFlags(t, &e, 0)
		loop := e.Run(c.l)
		expectFlags(t, &e, 0) // nothing is done ahead of the loop
		for range 2 {
			if got := told(t, loop, 0); !slices.Equal(got, answers(c.l)) {
				t.Errorf("P4: %v: %v, want %v", c.l, got, answers(c.l))
			}
			expectFlags(t, &e, c.flags)
		}
	}
}

// P4: in the loop the flags are those of the results that are told, this one's among them.
func TestRunFlagsNow(t *testing.T) {
	var e soft.Env
	want := []uint8{1, 1, 17, 17, 0, 8}
	for i := range e.Run([]soft.Record{rounds, exact, invalid, badClear, cleared, byZero}) {
		expectFlags(t, &e, want[i])
	}
}

// P4: a loop that ends early leaves what is behind undone, and begins again at the first record.
func TestRunStop(t *testing.T) {
	l := []soft.Record{rounds, invalid, cleared, byZero, overflow}
	for stop, want := range map[int]uint8{1: 1, 2: 17, 3: 0, 4: 8, 5: 13} {
		var e soft.Env
		loop := e.Run(l)
		for range 2 {
			if got := told(t, loop, stop); !slices.Equal(got, answers(l[:stop])) {
				t.Errorf("P4: left behind %d: %v", stop, got)
			}
			expectFlags(t, &e, want)
		}
		told(t, loop, 0)
		expectFlags(t, &e, 13)
	}
}

// P4: one Run behind the other, and one within the other, on one Env; and another Env beside it.
func TestRunTwice(t *testing.T) {
	var e, other soft.Env
	told(t, e.Run([]soft.Record{rounds, byZero}), 0)
	told(t, e.Run([]soft.Record{exact}), 0)
	expectFlags(t, &e, 9)
	told(t, e.Run([]soft.Record{invalid}), 0)
	expectFlags(t, &e, 25)
	told(t, other.Run([]soft.Record{cleared, overflow}), 0)
	expectFlags(t, &e, 25)
	expectFlags(t, &other, 5)
	told(t, e.Run([]soft.Record{cleared, underflow}), 0)
	expectFlags(t, &e, 3)
	inner := e.Run([]soft.Record{cleared, rounds})
	for range e.Run([]soft.Record{overflow, byZero}) {
		told(t, inner, 0)
		expectFlags(t, &e, 1)
	}
}

// P1: Run does not keep its list: what the caller writes there later is not seen.
func TestRunOwnList(t *testing.T) {
	l := []soft.Record{exact, exact, exact}
	want := answers(l)
	var e soft.Env
	loop := e.Run(l)
	l[0] = invalid
	for i, r := range loop {
		if r != want[i] {
			t.Errorf("P1: result %d is not of the list that was given", i)
		}
		l[2] = overflow
	}
	expectFlags(t, &e, 0)
}

// P1: a panic in the body goes through the loop; what was told before it counts.
func TestRunPanic(t *testing.T) {
	var e soft.Env
	defer func() {
		if got := recover(); got != "body" {
			t.Errorf("P1: recovered %v", got)
		}
		expectFlags(t, &e, 17)
	}()
	for i := range e.Run([]soft.Record{rounds, invalid, overflow}) {
		if i == 1 {
			panic("body")
		}
	}
}

func expectBatch(t *testing.T, e *soft.Env, ls [][]soft.Record, flags uint8) {
	t.Helper()
	got := e.Batch(ls)
	if len(got) != len(ls) {
		t.Fatalf("P5: %d lists of %d", len(got), len(ls))
	}
	for i, l := range ls {
		if !slices.Equal(got[i], answers(l)) {
			t.Errorf("P5: list %d: %v, want %v", i, got[i], answers(l))
		}
	}
	expectFlags(t, e, flags)
}

// P5: the results as Run would tell them, and the flags beside those that the Env had; a clear counts for nothing.
func TestBatch(t *testing.T) {
	var e soft.Env
	expectBatch(t, &e, nil, 0)
	expectBatch(t, &e, [][]soft.Record{}, 0)
	expectBatch(t, &e, [][]soft.Record{nil, {}, nil}, 0)
	expectBatch(t, &e, [][]soft.Record{{exact, negative}, {}, {exact}}, 0)
	expectBatch(t, &e, [][]soft.Record{{rounds, cleared}}, 1)
	expectBatch(t, &e, [][]soft.Record{{cleared}, nil, {cleared, cleared}, {badClear, badCode}}, 1)
	expectBatch(t, &e, [][]soft.Record{{exact}, {byZero, cleared, exact}, {cleared, exact}}, 9)
	told(t, e.Run([]soft.Record{invalid}), 0)
	expectBatch(t, &e, [][]soft.Record{{cleared, underflow}, {overflow, badClear}}, 31)
	told(t, e.Run([]soft.Record{cleared}), 0)
	expectFlags(t, &e, 0)
	expectBatch(t, &e, [][]soft.Record{{exact}, {cleared}}, 0)
	expectBatch(t, &e, [][]soft.Record{{invalid}}, 16)
}

// P5: all have ended when it answers: the last result of a long list is there, and its flags.
func TestBatchLong(t *testing.T) {
	long := slices.Repeat([]soft.Record{exact, rounds, cleared, negative}, 2000)
	var e soft.Env
	expectBatch(t, &e, [][]soft.Record{append(slices.Clone(long), byZero), {exact}, append(slices.Clone(long), overflow), nil}, 13)
}

// P5: many lists, each of which raises flags, and one Env asked by several goroutines: the race detector looks on where it is at hand.
func TestBatchSideBySide(t *testing.T) {
	kinds := []soft.Record{exact, rounds, cleared, underflow, badClear, byZero, invalid}
	var ls [][]soft.Record
	for i := range 200 {
		ls = append(ls, slices.Repeat(kinds[:i%len(kinds)+1], i%5))
	}
	var e soft.Env
	var askers sync.WaitGroup
	for range 4 {
		askers.Go(func() {
			if got := e.Batch(ls); !slices.Equal(got[199], answers(ls[199])) {
				t.Errorf("P5: list 199: %v", got[199])
			}
			told(t, e.Run(ls[3]), 0)
			e.Flags()
		})
	}
	askers.Wait()
	expectBatch(t, &e, ls, 27)
}

// P5: no flag is lost where goroutines raise theirs at one time. (Each round may meet it or not: so there are many.)
func TestBatchRaise(t *testing.T) {
	ls := [][]soft.Record{{rounds}, {byZero}, {invalid}, {overflow}}
	for range 20000 {
		var e soft.Env
		if e.Batch(ls); e.Flags() != 29 {
			t.Fatalf("P5: flags %d, want 29", e.Flags())
		}
	}
}
