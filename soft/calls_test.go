package soft_test

import (
	"slices"
	"testing"

	"softfloat/soft"
)

// patterns: bits of every class, and of no plan.
func patterns() []uint64 {
	out := []uint64{0, least, greatestSub, leastNormal, one, three, greatest, infinite, plainNaN, quiet, signalling, 0x7fffffffffffffff}
	for _, x := range slices.Clone(out) {
		out = append(out, minus|x)
	}
	return out
}

// P1: no call panics, whatever the operation, the mode and the operands.
func TestNoPanic(t *testing.T) {
	all := patterns()
	for i, a := range all {
		soft.Class(a)
		for k, b := range all {
			for op := range 256 {
				for mode := range 6 {
					soft.Do(soft.Record{Op: byte(op), Mode: byte(mode), A: a, B: b, C: all[(i+k)%len(all)]})
				}
				soft.Do(soft.Record{Op: byte(op), Mode: 255, A: a, B: b, C: b})
			}
			for _, c := range all {
				soft.Do(soft.Record{Op: fma, A: a, B: b, C: c})
			}
		}
	}
}

// P1: what Do answers hangs on its record alone.
func TestAgain(t *testing.T) {
	for op := range byte(12) {
		r := soft.Record{Op: op, Mode: 3, A: one, B: tiny, C: three}
		first := soft.Do(r)
		soft.Do(soft.Record{Op: mul, Mode: 4, A: greatest, B: greatest})
		soft.Do(soft.Record{Op: 99})
		expect(t, r, first)
	}
}

func lists() [][]soft.Record {
	return [][]soft.Record{
		nil,
		{},
		{{Op: add, A: one, B: tiny}, {Op: mul, Mode: 4, A: greatest, B: greatest}},
		{{Op: clearing}, {Op: 11}, {Op: add, Mode: 5}, {Op: sub, A: infinite, B: infinite}},
	}
}

// P1: the calls of an Env end without a panic, and only read their lists.
func TestEnvCalls(t *testing.T) {
	given := lists()
	for _, e := range []*soft.Env{nil, {}} {
		e.Flags()
		e.Batch(nil)
		e.Batch([][]soft.Record{})
		e.Batch(given)
		for _, l := range given {
			for range e.Run(l) {
			}
			for range e.Run(l) {
				break
			}
		}
	}
	for i, l := range lists() {
		if !slices.Equal(l, given[i]) {
			t.Errorf("P1: list %d was changed: %v", i, given[i])
		}
	}
}

// P1: a nil *Env answers, and keeps nothing.
func TestNilEnv(t *testing.T) {
	var e *soft.Env
	l := []soft.Record{rounds, cleared, invalid, badCode}
	for range 2 {
		if got := told(t, e.Run(l), 0); !slices.Equal(got, answers(l)) {
			t.Errorf("P4: %v", got)
		}
		expectBatch(t, e, [][]soft.Record{l, nil, l[1:]}, 0)
	}
}

// P1: lists that are answered are new, each time, and share nothing among themselves.
func TestNewLists(t *testing.T) {
	var e soft.Env
	first, second := e.Batch(lists()), e.Batch(lists())
	for i, l := range first {
		if len(l) != len(lists()[i]) {
			t.Fatalf("P5: list %d: %d results", i, len(l))
		}
		mark := soft.Result{Bits: 77}
		for k := range l {
			l[k] = mark
		}
		_ = append(l, mark)
		for k := range second[i] {
			if second[i][k] == mark {
				t.Errorf("P1: result %d of list %d stands in two answers", k, i)
			}
		}
		if i+1 < len(first) && slices.Contains(first[i+1], mark) {
			t.Errorf("P1: lists %d and %d share memory", i, i+1)
		}
	}
}
