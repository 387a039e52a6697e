package soft

import (
	"slices"
	"sync"
	"sync/atomic"
)

// Env has flags, none at first. (A nil *Env answers as well, and keeps none.)
type Env struct {
	flags atomic.Uint32
}

// Flags are the flags now (P4).
func (e *Env) Flags() uint8 {
	if e == nil {
		return 0
	}
	return uint8(e.flags.Load())
}

// Run is to be ranged over: it tells the records' places and results, and keeps their flags (P4).
func (e *Env) Run(l []Record) func(yield func(int, Result) bool) {
	records := slices.Clone(l) // the caller may change its own list ahead of the loop
	return func(yield func(int, Result) bool) {
		for i, r := range records {
			out := Do(r)
			if r.Op == codeClear && !out.Bad {
				e.drop()
			}
			e.raise(out.Flags)
			if !yield(i, out) {
				return
			}
		}
	}
}

// Batch does the lists side by side (P5).
func (e *Env) Batch(ls [][]Record) [][]Result {
	out := make([][]Result, len(ls))
	var workers sync.WaitGroup
	for i, l := range ls {
		results := make([]Result, len(l))
		out[i] = results
		workers.Add(1)
		go func() {
			defer workers.Done()
			e.fill(results, l)
		}()
	}
	workers.Wait()
	return out
}

// fill answers a list. A clear raises nothing, and so needs no case here.
func (e *Env) fill(results []Result, l []Record) {
	for i, r := range l {
		results[i] = Do(r)
		e.raise(results[i].Flags)
	}
}

func (e *Env) raise(flags uint8) {
	if e != nil {
		e.flags.Or(uint32(flags))
	}
}

func (e *Env) drop() {
	if e != nil {
		e.flags.Store(0)
	}
}
