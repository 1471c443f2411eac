package interfere_test

import (
	"testing"

	"spillframe/api"
	"spillframe/interfere"
	"spillframe/liveness"
	"spillframe/machrun"
	"spillframe/sirrun"
)

// What P18.1 says about bytes: slots that Graph does not join may have the same bytes, and only slots that Strict does not join may overlap in any way. Functions are run with such bytes for their slots.

const (
	frameSize = 256
	stepsMax  = 200
)

// placed returns the target of a function whose slots have these offsets.
func placed(f api.Func, off []int) api.Target {
	code := make([]api.Instr, len(f.Code))
	for k, x := range f.Code {
		switch x.Op {
		case api.Load:
			x.B, x.C = off[x.B], f.Slots[x.B].Size
		case api.Store:
			x.A, x.C = off[x.A], f.Slots[x.A].Size
		case api.Move:
			x.A, x.B, x.C = off[x.A], off[x.B], f.Slots[x.A].Size
		}
		code[k] = x
	}
	return api.Target{Align: 16, Frames: []api.Frame{{Size: frameSize, Code: code}}}
}

// tellingFunc returns a right function that outputs what it reads. Most of the slots that it reads are written before.
func tellingFunc(c *chance, length int) api.Func {
	sizes := [...]int{8, 8, 2, 2, 4, 16}
	f := api.Func{Code: []api.Instr{{Op: api.In, A: 0}, {Op: api.In, A: 1}, {Op: api.In, A: 2}}}
	for range 2 + c.below(4) {
		size := sizes[c.below(len(sizes))]
		f.Slots = append(f.Slots, api.Slot{Size: size, Align: size})
	}
	written := []int{}
	for len(f.Code) < length {
		a := c.below(len(f.Slots))
		switch c.below(9) {
		case 0, 1, 2:
			f.Code = append(f.Code, api.Instr{Op: api.Pair, A: 3, B: c.below(3), C: c.below(3)}, api.Instr{Op: api.Store, A: a, B: 3})
			written = append(written, a)
		case 3, 4, 5:
			if len(written) > 0 {
				f.Code = append(f.Code, api.Instr{Op: api.Load, A: 4, B: written[c.below(len(written))]}, api.Instr{Op: api.Out, A: 4})
			}
		case 6, 7:
			if len(written) > 0 {
				b := written[c.below(len(written))]
				if f.Slots[a].Size == f.Slots[b].Size {
					f.Code = append(f.Code, api.Instr{Op: api.Move, A: a, B: b})
					written = append(written, a)
				}
			}
		case 8:
			to := min(3+c.below(length), len(f.Code)+1) // often backwards, where the rest of the input decides
			f.Code = append(f.Code, api.Instr{Op: api.In, A: 5}, api.Instr{Op: api.Branch, A: 5, B: to}, api.Instr{Op: api.Out, A: 0})
		}
	}
	f.Code = append(f.Code, api.Instr{Op: api.Return})
	return f
}

// runs counts runs of targets by whether they end as the source does.
type runs struct {
	same, other int
}

// count runs f with slot y so many bytes after slot x, and all other slots apart, for each input on which its run ends.
func (r *runs) count(t *testing.T, f api.Func, x, y, delta int) {
	t.Helper()
	off := make([]int, len(f.Slots))
	for s := range off {
		off[s] = 64 + 16*s
	}
	off[x], off[y] = 32, 32+delta
	for _, input := range [][]uint64{{1<<64 - 2, 0x1122334455667788, 3}, {0xA1B2C3D4E5F60718, 5, 1 << 63, 1, 1}, {7, 0x0102030405060708, 9, 0, 1, 0, 1}} {
		want, e := sirrun.Run(api.Program{Funcs: []api.Func{f}}, input, stepsMax)
		if e != api.OK {
			t.Fatalf("the run of %v has the error %d", f, e)
		}
		if !sirrun.Ends(want) {
			continue
		}
		got, e := machrun.Run(placed(f, off), input, stepsMax, frameSize)
		if e != api.OK {
			t.Fatalf("the run of %v with the offsets %v has the error %d", f, off, e)
		}
		if sirrun.Same(got, want) {
			r.same++
		} else {
			r.other++
		}
	}
}

// bothSizes reports whether two slots have the same size, and can so have the same bytes.
func bothSizes(f api.Func, x, y int) bool {
	return f.Slots[x].Size == f.Slots[y].Size
}

// shared lets each two slots of one size have the same bytes, and counts the runs of those that Graph does not join, and of those that it joins.
func shared(t *testing.T, f api.Func, g [][]int) (free, joined runs) {
	t.Helper()
	for x := range f.Slots {
		for y := range x {
			if !bothSizes(f, x, y) {
				continue
			}
			if live(g[x], y) {
				joined.count(t, f, x, y, 0)
			} else {
				free.count(t, f, x, y, 0)
			}
		}
	}
	return free, joined
}

// overlapped lets each two slots overlap in all ways, and counts the runs of those that Strict does not join, and of those that it joins.
func overlapped(t *testing.T, f api.Func, g [][]int) (free, joined runs) {
	t.Helper()
	for x := range f.Slots {
		for y := range x {
			for delta := 1 - f.Slots[y].Size; delta < f.Slots[x].Size; delta++ {
				if live(g[x], y) {
					joined.count(t, f, x, y, delta)
				} else {
					free.count(t, f, x, y, delta)
				}
			}
		}
	}
	return free, joined
}

// add adds the runs of r, of which none may have another end.
func (sum *runs) add(t *testing.T, f api.Func, g [][]int, r runs) {
	t.Helper()
	if r.other > 0 {
		t.Fatalf("with the graph %v %d runs of %v have another end", g, r.other, f)
	}
	sum.same += r.same
}

func TestRuns(t *testing.T) {
	c := chance(34)
	var together, apart, over, overApart runs
	for range 1500 {
		f := tellingFunc(&c, 8+c.below(20))
		l := liveness.Solve(f)
		g, e := interfere.Graph(f, l)
		s, eStrict := interfere.Strict(f, l)
		if e != api.OK || eStrict != api.OK {
			t.Fatalf("Graph and Strict of %v have the errors %d and %d", f, e, eStrict)
		}
		free, joined := shared(t, f, g)
		together.add(t, f, g, free)
		apart.other += joined.other
		free, joined = overlapped(t, f, s)
		over.add(t, f, s, free)
		overApart.other += joined.other
	}
	// The functions tell the difference: joined slots that share bytes change many runs.
	for _, n := range []int{together.same, apart.other, over.same, overApart.other} {
		if n < 300 {
			t.Errorf("there are too few runs: %d and %d of slots that may share bytes, and %d and %d others that have another end", together.same, over.same, apart.other, overApart.other)
		}
	}
	t.Log(together, apart, over, overApart)
}
