package instr_test

import (
	"math"
	"testing"

	"scriptorium/instr"
)

// Every instruction has its operands, and nothing else has some.
func TestOperands(t *testing.T) {
	for _, x := range []struct {
		a, b, c int
		ops     []int
	}{
		{instr.Number, instr.Any, instr.Any, []int{instr.Step}},
		{instr.Register, instr.Any, instr.Any, []int{instr.Share, instr.MakeTable, instr.Visit, instr.Return}},
		{instr.Register, instr.Register, instr.Any, []int{instr.Move, instr.Fetch, instr.Store, instr.Not, instr.Minus, instr.Len}},
		{instr.Register, instr.Register, instr.Register, []int{instr.Index, instr.SetIndex, instr.Add, instr.Sub, instr.Mul, instr.Div, instr.Mod, instr.Join, instr.Same, instr.Other, instr.Less, instr.Most, instr.More, instr.Least}},
		{instr.Register, instr.OfConst, instr.Any, []int{instr.Const}},
		{instr.Register, instr.OfFunc, instr.Any, []int{instr.MakeFunc}},
		{instr.Register, instr.OfTaken, instr.Any, []int{instr.FetchTaken}},
		{instr.OfTaken, instr.Register, instr.Any, []int{instr.StoreTaken}},
		{instr.Register, instr.Arguments, instr.Any, []int{instr.Call}},
		{instr.Any, instr.OfCode, instr.Any, []int{instr.Jump}},
		{instr.Register, instr.OfCode, instr.Any, []int{instr.JumpIf, instr.JumpElse}},
		{instr.Register3, instr.OfCode, instr.Any, []int{instr.Next}},
		{instr.Register4, instr.OfCode, instr.Any, []int{instr.Count, instr.Again}},
	} {
		for _, op := range x.ops {
			if l, ok := instr.Operands(op); !ok || l != [3]int{x.a, x.b, x.c} {
				t.Errorf("Operands(%d) is %v, %v", op, l, ok)
			}
		}
	}
	for op := instr.Step; op <= instr.Return; op++ {
		if _, ok := instr.Operands(op); !ok {
			t.Errorf("there is no instruction %d", op)
		}
	}
	for _, op := range []int{instr.Step - 1, instr.Return + 1, -1, math.MinInt, math.MaxInt} {
		if l, ok := instr.Operands(op); ok || l != [3]int{} {
			t.Errorf("Operands(%d) is %v, %v", op, l, ok)
		}
	}
}
