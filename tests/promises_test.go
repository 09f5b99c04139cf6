package tests

import (
	"fmt"
	"testing"

	"loop.example/g01281/impl"
)

// The tests of this file are for promise 16, which is about all chapters: what one function finds, others confirm.

func TestPlacingsBalance(t *testing.T) {
	for _, w := range []impl.Weights{{1, 3, 9}, {1, 2, 4, 8}, {1, 1, 1}, {5, 7, 11, 30}, {2, 2, 3, 3, 10}, {2000}} {
		sum, _ := impl.SumOfWeights(w)
		found := 0
		for mass := range sum + 2 {
			for _, both := range []bool{false, true} {
				name := fmt.Sprint(impl.WeightsText(w), ": ", mass, both)
				can, code := impl.CanWeigh(w, mass, both)
				if code == impl.ErrRange {
					continue
				}
				p, code := impl.PlacingFor(w, mass, both)
				want(t, name+" is weighed", code == impl.OK, can)
				if !can {
					continue
				}
				found++
				want(t, name+" is balanced", all(impl.MassOf(w, p)), all(mass, int64(0)))
				want(t, name+" is seen", all(impl.Tilt(w, p, mass)), all(int64(0), int64(0)))
			}
		}
		want(t, "some are weighed", found > 2, true)
	}
}

func TestWaysEndAsTold(t *testing.T) {
	for _, text := range []string{"0/3 0/5 tap", "8/8 0/5 0/3", "12/12 0/8 0/5", "0/4 0/6 tap", "3/7 1/4 2/5", "0/60 tap"} {
		p := puzzle(t, text)
		table, _ := impl.StepsTable(p)
		want(t, text+": proof", all(impl.CheckTable(p, table)), all(true, int64(0)))
		for index, steps := range table {
			w, _ := impl.WaterAt(p, int64(index))
			way, code := impl.WayTo(p, w)
			name := fmt.Sprint(text, ": ", w)
			want(t, name+" is reached", code == impl.OK, steps >= 0)
			if steps >= 0 {
				want(t, name+" is the end", all(impl.DoMoves(p, p.Start, way)), all(w, int64(0)))
				want(t, name+" is not reached in less", len(way), int(steps))
			}
		}
		for amount := range int64(impl.MaxJug + 1) {
			way, code := impl.WayToAmount(p, amount)
			name := fmt.Sprint(text, ": ", amount)
			if code == impl.ErrNotFound {
				wantZero(t, name, impl.ErrNotFound, all(impl.LeastStepsTo(p, table, amount)))
				continue
			}
			end, code := impl.DoMoves(p, p.Start, way)
			want(t, name, all(holds(p, end, amount), code), all(true, int64(0)))
			want(t, name+" is not had in less", all(impl.LeastStepsTo(p, table, amount)), all(int64(len(way)), int64(0)))
		}
	}
}

func TestCrossingsEndAsTold(t *testing.T) {
	for _, text := range []string{"3 1 ab bc", "1 1", "5 2 ab bc cd de ae", "8 4 ab cd ef gh", "4 2 ab bc cd ad", "3 0 ab", "8 1 abcdefgh"} {
		f := ferry(t, text)
		table, _ := impl.CrossingsTable(f)
		want(t, text+": proof", all(impl.CheckCrossings(f, table)), all(true, int64(0)))
		loads, code := impl.ShortestCrossing(f)
		if code == impl.ErrNotFound {
			wantZero(t, text, impl.ErrNotFound, all(impl.LeastCrossings(f, table)))
			continue
		}
		want(t, text+": end", all(impl.CrossAll(f, loads)), all(impl.Bank{Far: true}, int64(0)))
		want(t, text+": not with fewer", all(impl.LeastCrossings(f, table)), all(int64(len(loads)), int64(0)))
	}
}

func TestTurnsMeasureTheirTime(t *testing.T) {
	for _, text := range []string{"0/4 0/7", "4/4 7/7", "0/7 0/11", "3/13 0/20", "0/3 0/5 0/8", "1/2 0/3 1/3 2/2", "0/40"} {
		g, tops := glasses(t, text)
		times, code := impl.TimesFrom(g, tops, impl.MaxTime)
		want(t, text, all(len(times) > 3, code), all(true, int64(0)))
		for _, time := range times {
			plan, code := impl.PlanFrom(g, tops, time)
			want(t, fmt.Sprint(text, ": ", time), code, int64(0))
			checkMeasures(t, g, tops, plan, time)
			for fewer := range min(len(plan), 13) {
				want(t, fmt.Sprint(text, ": ", time, " with ", fewer), all(impl.PlansFor(g, tops, time, int64(fewer))), all(int64(0), int64(0)))
			}
		}
	}
}
