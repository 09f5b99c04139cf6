package tests

import (
	"fmt"
	"math"
	"reflect"
	"slices"
	"strings"
	"testing"

	"loop.example/g01281/impl"
)

// graph is a model of a puzzle of its own: all waters, and what can be done with each one.
type graph struct {
	p      impl.Puzzle
	waters []impl.Water
	number map[impl.Water]int
	edges  [][]edge
}

type edge struct {
	m  impl.Move
	to int
}

// allWaters gives out the waters of jugs in the order of their numbers: the jug 0 changes first.
func allWaters(jugs []int16) []impl.Water {
	list := []impl.Water{{}}
	for i, jug := range jugs {
		var next []impl.Water
		for amount := int16(0); amount <= jug; amount++ {
			for _, w := range list {
				w[i] = amount
				next = append(next, w)
			}
		}
		list = next
	}
	return list
}

func graphOf(p impl.Puzzle) graph {
	g := graph{p: p, waters: allWaters(p.Jugs), number: map[impl.Water]int{}}
	for i, w := range g.waters {
		g.number[w] = i
	}
	for _, w := range g.waters {
		g.edges = append(g.edges, g.edgesFrom(w))
	}
	return g
}

func (g graph) edgesFrom(w impl.Water) []edge {
	var list []edge
	add := func(kind, from, to int, next impl.Water) {
		if next != w {
			list = append(list, edge{impl.Move{Kind: int8(kind), From: int8(from), To: int8(to)}, g.number[next]})
		}
	}
	for from := range g.p.Jugs {
		for to, jug := range g.p.Jugs {
			next := w
			for from != to && next[from] > 0 && next[to] < jug {
				next[from]--
				next[to]++
			}
			add(impl.MvPour, from, to, next)
		}
	}
	for kind := impl.MvFill; g.p.Tap && kind <= impl.MvEmpty; kind++ {
		for i, jug := range g.p.Jugs {
			next := w
			if next[i] = 0; kind == impl.MvFill {
				next[i] = jug
			}
			add(kind, i, 0, next)
		}
	}
	return list
}

// steps relaxes all edges until nothing changes; backwards, it tells the steps that lead to a water.
func (g graph) steps(start int, backwards bool) []int {
	dist := slices.Repeat([]int{-1}, len(g.waters))
	dist[start] = 0
	for changed := true; changed; {
		changed = false
		for i, list := range g.edges {
			for _, e := range list {
				a, b := i, e.to
				if backwards {
					a, b = b, a
				}
				if dist[a] >= 0 && (dist[b] < 0 || dist[b] > dist[a]+1) {
					dist[b] = dist[a] + 1
					changed = true
				}
			}
		}
	}
	return dist
}

// firstWay goes from Start to a water by the first move that comes nearer to it.
func (g graph) firstWay(target int) ([]impl.Move, bool) {
	left := g.steps(target, true)
	at := g.number[g.p.Start]
	way := []impl.Move{}
	if left[at] < 0 {
		return nil, false
	}
	for left[at] > 0 {
		k := slices.IndexFunc(g.edges[at], func(e edge) bool { return left[e.to] == left[at]-1 })
		way = append(way, g.edges[at][k].m)
		at = g.edges[at][k].to
	}
	return way, true
}

func compareMoves(a, b impl.Move) int {
	return slices.Compare([]int8{a.Kind, a.From, a.To}, []int8{b.Kind, b.From, b.To})
}

func puzzle(t *testing.T, text string) impl.Puzzle {
	t.Helper()
	p, code := impl.ReadPuzzle(text)
	want(t, "code of "+text, code, int64(impl.OK))
	return p
}

var puzzleTexts = []string{
	"0/1", "1/1", "0/1 tap", "3/5 tap", "2/5", "0/3 0/5 tap", "3/3 0/5", "2/4 0/6", "2/4 0/6 tap", "1/2 1/2",
	"8/8 0/5 0/3", "8/8 0/5 0/3 tap", "1/3 1/5 tap", "4/6 2/9 3/3", "0/6 0/10 tap", "0/6 5/10 0/15",
	"1/1 0/1 1/1 0/1 tap", "0/1 2/2 1/3 4/4", "3/4 0/3 1/2 0/1 tap", "0/2 0/2 0/2 0/2", "0/60 tap", "7/8 0/3 2/4 1/2",
}

func somePuzzles(t *testing.T) []impl.Puzzle {
	t.Helper()
	var list []impl.Puzzle
	for _, text := range puzzleTexts {
		p := puzzle(t, text)
		want(t, "text", impl.PuzzleText(p), text)
		list = append(list, p)
	}
	return list
}

func badPuzzles() []impl.Puzzle {
	return []impl.Puzzle{
		{}, {Jugs: []int16{}}, {Tap: true}, {Jugs: []int16{0}}, {Jugs: []int16{61}}, {Jugs: []int16{-1}},
		{Jugs: []int16{3, 0}}, {Jugs: []int16{3, 61}}, {Jugs: []int16{1, 1, 1, 1, 1}}, {Jugs: []int16{math.MaxInt16}},
		{Jugs: []int16{math.MinInt16, math.MinInt16}}, {Jugs: []int16{-3, -3}, Tap: true}, {Jugs: []int16{math.MaxInt16, math.MaxInt16, math.MaxInt16, math.MaxInt16}},
		{Jugs: []int16{60, 40, 1}}, {Jugs: []int16{60, 60, 60, 60}}, {Jugs: []int16{9, 9, 50}},
		{Jugs: []int16{3}, Start: impl.Water{4}}, {Jugs: []int16{3}, Start: impl.Water{-1}},
		{Jugs: []int16{3}, Start: impl.Water{0, 1}}, {Jugs: []int16{3, 5}, Start: impl.Water{0, 0, 0, -1}},
		{Jugs: []int16{3, 5}, Start: impl.Water{0, 6}, Tap: true}, {Jugs: make([]int16, 1000000)},
	}
}

func badWaters() []impl.Water {
	return []impl.Water{
		{-1, 0}, {0, -1}, {4, 0}, {0, 6}, {0, 0, 1}, {0, 0, 0, 1}, {0, 0, -1}, {0, 0, 0, -1},
		{math.MaxInt16}, {math.MinInt16}, {0, 0, math.MinInt16, math.MaxInt16},
	}
}

func TestPouringsExample(t *testing.T) {
	p := puzzle(t, "0/3 0/5 tap")
	want(t, "waters", all(impl.StatesOf(p)), all(int64(24), int64(0)))
	way, code := impl.WayToAmount(p, 4)
	want(t, "way", all(impl.MovesText(way), code), all("+b b>a -a b>a +b b>a", int64(0)))
	want(t, "amounts", all(impl.AmountsIn(p)), all([]int64{0, 1, 2, 3, 4, 5}, int64(0)))
	want(t, "number", all(impl.StateIndex(p, impl.Water{3, 4})), all(int64(19), int64(0)))
	want(t, "water", all(impl.WaterAt(p, 19)), all(impl.Water{3, 4}, int64(0)))
	q := puzzle(t, "8/8 0/5 0/3")
	want(t, "waters", all(impl.StatesOf(q)), all(int64(216), int64(0)))
	want(t, "reached", all(impl.ReachedStates(q)), all(int64(16), int64(0)))
	want(t, "step", all(impl.StepOfJugs(q)), all(int64(1), int64(0)))
	want(t, "limits", []int{impl.MaxJugs, impl.MaxJug, impl.MaxStates, impl.MaxWay}, []int{4, 60, 5000, 200})
	want(t, "kinds", []int{impl.MvPour, impl.MvFill, impl.MvEmpty}, []int{0, 1, 2})
}

func TestValidPuzzles(t *testing.T) {
	for _, p := range []impl.Puzzle{
		{Jugs: []int16{60}}, {Jugs: []int16{60, 60}, Start: impl.Water{60, 60}}, {Jugs: []int16{4, 9, 9, 9}, Tap: true},
		{Jugs: []int16{9, 9, 49}}, {Jugs: []int16{1, 1, 1, 1}}, {Jugs: []int16{1, 3, 5, 7}, Start: impl.Water{1, 3, 5, 7}},
	} {
		want(t, fmt.Sprint("valid ", p), impl.ValidPuzzle(p), true)
		want(t, fmt.Sprint("start ", p), impl.ValidWater(p, p.Start), true)
	}
	want(t, "most waters", all(impl.StatesOf(impl.Puzzle{Jugs: []int16{4, 9, 9, 9}})), all(int64(impl.MaxStates), int64(0)))
	p := puzzle(t, "0/3 0/5")
	for _, w := range badWaters() {
		want(t, fmt.Sprint("water ", w), impl.ValidWater(p, w), false)
	}
	for _, w := range allWaters(p.Jugs) {
		want(t, fmt.Sprint("water ", w), impl.ValidWater(p, w), true)
	}
}

// TestInvalidPuzzlesComeFirst calls every function with other arguments that have errors, too.
func TestInvalidPuzzlesComeFirst(t *testing.T) {
	for i, p := range badPuzzles() {
		name := fmt.Sprint("puzzle ", i)
		want(t, name, impl.ValidPuzzle(p), false)
		want(t, name, impl.PuzzleText(p), "")
		want(t, name, impl.ValidWater(p, impl.Water{}), false)
		checkInvalidWater(t, name, p, impl.Water{})
		for _, n := range append([]int64{0, 1}, badNumbers...) {
			wantZero(t, name, impl.ErrInvalid, all(impl.WaterAt(p, n)))
			wantZero(t, name, impl.ErrInvalid, all(impl.WayToAmount(p, n)))
			wantZero(t, name, impl.ErrInvalid, all(impl.LeastStepsTo(p, nil, n)))
			wantZero(t, name, impl.ErrInvalid, all(impl.LeastStepsTo(p, []int16{0, 1, 2, 3}, n)))
		}
		for _, table := range [][]int16{nil, {0}, {0, 1, 2, 3}, {-2, -2}} {
			wantZero(t, name, impl.ErrInvalid, all(impl.CheckTable(p, table)))
			wantZero(t, name, impl.ErrInvalid, all(impl.FirstBroken(p, table)))
		}
		wantZero(t, name, impl.ErrInvalid, all(impl.StatesOf(p)))
		wantZero(t, name, impl.ErrInvalid, all(impl.StepsTable(p)))
		wantZero(t, name, impl.ErrInvalid, all(impl.AmountsIn(p)))
		wantZero(t, name, impl.ErrInvalid, all(impl.HardestWater(p)))
		wantZero(t, name, impl.ErrInvalid, all(impl.ReachedStates(p)))
		wantZero(t, name, impl.ErrInvalid, all(impl.StepOfJugs(p)))
	}
	p := puzzle(t, "0/3 0/5 tap")
	for _, w := range badWaters() {
		checkInvalidWater(t, fmt.Sprint("water ", w), p, w)
	}
}

func checkInvalidWater(t *testing.T, name string, p impl.Puzzle, w impl.Water) {
	t.Helper()
	wantZero(t, name, impl.ErrInvalid, all(impl.StateIndex(p, w)))
	wantZero(t, name, impl.ErrInvalid, all(impl.MovesFrom(p, w)))
	wantZero(t, name, impl.ErrInvalid, all(impl.WayTo(p, w)))
	wantZero(t, name, impl.ErrInvalid, all(impl.DoMove(p, w, impl.Move{Kind: 3})))
	wantZero(t, name, impl.ErrInvalid, all(impl.DoMove(p, w, impl.Move{})))
	wantZero(t, name, impl.ErrInvalid, all(impl.DoMoves(p, w, nil)))
	wantZero(t, name, impl.ErrInvalid, all(impl.DoMoves(p, w, make([]impl.Move, impl.MaxWay+1))))
}

func TestNumbersOfWaters(t *testing.T) {
	for _, p := range somePuzzles(t) {
		waters := allWaters(p.Jugs)
		count := int64(len(waters))
		want(t, "waters", all(impl.StatesOf(p)), all(count, int64(0)))
		for i, w := range waters {
			want(t, fmt.Sprint("number of ", w), all(impl.StateIndex(p, w)), all(int64(i), int64(0)))
			want(t, fmt.Sprint("water at ", i), all(impl.WaterAt(p, int64(i))), all(w, int64(0)))
		}
		for _, n := range []int64{-1, count, count + 1, math.MinInt64, math.MaxInt64, 1 << 32, 1 << 16} {
			wantZero(t, fmt.Sprint("water at ", n), impl.ErrRange, all(impl.WaterAt(p, n)))
		}
	}
}

// moveCode tells which error a move has, or 0 if it may be made.
func moveCode(p impl.Puzzle, m impl.Move) int64 {
	count := int8(len(p.Jugs))
	pours := m.Kind == impl.MvPour
	switch {
	case m.Kind < 0 || m.Kind > 2 || m.From < 0 || m.From >= count || pours && (m.To < 0 || m.To >= count) || !pours && m.To != 0:
		return impl.ErrRange
	case pours && m.From == m.To || !pours && !p.Tap:
		return impl.ErrState
	}
	return impl.OK
}

// TestMoves tries all kinds and jugs, those that are none, too, with all waters.
func TestMoves(t *testing.T) {
	numbers := []int8{-128, -1, 0, 1, 2, 3, 4, 127}
	for _, p := range somePuzzles(t) {
		g := graphOf(p)
		for i, w := range g.waters {
			list, code := impl.MovesFrom(p, w)
			want(t, "moves", all(len(list), code), all(len(g.edges[i]), int64(0)))
			next := map[impl.Move]impl.Water{}
			for k, e := range g.edges[i] {
				next[e.m] = g.waters[e.to]
				want(t, fmt.Sprint("move ", k, " of ", w), list[k], e.m)
			}
			for n := range 8 * 8 * 8 {
				m := impl.Move{Kind: numbers[n%8], From: numbers[n/8%8], To: numbers[n/64]}
				checkMove(t, p, w, m, next)
			}
		}
	}
}

func checkMove(t *testing.T, p impl.Puzzle, w impl.Water, m impl.Move, next map[impl.Move]impl.Water) {
	t.Helper()
	wanted, known := next[m]
	code := moveCode(p, m)
	if code == impl.OK && !known {
		code = impl.ErrState
	}
	got, gotCode := impl.DoMove(p, w, m)
	if got != wanted || gotCode != code {
		t.Errorf("%v, %v, %v: got %v, %d, want %v, %d", p, w, m, got, gotCode, wanted, code)
	}
	got, gotCode = impl.DoMoves(p, w, []impl.Move{m})
	if got != wanted || gotCode != code {
		t.Errorf("list of %v, %v, %v: got %v, %d, want %v, %d", p, w, m, got, gotCode, wanted, code)
	}
}

func TestMovesInOrder(t *testing.T) {
	p := puzzle(t, "0/3 0/5 tap")
	for _, c := range []struct {
		w    impl.Water
		text string
	}{
		{impl.Water{3, 2}, "a>b +b -a -b"}, {impl.Water{}, "+a +b"}, {impl.Water{3, 5}, "-a -b"},
		{impl.Water{1, 1}, "a>b b>a +a +b -a -b"}, {impl.Water{0, 5}, "b>a +a -b"},
	} {
		list, code := impl.MovesFrom(p, c.w)
		want(t, fmt.Sprint(c), all(impl.MovesText(list), code), all(c.text, int64(0)))
		want(t, fmt.Sprint(c), slices.IsSortedFunc(list, compareMoves), true)
	}
	list, code := impl.MovesFrom(puzzle(t, "0/3 0/5"), impl.Water{})
	want(t, "none", all(len(list), code), all(0, int64(0)))
}

func TestListsOfMoves(t *testing.T) {
	p := puzzle(t, "0/3 0/5 tap")
	fill, empty := impl.Move{Kind: impl.MvFill}, impl.Move{Kind: impl.MvEmpty}
	list := slices.Repeat([]impl.Move{fill, empty}, impl.MaxWay/2)
	want(t, "no moves", all(impl.DoMoves(p, impl.Water{2, 1}, nil)), all(impl.Water{2, 1}, int64(0)))
	want(t, "most moves", all(impl.DoMoves(p, p.Start, list)), all(impl.Water{}, int64(0)))
	want(t, "odd", all(impl.DoMoves(p, p.Start, list[1:])), all(impl.Water{}, int64(impl.ErrState)))
	wantZero(t, "too many", impl.ErrLimit, all(impl.DoMoves(p, p.Start, append(list, fill))))
	wantZero(t, "too many bad ones", impl.ErrLimit, all(impl.DoMoves(p, p.Start, slices.Repeat([]impl.Move{{Kind: 3}}, 201))))
	wantZero(t, "very many", impl.ErrLimit, all(impl.DoMoves(p, p.Start, make([]impl.Move, 1000000))))
	bad := impl.Move{Kind: 3}
	wantZero(t, "range first", impl.ErrRange, all(impl.DoMoves(p, p.Start, []impl.Move{fill, bad, fill})))
	wantZero(t, "state first", impl.ErrState, all(impl.DoMoves(p, p.Start, []impl.Move{fill, fill, bad})))
	wantZero(t, "state last", impl.ErrState, all(impl.DoMoves(p, p.Start, []impl.Move{fill, {To: 1}, {To: 1}})))
	want(t, "two", all(impl.DoMoves(p, p.Start, []impl.Move{fill, {To: 1}, fill, {To: 1}})), all(impl.Water{1, 5}, int64(0)))
}

// TestWaysToWaters is for promise 5: what is found is held against steps and ways that are found otherwise.
func TestWaysToWaters(t *testing.T) {
	for _, p := range somePuzzles(t) {
		g := graphOf(p)
		dist := g.steps(g.number[p.Start], false)
		table, code := impl.StepsTable(p)
		want(t, "length", all(len(table), code), all(len(dist), int64(0)))
		for i, w := range g.waters {
			name := fmt.Sprint(impl.PuzzleText(p), ", ", w)
			want(t, "steps "+name, int(table[i]), dist[i])
			wanted, known := g.firstWay(i)
			way, code := impl.WayTo(p, w)
			if !known {
				wantZero(t, "way "+name, impl.ErrNotFound, all(way, code))
				continue
			}
			want(t, "way "+name, all(append([]impl.Move{}, way...), code), all(wanted, int64(0)))
			want(t, "steps of way "+name, len(way), dist[i])
			want(t, "end "+name, all(impl.DoMoves(p, p.Start, way)), all(w, int64(0)))
		}
		checkReached(t, g, dist)
	}
}

func checkReached(t *testing.T, g graph, dist []int) {
	t.Helper()
	name := impl.PuzzleText(g.p)
	count, hardest := 0, 0
	amounts := map[int64]bool{}
	for i, steps := range dist {
		if steps > dist[hardest] {
			hardest = i
		}
		if steps < 0 {
			continue
		}
		count++
		for k := range g.p.Jugs {
			amounts[int64(g.waters[i][k])] = true
		}
	}
	var list []int64
	for amount := range amounts {
		list = append(list, amount)
	}
	slices.Sort(list)
	want(t, "reached "+name, all(impl.ReachedStates(g.p)), all(int64(count), int64(0)))
	want(t, "hardest "+name, all(impl.HardestWater(g.p)), all(g.waters[hardest], int64(dist[hardest]), int64(0)))
	want(t, "amounts "+name, all(impl.AmountsIn(g.p)), all(list, int64(0)))
}

// TestWaysToAmounts is for promise 5, with the first of all first ways that are shortest.
func TestWaysToAmounts(t *testing.T) {
	for _, p := range somePuzzles(t) {
		g := graphOf(p)
		dist := g.steps(g.number[p.Start], false)
		table, _ := impl.StepsTable(p)
		for amount := int64(0); amount <= impl.MaxJug; amount++ {
			var best []impl.Move
			for i, w := range g.waters {
				if dist[i] < 0 || !holds(p, w, amount) || best != nil && dist[i] > len(best) {
					continue
				}
				way, _ := g.firstWay(i)
				if best == nil || len(way) < len(best) || slices.CompareFunc(way, best, compareMoves) < 0 {
					best = way
				}
			}
			checkAmount(t, p, table, amount, best)
		}
	}
}

func holds(p impl.Puzzle, w impl.Water, amount int64) bool {
	for i := range p.Jugs {
		if int64(w[i]) == amount {
			return true
		}
	}
	return false
}

func checkAmount(t *testing.T, p impl.Puzzle, table []int16, amount int64, best []impl.Move) {
	t.Helper()
	name := fmt.Sprint(impl.PuzzleText(p), ", ", amount)
	if best == nil {
		wantZero(t, "way "+name, impl.ErrNotFound, all(impl.WayToAmount(p, amount)))
		wantZero(t, "least "+name, impl.ErrNotFound, all(impl.LeastStepsTo(p, table, amount)))
		return
	}
	way, code := impl.WayToAmount(p, amount)
	want(t, "way "+name, all(append([]impl.Move{}, way...), code), all(best, int64(0)))
	want(t, "least "+name, all(impl.LeastStepsTo(p, table, amount)), all(int64(len(best)), int64(0)))
	end, code := impl.DoMoves(p, p.Start, way)
	want(t, "end "+name, all(holds(p, end, amount), code), all(true, int64(0)))
}

func TestAmountsAreInRange(t *testing.T) {
	p := puzzle(t, "1/3 2/5")
	table, _ := impl.StepsTable(p)
	for _, amount := range []int64{-1, 61, math.MinInt64, math.MaxInt64, 1 << 16, 1<<16 + 1, 1<<32 + 1} {
		wantZero(t, "way", impl.ErrRange, all(impl.WayToAmount(p, amount)))
		wantZero(t, "least", impl.ErrRange, all(impl.LeastStepsTo(p, table, amount)))
		wantZero(t, "least without a proof", impl.ErrRange, all(impl.LeastStepsTo(p, make([]int16, len(table)-1), amount)))
		wantZero(t, "least of no proof", impl.ErrRange, all(impl.LeastStepsTo(p, slices.Repeat([]int16{-1}, len(table)), amount)))
	}
	wantZero(t, "short table", impl.ErrRange, all(impl.LeastStepsTo(p, table[1:], 1)))
	wantZero(t, "no proof", impl.ErrProof, all(impl.LeastStepsTo(p, slices.Repeat([]int16{-1}, len(table)), 60)))
	wantZero(t, "none", impl.ErrNotFound, all(impl.WayToAmount(p, 60)))
	wantZero(t, "none", impl.ErrNotFound, all(impl.LeastStepsTo(p, table, 60)))
	want(t, "at once", all(impl.LeastStepsTo(p, table, 2)), all(int64(0), int64(0)))
	// The jugs that are not there do not hold 0.
	full := puzzle(t, "3/3 5/5")
	wantZero(t, "no 0", impl.ErrNotFound, all(impl.WayToAmount(full, 0)))
	way, code := impl.WayToAmount(puzzle(t, "1/3 1/2"), 0)
	want(t, "0", all(impl.MovesText(way), code), all("a>b", int64(0)))
}

// broken tells by the document's words for which waters a table is no proof, and the first one of them.
func (g graph) broken(table []int16) (int64, bool) {
	for i, number := range table {
		told := int(number)
		if told < -1 || i == g.number[g.p.Start] && told != 0 {
			return int64(i), true
		}
		for _, e := range g.edges[i] {
			if told != -1 && (table[e.to] == -1 || int(table[e.to]) > told+1) {
				return int64(i), true
			}
		}
	}
	return 0, false
}

func checkTable(t *testing.T, g graph, table []int16) bool {
	t.Helper()
	name := fmt.Sprint(impl.PuzzleText(g.p), table[:min(len(table), 30)])
	index, isBroken := g.broken(table)
	want(t, "proof "+name, all(impl.CheckTable(g.p, table)), all(!isBroken, int64(0)))
	if isBroken {
		want(t, "broken "+name, all(impl.FirstBroken(g.p, table)), all(index, int64(0)))
		wantZero(t, "least "+name, impl.ErrProof, all(impl.LeastStepsTo(g.p, table, 0)))
		return false
	}
	wantZero(t, "broken "+name, impl.ErrNotFound, all(impl.FirstBroken(g.p, table)))
	return true
}

// TestTables is for promise 5: the table of a puzzle is a proof, and one that says less may be, but none that says more.
func TestTables(t *testing.T) {
	for _, p := range somePuzzles(t) {
		g := graphOf(p)
		table, _ := impl.StepsTable(p)
		want(t, "own table", checkTable(t, g, table), true)
		for _, change := range []func(int16) int16{
			func(n int16) int16 { return min(n, 1) }, func(n int16) int16 { return min(n, 3) }, func(int16) int16 { return 0 },
			func(n int16) int16 { return n / 2 }, func(n int16) int16 { return max(n, 0) },
			func(n int16) int16 { return n - 1 }, func(n int16) int16 { return n + 1 }, func(n int16) int16 { return -n }, func(n int16) int16 { return 2 * n },
		} {
			other := slices.Clone(table)
			for i, n := range other {
				other[i] = change(n)
			}
			if checkTable(t, g, other) {
				checkProof(t, g, table, other)
			}
		}
		for i := 0; i < len(table); i += 1 + len(table)/40 {
			for _, n := range []int16{-1, -2, 0, 1, 2, 9, table[i] + 1, table[i] - 1, math.MaxInt16, math.MinInt16} {
				other := slices.Clone(table)
				other[i] = n
				if checkTable(t, g, other) {
					checkProof(t, g, table, other)
				}
			}
		}
	}
}

// checkProof checks that nothing is reached in fewer moves than a proof says.
func checkProof(t *testing.T, g graph, table, proof []int16) {
	t.Helper()
	for i, steps := range table {
		if steps >= 0 && (proof[i] < 0 || proof[i] > steps) {
			t.Errorf("%s: a proof says %d of %v, which has %d steps", impl.PuzzleText(g.p), proof[i], g.waters[i], steps)
		}
	}
	for amount := range int64(10) {
		least := int64(-1)
		for i, n := range proof {
			if n >= 0 && holds(g.p, g.waters[i], amount) && (least < 0 || int64(n) < least) {
				least = int64(n)
			}
		}
		if least < 0 {
			wantZero(t, "least", impl.ErrNotFound, all(impl.LeastStepsTo(g.p, proof, amount)))
		} else {
			want(t, "least", all(impl.LeastStepsTo(g.p, proof, amount)), all(least, int64(0)))
		}
	}
}

func TestTablesOfOtherLengths(t *testing.T) {
	p := puzzle(t, "0/3 0/5 tap")
	for _, length := range []int{0, 1, 23, 25, 48, 1000000} {
		table := make([]int16, length)
		wantZero(t, "check", impl.ErrRange, all(impl.CheckTable(p, table)))
		wantZero(t, "broken", impl.ErrRange, all(impl.FirstBroken(p, table)))
		wantZero(t, "least", impl.ErrRange, all(impl.LeastStepsTo(p, table, 1)))
		table = slices.Repeat([]int16{-5}, length)
		wantZero(t, "check", impl.ErrRange, all(impl.CheckTable(p, table)))
		wantZero(t, "broken", impl.ErrRange, all(impl.FirstBroken(p, table)))
		wantZero(t, "least", impl.ErrRange, all(impl.LeastStepsTo(p, table, 1)))
	}
	greatest := slices.Repeat([]int16{math.MaxInt16}, 24)
	greatest[0] = 0
	want(t, "greatest numbers", all(impl.FirstBroken(p, greatest)), all(int64(0), int64(0)))
	alone := puzzle(t, "0/1")
	want(t, "not reached", all(impl.CheckTable(alone, []int16{0, math.MaxInt16})), all(true, int64(0)))
	want(t, "greatest least", all(impl.LeastStepsTo(alone, []int16{0, math.MaxInt16}, 1)), all(int64(math.MaxInt16), int64(0)))
}

// TestFirstBrokenOfSeveral has broken waters in all parts of a table: the first one counts, however many there are.
func TestFirstBrokenOfSeveral(t *testing.T) {
	p := impl.Puzzle{Jugs: []int16{4, 9, 9, 9}, Tap: true}
	table, _ := impl.StepsTable(p)
	want(t, "proof", all(impl.CheckTable(p, table)), all(true, int64(0)))
	g := graphOf(p)
	for at := len(table) - 1; at >= 0; at -= 311 {
		table[at] = -2
		index, _ := g.broken(table)
		for range 3 {
			want(t, "first", all(impl.FirstBroken(p, table)), all(index, int64(0)))
		}
		want(t, "proof", all(impl.CheckTable(p, table)), all(false, int64(0)))
	}
}

// TestSumsAndSteps is for promise 6.
func TestSumsAndSteps(t *testing.T) {
	sum := func(w impl.Water) (n int) {
		for _, amount := range w {
			n += int(amount)
		}
		return n
	}
	for _, p := range somePuzzles(t) {
		name := impl.PuzzleText(p)
		step, code := impl.StepOfJugs(p)
		want(t, "step "+name, all(step, code), all(greatestStep(p), int64(0)))
		table, _ := impl.StepsTable(p)
		for i, w := range allWaters(p.Jugs) {
			moves, _ := impl.MovesFrom(p, w)
			for _, m := range moves {
				next, code := impl.DoMove(p, w, m)
				want(t, "code "+name, code, int64(impl.OK))
				want(t, "valid "+name, impl.ValidWater(p, next), true)
				if m.Kind == impl.MvPour {
					want(t, fmt.Sprint("sum ", w, m), sum(next), sum(w))
				}
			}
			for _, amount := range w {
				if table[i] >= 0 && int64(amount)%step != 0 {
					t.Errorf("%s: %v can be reached, by steps of %d", name, w, step)
				}
			}
			if table[i] >= 0 && !p.Tap {
				want(t, "sum of all "+name, sum(w), sum(p.Start))
			}
		}
		amounts, _ := impl.AmountsIn(p)
		for _, amount := range amounts {
			want(t, fmt.Sprint("amount ", amount, " of ", name), amount%step, int64(0))
		}
	}
}

// greatestStep tries all divisors.
func greatestStep(p impl.Puzzle) int64 {
	for step := int16(impl.MaxJug); ; step-- {
		divides := true
		for i, jug := range p.Jugs {
			divides = divides && jug%step == 0 && p.Start[i]%step == 0
		}
		if divides {
			return int64(step)
		}
	}
}

func TestStepsOfJugs(t *testing.T) {
	for text, step := range map[string]int64{
		"0/60": 60, "60/60": 60, "30/60": 30, "0/6 0/10 tap": 2, "0/6 5/10 0/15": 1, "0/6 3/9 0/15": 3, "2/4 0/6": 2, "8/8 0/5 0/3": 1, "0/1": 1,
	} {
		want(t, text, all(impl.StepOfJugs(puzzle(t, text))), all(step, int64(0)))
	}
}

// TestLargePuzzles has puzzles with as many waters as there may be, or nearly so.
func TestLargePuzzles(t *testing.T) {
	for _, p := range []impl.Puzzle{
		{Jugs: []int16{60, 59}, Tap: true}, {Jugs: []int16{60, 60}, Tap: true}, {Jugs: []int16{4, 9, 9, 9}, Start: impl.Water{0, 9, 0, 7}},
		{Jugs: []int16{49, 9, 9}, Start: impl.Water{49, 0, 0}}, {Jugs: []int16{60, 26, 2}, Start: impl.Water{29, 26, 1}},
	} {
		g := graphOf(p)
		dist := g.steps(g.number[p.Start], false)
		table, code := impl.StepsTable(p)
		want(t, "code", code, int64(impl.OK))
		for i, steps := range table {
			want(t, "steps", int(steps), dist[i])
		}
		want(t, "proof", all(impl.CheckTable(p, table)), all(true, int64(0)))
		checkReached(t, g, dist)
		w, steps, _ := impl.HardestWater(p)
		way, _ := impl.WayTo(p, w)
		wanted, _ := g.firstWay(g.number[w])
		want(t, "hardest way", way, wanted)
		want(t, "hardest steps", int64(len(way)), steps)
		if len(way) <= impl.MaxWay {
			want(t, "hardest end", all(impl.DoMoves(p, p.Start, way)), all(w, int64(0)))
		}
	}
}

func TestTextsOfPuzzles(t *testing.T) {
	for _, text := range append(puzzleTexts, "60/60 60/60 tap", "0/4 0/9 0/9 9/9", "10/20") {
		p, code := impl.ReadPuzzle(text)
		want(t, "read "+text, all(impl.PuzzleText(p), code, impl.ValidPuzzle(p)), all(text, int64(0), true))
	}
	want(t, "read", all(impl.ReadPuzzle("1/3 0/5 tap")), all(impl.Puzzle{Jugs: []int16{3, 5}, Start: impl.Water{1}, Tap: true}, int64(0)))
	want(t, "read", all(impl.ReadPuzzle("0/10 2/20")), all(impl.Puzzle{Jugs: []int16{10, 20}, Start: impl.Water{0, 2}}, int64(0)))
	for _, text := range []string{
		"", " ", "tap", " tap", "tap 0/3", "0/3 tap tap", "0/3  tap", "0/3 tap ", " 0/3", "0/3 ", "0/3  0/5", "0/3\n", "0/3\ttap",
		"0/3 Tap", "0/3tap", "0/3 ta", "0/3 0/5 taps", "00/3", "0/03", "+0/3", "0/+3", "-0/3", "0/-3", "-1/3", "0/3/4", "0", "3", "0/", "/3", "/",
		"4/3", "0/61", "0/0", "0/1 0/1 0/1 0/1 0/1", "0/1 0/1 0/1 0/1 0/1 tap", "0/60 0/40 0/1", "0/65539", "65536/3", "0/4294967299", "0x1/3", "1_0/20",
		"0/3,0/5", "0 / 3", "0/3 5", "a/3", "0/b", "0/99999999999999999999", "0/3.0", "\x000/3", strings.Repeat("0/1 ", 250000), strings.Repeat("1", 1000000), strings.Repeat(" ", 1000000),
	} {
		wantZero(t, fmt.Sprintf("read %.40q", text), impl.ErrSyntax, all(impl.ReadPuzzle(text)))
	}
}

func TestTextsOfMoves(t *testing.T) {
	list := []impl.Move{
		{Kind: impl.MvFill, From: 1}, {From: 1}, {Kind: impl.MvEmpty}, {From: 3, To: 2}, {Kind: impl.MvFill, From: 3}, {Kind: impl.MvEmpty, From: 2}, {},
	}
	text := "+b b>a -a d>c +d -c a>a"
	want(t, "text", impl.MovesText(list), text)
	want(t, "read", all(impl.ReadMoves(text)), all(list, int64(0)))
	none, code := impl.ReadMoves("")
	want(t, "empty", all(len(none), code, impl.MovesText(nil), impl.MovesText([]impl.Move{})), all(0, int64(0), "", ""))
	longest := strings.Repeat("c>d ", impl.MaxWay-1) + "+a"
	most, code := impl.ReadMoves(longest)
	want(t, "most", all(len(most), code, impl.MovesText(most)), all(impl.MaxWay, int64(0), longest))
	want(t, "too many", impl.MovesText(append(most, impl.Move{})), "")
	want(t, "very many", impl.MovesText(make([]impl.Move, 1000000)), "")
	for _, text := range []string{
		longest + " +a", strings.Repeat("+a ", 300000), strings.Repeat("a", 1000000), " ", "+", "-", ">", "a", "+e", "-e", "a>e", "e>a", "a>", ">a", "a<b", "A>b", "a>B", "+A",
		"+a ", " +a", "+a  +b", "+a\n", "+ab", "a>b>c", "a >b", "a>b,b>a", "+a\t+b", "+0", "0>1", "a-b", "+a-a", "++a", "a>>b", "+`", "*a", "\x00", "+a \xff",
	} {
		wantZero(t, fmt.Sprintf("read %.40q", text), impl.ErrSyntax, all(impl.ReadMoves(text)))
	}
}

// TestTextsOfAnyMoves tries all kinds and jugs: only moves that can be told have a text, each one of its own.
func TestTextsOfAnyMoves(t *testing.T) {
	numbers := []int8{-128, -1, 0, 1, 2, 3, 4, 127}
	seen := map[string]bool{}
	for n := range 8 * 8 * 8 {
		m := impl.Move{Kind: numbers[n%8], From: numbers[n/8%8], To: numbers[n/64]}
		told := moveCode(impl.Puzzle{Jugs: make([]int16, impl.MaxJugs)}, m) != impl.ErrRange
		text := impl.MovesText([]impl.Move{m})
		want(t, fmt.Sprint("told ", m), text != "" && !seen[text], told)
		want(t, fmt.Sprint("in a list ", m), impl.MovesText([]impl.Move{{}, m, {}}) != "", told)
		if told {
			seen[text] = true
			want(t, "read "+text, all(impl.ReadMoves(text)), all([]impl.Move{m}, int64(0)))
		}
	}
	want(t, "texts", len(seen), 24)
}

// TestPouringsArePure is for promise 1: arguments stay as they are, with the rest of their memory, and results are the same again.
func TestPouringsArePure(t *testing.T) {
	for _, text := range []string{"0/3 0/5 tap", "8/8 0/5 0/3", "2/4 0/6"} {
		p := puzzle(t, text)
		moves, _ := impl.MovesFrom(p, p.Start)
		table, _ := impl.StepsTable(p)
		bad := slices.Clone(table)
		bad[len(bad)-1] = -2
		var wholeJugs []int16
		wholeJugs, p.Jugs = spare(p.Jugs, 77)
		wholeMoves, moves := spare(moves[:1], impl.Move{Kind: 77})
		wholeTable, table := spare(table, 77)
		wholeBad, bad := spare(bad, 77)
		call := func() []any {
			return []any{
				impl.ValidPuzzle(p), impl.ValidWater(p, p.Start), all(impl.StatesOf(p)), all(impl.StateIndex(p, p.Start)), all(impl.WaterAt(p, 1)),
				all(impl.DoMove(p, p.Start, moves[0])), all(impl.MovesFrom(p, p.Start)), all(impl.DoMoves(p, p.Start, moves)), all(impl.StepsTable(p)),
				all(impl.CheckTable(p, table)), all(impl.FirstBroken(p, bad)), all(impl.FirstBroken(p, table)), all(impl.WayTo(p, impl.Water{0, 2})),
				all(impl.WayToAmount(p, 2)), all(impl.LeastStepsTo(p, table, 2)), all(impl.AmountsIn(p)), all(impl.HardestWater(p)), all(impl.ReachedStates(p)),
				all(impl.StepOfJugs(p)), impl.PuzzleText(p), impl.MovesText(moves), all(impl.ReadPuzzle(text)), all(impl.ReadMoves("+a a>b")),
			}
		}
		before := fmt.Sprint(wholeJugs, wholeMoves, wholeTable, wholeBad)
		first := call()
		for range 3 {
			want(t, "again "+text, call(), first)
		}
		want(t, "arguments", fmt.Sprint(wholeJugs, wholeMoves, wholeTable, wholeBad), before)
	}
}

// TestPouringsAreNew changes results, which must not change later ones.
func TestPouringsAreNew(t *testing.T) {
	p := puzzle(t, "0/3 0/5 tap")
	table, _ := impl.StepsTable(p)
	way, _ := impl.WayToAmount(p, 4)
	amounts, _ := impl.AmountsIn(p)
	moves, _ := impl.MovesFrom(p, p.Start)
	read, _ := impl.ReadMoves("+a +b")
	kept := []any{slices.Clone(table), slices.Clone(way), slices.Clone(amounts), slices.Clone(moves), slices.Clone(read)}
	clear(table)
	clear(way)
	clear(amounts)
	clear(moves[:cap(moves)])
	clear(read)
	table, _ = impl.StepsTable(p)
	way, _ = impl.WayToAmount(p, 4)
	amounts, _ = impl.AmountsIn(p)
	moves, _ = impl.MovesFrom(p, p.Start)
	read, _ = impl.ReadMoves("+a +b")
	if !reflect.DeepEqual([]any{table, way, amounts, moves, read}, kept) {
		t.Errorf("results share memory with later ones")
	}
}
