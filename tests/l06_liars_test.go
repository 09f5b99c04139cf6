package tests

import (
	"fmt"
	"math"
	"runtime"
	"slices"
	"strings"
	"testing"
	"time"

	"loop.example/g01281/impl"
)

// The model of these tests has sets as binary digits, and states as lists with an entry for each candidate.

type binary [64]bool

func binaryOf(set uint64) binary {
	var b binary
	for i, digit := range fmt.Sprintf("%064b", set) {
		b[63-i] = digit == '1'
	}
	return b
}

func setWith(list ...int64) uint64 {
	set := uint64(0)
	for _, number := range list {
		worth := uint64(1)
		for range number {
			worth += worth
		}
		set += worth
	}
	return set
}

// talk is a model of a game: for each number, the questions that have been answered wrong, if it is the one.
type talk struct {
	most  int
	wrong [][]int64
	asked int64
}

func newTalk(numbers, most int64) *talk {
	return &talk{most: int(most), wrong: make([][]int64, numbers)}
}

func (w *talk) hear(set uint64, yes bool) {
	in := binaryOf(set)
	for number := range w.wrong {
		if in[number] && !yes || !in[number] && yes {
			w.wrong[number] = append(w.wrong[number], w.asked)
		}
	}
	w.asked++
}

func talkOf(g impl.Game) *talk {
	w := newTalk(int64(g.Numbers), int64(g.Lies))
	for _, q := range g.Asked {
		w.hear(q.Set, q.Yes)
	}
	return w
}

// sorted has the candidates of each sort.
func (w *talk) sorted() [][]int64 {
	list := make([][]int64, w.most+1)
	for number, wrong := range w.wrong {
		if len(wrong) <= w.most {
			list[len(wrong)] = append(list[len(wrong)], int64(number))
		}
	}
	return list
}

func (w *talk) candidates() []int64 {
	list := slices.Concat(w.sorted()...)
	slices.Sort(list)
	return list
}

func (w *talk) state() impl.State {
	var x impl.State
	for i, list := range w.sorted() {
		x[i] = int64(len(list))
	}
	return x
}

func (w *talk) set(ask impl.State) uint64 {
	var chosen []int64
	for i, list := range w.sorted() {
		chosen = append(chosen, list[:ask[i]]...)
	}
	return setWith(chosen...)
}

// halved rounds the odd numbers up and down in turn.
func halved(x impl.State) impl.State {
	odd := int64(0)
	for i := range x {
		if x[i]%2 == 1 {
			odd++
			x[i] += odd%2*2 - 1
		}
		x[i] /= 2
	}
	return x
}

// played is a model of a game that is played.
func played(numbers, lies, secret int64, wrong []bool) (impl.Game, int64, int64) {
	g := impl.Game{Numbers: int8(numbers), Lies: int8(lies)}
	w := newTalk(numbers, lies)
	for {
		list := w.candidates()
		switch {
		case len(list) == 0:
			return impl.Game{}, 0, impl.ErrProof
		case len(list) == 1:
			return g, list[0], impl.OK
		case len(g.Asked) == 60:
			return impl.Game{}, 0, impl.ErrBudget
		}
		set := w.set(halved(w.state()))
		yes := binaryOf(set)[secret]
		if k := len(g.Asked); k < len(wrong) && wrong[k] {
			yes = !yes
		}
		w.hear(set, yes)
		g.Asked = append(g.Asked, impl.Ask{Set: set, Yes: yes})
	}
}

// crowd has an entry for each candidate of a state: its sort.
func crowd(x impl.State) []int {
	var list []int
	for i, count := range x {
		list = append(list, slices.Repeat([]int{i}, int(count))...)
	}
	return list
}

// split asks about the first ones of each sort.
func split(lies int64, x, ask impl.State) (yes, no impl.State) {
	count := func(to *impl.State, sort int) {
		if int64(sort) <= lies {
			to[sort]++
		}
	}
	for _, sort := range crowd(x) {
		if ask[sort] > 0 {
			ask[sort]--
			count(&yes, sort)
			count(&no, sort+1)
		} else {
			count(&no, sort)
			count(&yes, sort+1)
		}
	}
	return yes, no
}

// asksIn has all asks, the first one as a list first.
func asksIn(x impl.State) []impl.State {
	list := []impl.State{{}}
	for i := range x {
		var longer []impl.State
		for _, ask := range list {
			for ask[i] = 0; ask[i] <= x[i]; ask[i]++ {
				longer = append(longer, ask)
			}
		}
		list = longer
	}
	return list
}

// statesUpTo has all states with at most so many candidates that are valid for lies.
func statesUpTo(lies, most int64) []impl.State {
	var whole impl.State
	for i := range lies + 1 {
		whole[i] = most
	}
	return slices.DeleteFunc(asksIn(whole), func(x impl.State) bool { return len(crowd(x)) > int(most) })
}

// anyState has as many candidates as told, of any sorts.
func anyState(n *numbers, lies, count int) impl.State {
	var x impl.State
	for range count {
		x[n.below(lies+1)]++
	}
	return x
}

func someStates(lies int64) []impl.State {
	list := statesUpTo(lies, 4)
	n := numbers(lies)
	for _, count := range []int{5, 8, 9, 15, 16, 30, 31, 59, 60, 60, 60} {
		list = append(list, anyState(&n, int(lies), count))
	}
	for i := range lies + 1 {
		var x impl.State
		x[i] = impl.MaxNumbers
		list = append(list, x)
	}
	return list
}

// anyGame has questions about any numbers, and any answers.
func anyGame(n *numbers, count, lies, asked int) impl.Game {
	g := impl.Game{Numbers: int8(count), Lies: int8(lies)}
	for range asked {
		q := impl.Ask{Yes: n.below(2) == 0}
		for number := range count {
			if n.below(2) == 0 {
				q.Set += setWith(int64(number))
			}
		}
		g.Asked = append(g.Asked, q)
	}
	return g
}

// someGames has candidates in most games: the answers of many are right for some number, but for a few.
func someGames() []impl.Game {
	var list []impl.Game
	n := numbers(6)
	for _, count := range []int{1, 2, 3, 4, 7, 8, 20, 59, 60} {
		for lies := range 4 {
			for _, asked := range []int{0, 1, 2, 5, 9, 60} {
				g := anyGame(&n, count, lies, asked)
				list = append(list, g)
				truth := impl.Game{Numbers: g.Numbers, Lies: g.Lies, Asked: slices.Clone(g.Asked)}
				secret := int64(n.below(count))
				for i, q := range truth.Asked {
					truth.Asked[i].Yes = binaryOf(q.Set)[secret] != (i%7 == 1 && i/7 < lies)
				}
				list = append(list, truth)
			}
		}
	}
	return list
}

func badGames() []impl.Game {
	list := []impl.Game{{}, {Numbers: 2, Asked: make([]impl.Ask, 61)}, {Numbers: 60, Lies: 3, Asked: make([]impl.Ask, 1000000)}}
	for _, count := range []int8{0, -1, 61, 62, 63, 64, 65, 127, -128} {
		list = append(list, impl.Game{Numbers: count}, impl.Game{Numbers: count, Lies: 3, Asked: []impl.Ask{{Set: 1, Yes: true}}})
	}
	for _, lies := range []int8{-1, 4, 5, 127, -128} {
		list = append(list, impl.Game{Numbers: 2, Lies: lies}, impl.Game{Numbers: 60, Lies: lies, Asked: []impl.Ask{{Set: 3}}})
	}
	for _, set := range []uint64{4, 5, 8, 1 << 32, 1 << 60, 1 << 63, 1<<63 + 1, math.MaxUint64} {
		list = append(list,
			impl.Game{Numbers: 2, Lies: 1, Asked: []impl.Ask{{Set: set, Yes: true}}}, impl.Game{Numbers: 2, Lies: 1, Asked: []impl.Ask{{Set: 3}, {Set: set}}},
			impl.Game{Numbers: 2, Lies: 1, Asked: []impl.Ask{{Set: set}, {Set: 1}}})
	}
	return append(list,
		impl.Game{Numbers: 60, Asked: []impl.Ask{{Set: 1 << 60}}}, impl.Game{Numbers: 60, Asked: []impl.Ask{{Set: 1 << 63, Yes: true}}},
		impl.Game{Numbers: 1, Asked: []impl.Ask{{Set: 2}}}, impl.Game{Numbers: 59, Asked: []impl.Ask{{Set: 1 << 59}}})
}

type badState struct {
	lies int64
	x    impl.State
}

func badStates() []badState {
	list := []badState{
		{0, impl.State{61}}, {3, impl.State{30, 30, 0, 1}}, {3, impl.State{0, 0, 0, 61}}, {3, impl.State{15, 15, 15, 16}}, {3, impl.State{60, 60, 60, 60}},
		{3, impl.State{math.MaxInt64}}, {3, impl.State{1, math.MaxInt64, math.MaxInt64, 3}}, {3, impl.State{1 << 62, 1 << 62, 1 << 62, 1 << 62}},
		{3, impl.State{math.MinInt64, math.MinInt64}}, {3, impl.State{math.MinInt64, math.MaxInt64, 1, 1}}, {1, impl.State{2, -1}}, {3, impl.State{-1, 2, 2, 2}}, {3, impl.State{61, -1}},
	}
	for lies := range int64(4) {
		for i := range 4 {
			x := impl.State{1, 0, 0, 0}
			x[i] = -1
			list = append(list, badState{lies, x})
			x[i] = 1
			if int64(i) > lies {
				list = append(list, badState{lies, x})
			}
		}
	}
	for _, lies := range append([]int64{4, 5, 63}, badNumbers...) {
		list = append(list, badState{lies, impl.State{}}, badState{lies, impl.State{2}}, badState{lies, impl.State{1, 1, 1, 1}}, badState{lies, impl.State{60, -1}})
	}
	return list
}

func TestLiarsExample(t *testing.T) {
	want(t, "questions", all(impl.LeastQuestions(1, impl.State{2, 0})), all(int64(3), int64(0)))
	want(t, "weight", all(impl.WeightOf(1, impl.State{2, 0}, 3)), all(int64(8), int64(0)))
	want(t, "by weight", all(impl.LeastByWeight(1, impl.State{2, 0})), all(int64(3), int64(0)))
	want(t, "half", all(impl.HalfOf(1, impl.State{3, 1})), all(impl.State{2, 0}, int64(0)))
	g, found, code := impl.PlayGame(2, 1, 1, nil)
	want(t, "played", all(g, found, code), all(impl.Game{Numbers: 2, Lies: 1, Asked: []impl.Ask{{Set: 1}, {Set: 2, Yes: true}}}, int64(1), int64(0)))
	g, found, code = impl.PlayGame(2, 1, 1, []bool{true})
	want(t, "played with a lie", all(len(g.Asked), found, code), all(3, int64(1), int64(0)))
	want(t, "limits", []int{impl.MaxNumbers, impl.MaxLies, impl.MaxAsked, impl.MaxExact, impl.MaxQuestions}, []int{60, 3, 60, 8, 20})
}

func TestValidGames(t *testing.T) {
	for _, g := range append(someGames(),
		impl.Game{Numbers: 1}, impl.Game{Numbers: 60, Lies: 3, Asked: slices.Repeat([]impl.Ask{{Set: 1<<60 - 1, Yes: true}}, 60)},
		impl.Game{Numbers: 1, Asked: []impl.Ask{{}, {Set: 1}, {Set: 1}, {Yes: true}}}, impl.Game{Numbers: 59, Asked: []impl.Ask{{Set: 1 << 58}}}, impl.Game{Numbers: 60, Asked: []impl.Ask{{Set: 1 << 59}}},
	) {
		want(t, fmt.Sprint("valid ", g), impl.ValidGame(g), true)
	}
}

// TestInvalidGamesComeFirst calls every function with other arguments that have errors, too.
func TestInvalidGamesComeFirst(t *testing.T) {
	for i, g := range badGames() {
		name := fmt.Sprint("game ", i)
		want(t, name, impl.ValidGame(g), false)
		want(t, name, impl.GameText(g), "")
		for _, set := range []uint64{0, 1, 4, 1 << 60, math.MaxUint64} {
			wantZero(t, name, impl.ErrInvalid, all(impl.AddAsk(g, set, i%2 == 0)))
		}
		for _, number := range append([]int64{0, 1, 63, 64}, badNumbers...) {
			wantZero(t, name, impl.ErrInvalid, all(impl.LiesFor(g, number)))
			wantZero(t, name, impl.ErrInvalid, all(impl.FirstLies(g, number)))
		}
		for _, ask := range []impl.State{{}, {1}, {-1}, {0, 0, 0, 1}, {61}, {math.MaxInt64, math.MinInt64}} {
			wantZero(t, name, impl.ErrInvalid, all(impl.SetFor(g, ask)))
		}
		wantZero(t, name, impl.ErrInvalid, all(impl.CandidatesOf(g)))
		wantZero(t, name, impl.ErrInvalid, all(impl.StateOf(g)))
		wantZero(t, name, impl.ErrInvalid, all(impl.FoundIn(g)))
		wantZero(t, name, impl.ErrInvalid, all(impl.NextSet(g)))
	}
}

// TestInvalidStatesComeFirst calls every function with other arguments that have errors, too.
func TestInvalidStatesComeFirst(t *testing.T) {
	for _, bad := range badStates() {
		name := fmt.Sprint("state ", bad)
		want(t, name, impl.ValidState(bad.lies, bad.x), false)
		for _, questions := range append([]int64{0, 1, 20, 21, 40, 41}, badNumbers...) {
			wantZero(t, name, impl.ErrInvalid, all(impl.WeightOf(bad.lies, bad.x, questions)))
			wantZero(t, name, impl.ErrInvalid, all(impl.CanFindIn(bad.lies, bad.x, questions)))
			wantZero(t, name, impl.ErrInvalid, all(impl.AskThatDoes(bad.lies, bad.x, questions)))
		}
		for _, ask := range []impl.State{{}, {1}, {-1}, {0, 0, 0, 9}, bad.x} {
			wantZero(t, name, impl.ErrInvalid, all(impl.SplitState(bad.lies, bad.x, ask)))
		}
		wantZero(t, name, impl.ErrInvalid, all(impl.LeastByWeight(bad.lies, bad.x)))
		wantZero(t, name, impl.ErrInvalid, all(impl.HalfOf(bad.lies, bad.x)))
		wantZero(t, name, impl.ErrInvalid, all(impl.LeastQuestions(bad.lies, bad.x)))
	}
	for lies := range int64(4) {
		for _, x := range someStates(lies) {
			want(t, fmt.Sprint("state ", lies, x), impl.ValidState(lies, x), true)
		}
	}
}

func TestNewGames(t *testing.T) {
	for count := int64(1); count <= 60; count++ {
		for lies := range int64(4) {
			g, code := impl.NewGame(count, lies)
			want(t, fmt.Sprint("new ", count, lies), all(impl.SameGame(g, impl.Game{Numbers: int8(count), Lies: int8(lies)}), code), all(true, int64(0)))
		}
	}
	for _, n := range append([]int64{-1, 61, 257, 256 + 60, 1<<32 + 2}, badNumbers...) {
		wantZero(t, "numbers", impl.ErrRange, all(impl.NewGame(n, 1)))
		wantZero(t, "lies", impl.ErrRange, all(impl.NewGame(2, n)))
	}
	wantZero(t, "no numbers", impl.ErrRange, all(impl.NewGame(0, 0)))
	wantZero(t, "many lies", impl.ErrRange, all(impl.NewGame(60, 4)))
}

func TestQuestions(t *testing.T) {
	for _, g := range someGames() {
		full := len(g.Asked) == impl.MaxAsked
		last := setWith(int64(g.Numbers) - 1)
		for _, set := range []uint64{0, 1, last, 2*last - 1} {
			for _, yes := range []bool{false, true} {
				if full {
					wantZero(t, "full", impl.ErrLimit, all(impl.AddAsk(g, set, yes)))
					continue
				}
				more, code := impl.AddAsk(g, set, yes)
				wanted := impl.Game{Numbers: g.Numbers, Lies: g.Lies, Asked: append(slices.Clone(g.Asked), impl.Ask{Set: set, Yes: yes})}
				want(t, "asked", all(more, code), all(wanted, int64(0)))
			}
		}
		for _, set := range []uint64{2 * last, 2*last + 1, 1 << 60, 1<<63 + 1, math.MaxUint64} {
			wantZero(t, "numbers of no game", impl.ErrRange, all(impl.AddAsk(g, set, true)))
		}
	}
}

func TestCandidates(t *testing.T) {
	for i, g := range someGames() {
		w := talkOf(g)
		name := fmt.Sprint("game ", i)
		for number, wrong := range w.wrong {
			want(t, name, all(impl.LiesFor(g, int64(number))), all(int64(len(wrong)), int64(0)))
			list, code := impl.FirstLies(g, int64(number))
			want(t, name, all(slices.Equal(list, wrong), code), all(true, int64(0)))
		}
		for _, number := range append([]int64{int64(g.Numbers), int64(g.Numbers) + 1, 63, 64, 256}, badNumbers...) {
			wantZero(t, name, impl.ErrRange, all(impl.LiesFor(g, number)))
			wantZero(t, name, impl.ErrRange, all(impl.FirstLies(g, number)))
		}
		list, code := impl.CandidatesOf(g)
		want(t, name, all(slices.Equal(list, w.candidates()), code), all(true, int64(0)))
		want(t, name, all(impl.StateOf(g)), all(w.state(), int64(0)))
		switch list := w.candidates(); len(list) {
		case 0:
			wantZero(t, name, impl.ErrProof, all(impl.FoundIn(g)))
		case 1:
			want(t, name, all(impl.FoundIn(g)), all(list[0], int64(0)))
		default:
			wantZero(t, name, impl.ErrState, all(impl.FoundIn(g)))
		}
	}
}

// game asks the questions, of one number each, with their answers: "2y" and "2n".
func game(t *testing.T, count, lies int64, asked ...string) impl.Game {
	t.Helper()
	g, code := impl.NewGame(count, lies)
	for _, q := range asked {
		want(t, "code of a game", code, int64(0))
		g, code = impl.AddAsk(g, setWith(int64(q[0]-'0')), q[1] == 'y')
	}
	want(t, "code of a game", code, int64(0))
	return g
}

// TestLastLies has candidates for which as many answers are wrong as may be, and others for which one more is.
func TestLastLies(t *testing.T) {
	for lies := range int64(4) {
		var asked []string
		for k := range lies {
			asked = append(asked, "0n")
			g := game(t, 2, lies, asked...)
			x := impl.State{1}
			x[k+1] = 1
			want(t, "state", all(impl.StateOf(g)), all(x, int64(0)))
			wantZero(t, "both", impl.ErrState, all(impl.FoundIn(g)))
		}
		g := game(t, 2, lies, append(asked, "0n")...)
		want(t, "one lie more", all(impl.CandidatesOf(g)), all([]int64{1}, int64(0)))
		want(t, "one lie more", all(impl.StateOf(g)), all(impl.State{1}, int64(0)))
		want(t, "one lie more", all(impl.FoundIn(g)), all(int64(1), int64(0)))
		want(t, "one lie more", all(impl.LiesFor(g, 0)), all(lies+1, int64(0)))
		for range lies + 1 {
			asked = append(asked, "0n", "1n")
		}
		g = game(t, 2, lies, asked...)
		list, code := impl.CandidatesOf(g)
		want(t, "nobody", all(len(list), code), all(0, int64(0)))
		want(t, "nobody", all(impl.StateOf(g)), all(impl.State{}, int64(0)))
		want(t, "nobody", all(impl.NextSet(g)), all(uint64(0), int64(0)))
		wantZero(t, "nobody", impl.ErrProof, all(impl.FoundIn(g)))
	}
	want(t, "0 alone", all(impl.FoundIn(game(t, 1, 0))), all(int64(0), int64(0)))
	want(t, "0 alone", all(impl.FoundIn(game(t, 2, 0, "0y"))), all(int64(0), int64(0)))
	wantZero(t, "not even 0", impl.ErrProof, all(impl.FoundIn(game(t, 1, 0, "0n"))))
	wantZero(t, "yes and no", impl.ErrProof, all(impl.FoundIn(game(t, 2, 0, "0y", "0n"))))
}

// pascal has the numbers of ways to choose, each of them as the sum of the two above it.
func pascal() [41][5]int64 {
	var rows [41][5]int64
	for q := range rows {
		rows[q][0] = 1
		for j := 1; q > 0 && j < 5; j++ {
			rows[q][j] = rows[q-1][j-1] + rows[q-1][j]
		}
	}
	return rows
}

// weightByLists counts, for each candidate, all lists of right and wrong answers that leave it one.
func weightByLists(lies int64, x impl.State, questions int) int64 {
	count := int64(0)
	for list := range 1 << questions {
		wrong := int64(strings.Count(fmt.Sprintf("%b", list), "1"))
		for i, n := range x {
			if int64(i)+wrong <= lies {
				count += n
			}
		}
	}
	return count
}

func TestWeights(t *testing.T) {
	rows := pascal()
	for lies := range int64(4) {
		for _, x := range someStates(lies) {
			name := fmt.Sprint("weight ", lies, x)
			least := int64(-1)
			for q := range 41 {
				weight := int64(0)
				for i := range lies + 1 {
					for j := range lies - i + 1 {
						weight += x[i] * rows[q][j]
					}
				}
				want(t, name, all(impl.WeightOf(lies, x, int64(q))), all(weight, int64(0)))
				if least < 0 && float64(weight) <= math.Pow(2, float64(q)) {
					least = int64(q)
				}
			}
			want(t, name, all(impl.LeastByWeight(lies, x)), all(least, int64(0)))
			for _, q := range append([]int64{41, 64}, badNumbers...) {
				wantZero(t, name, impl.ErrRange, all(impl.WeightOf(lies, x, q)))
			}
		}
		for _, x := range statesUpTo(lies, 2) {
			for q := range 8 {
				want(t, fmt.Sprint("lists ", lies, x, q), all(impl.WeightOf(lies, x, int64(q))), all(weightByLists(lies, x, q), int64(0)))
			}
		}
	}
	want(t, "most", all(impl.WeightOf(3, impl.State{60}, 40)), all(int64(60*(1+40+780+9880)), int64(0)))
	want(t, "no questions", all(impl.WeightOf(3, impl.State{1, 2, 3, 4}, 0)), all(int64(10), int64(0)))
	want(t, "the last sort", all(impl.WeightOf(3, impl.State{0, 0, 0, 4}, 40)), all(int64(4), int64(0)))
	want(t, "nobody", all(impl.LeastByWeight(3, impl.State{})), all(int64(0), int64(0)))
	want(t, "one alone", all(impl.LeastByWeight(3, impl.State{1})), all(int64(0), int64(0)))
	want(t, "a power of 2", all(impl.LeastByWeight(0, impl.State{32})), all(int64(5), int64(0)))
	want(t, "one more", all(impl.LeastByWeight(0, impl.State{33})), all(int64(6), int64(0)))
}

// TestSplitStates is for promise 12: the weight of a state is that of both states behind a question together.
func TestSplitStates(t *testing.T) {
	n := numbers(12)
	for lies := range int64(4) {
		for _, x := range someStates(lies) {
			asks := asksIn(x)
			for i := 0; i < len(asks); i += 1 + n.below(1+len(asks)/50) {
				checkSplit(t, lies, x, asks[i])
			}
			checkSplit(t, lies, x, x)
			for i := range x {
				for _, count := range []int64{-1, x[i] + 1, math.MaxInt64, math.MinInt64} {
					for _, ask := range []impl.State{{}, x} {
						ask[i] = count
						wantZero(t, fmt.Sprint("split ", lies, x, ask), impl.ErrRange, all(impl.SplitState(lies, x, ask)))
					}
				}
			}
		}
	}
}

func checkSplit(t *testing.T, lies int64, x, ask impl.State) {
	t.Helper()
	name := fmt.Sprint("split ", lies, x, ask)
	yes, no := split(lies, x, ask)
	gotYes, gotNo, code := impl.SplitState(lies, x, ask)
	want(t, name, all(gotYes, gotNo, code), all(yes, no, int64(0)))
	want(t, name, all(impl.ValidState(lies, gotYes), impl.ValidState(lies, gotNo)), all(true, true))
	for _, q := range []int64{1, 2, 3, 4, 5, 11, 39, 40} {
		whole, _ := impl.WeightOf(lies, x, q)
		one, _ := impl.WeightOf(lies, gotYes, q-1)
		other, _ := impl.WeightOf(lies, gotNo, q-1)
		want(t, fmt.Sprint(name, " with ", q), one+other, whole)
	}
}

func TestHalves(t *testing.T) {
	for lies := range int64(4) {
		for _, x := range append(statesUpTo(lies, 9), someStates(lies)...) {
			half, code := impl.HalfOf(lies, x)
			want(t, fmt.Sprint("half ", lies, x), all(half, code), all(halved(x), int64(0)))
			// Somebody is asked about, and somebody is not: so a game that is played is never without candidates.
			asked := len(crowd(half))
			want(t, fmt.Sprint("half ", lies, x), len(crowd(x)) < 2 || asked > 0 && asked < len(crowd(x)), true)
		}
	}
	for _, row := range []struct{ x, half impl.State }{
		{impl.State{}, impl.State{}}, {impl.State{1}, impl.State{1}}, {impl.State{1, 1, 1, 1}, impl.State{1, 0, 1, 0}}, {impl.State{0, 1, 0, 1}, impl.State{0, 1, 0, 0}},
		{impl.State{2, 3, 4, 5}, impl.State{1, 2, 2, 2}}, {impl.State{3, 5, 7, 9}, impl.State{2, 2, 4, 4}}, {impl.State{0, 0, 0, 7}, impl.State{0, 0, 0, 4}}, {impl.State{3, 2, 1, 3}, impl.State{2, 1, 0, 2}},
	} {
		want(t, fmt.Sprint("half ", row.x), all(impl.HalfOf(3, row.x)), all(row.half, int64(0)))
	}
}

// branch is a question in a state.
type branch struct{ ask, yes, no impl.State }

// solver tells by the document's words in which states so many questions can find.
type solver struct {
	lies     int64
	states   []impl.State
	branches map[impl.State][]branch
	can      [21]map[impl.State]bool
}

func solverFor(lies int64) *solver {
	s := &solver{lies: lies, states: statesUpTo(lies, impl.MaxExact), branches: map[impl.State][]branch{}}
	for _, x := range s.states {
		for _, ask := range asksIn(x) {
			yes, no := split(lies, x, ask)
			s.branches[x] = append(s.branches[x], branch{ask, yes, no})
		}
	}
	for q := range s.can {
		s.can[q] = map[impl.State]bool{}
		for _, x := range s.states {
			_, found := s.first(x, q)
			s.can[q][x] = len(crowd(x)) <= 1 || found
		}
	}
	return s
}

func (s *solver) first(x impl.State, questions int) (impl.State, bool) {
	if questions == 0 {
		return impl.State{}, false
	}
	for _, b := range s.branches[x] {
		if s.can[questions-1][b.yes] && s.can[questions-1][b.no] {
			return b.ask, true
		}
	}
	return impl.State{}, false
}

// TestLeastQuestions is for promise 12, too: no fewer questions can find than the weight says.
func TestLeastQuestions(t *testing.T) {
	for lies := range int64(4) {
		s := solverFor(lies)
		for _, x := range s.states {
			name := fmt.Sprint("find ", lies, x)
			least := slices.IndexFunc(s.can[:], func(can map[impl.State]bool) bool { return can[x] })
			want(t, name, all(impl.LeastQuestions(lies, x)), all(int64(least), int64(0)))
			bound, _ := impl.LeastByWeight(lies, x)
			want(t, fmt.Sprint(name, " with ", least, " for ", bound), bound <= int64(least), true)
			for _, q := range []int{0, least - 2, least - 1, least, least + 1, 20} {
				if q >= 0 {
					checkFinds(t, s, x, q)
				}
			}
		}
	}
}

func checkFinds(t *testing.T, s *solver, x impl.State, q int) {
	t.Helper()
	name := fmt.Sprint("find ", s.lies, x, " in ", q)
	want(t, name, all(impl.CanFindIn(s.lies, x, int64(q))), all(s.can[q][x], int64(0)))
	ask, found := s.first(x, q)
	if !found {
		wantZero(t, name, impl.ErrNotFound, all(impl.AskThatDoes(s.lies, x, int64(q))))
		return
	}
	want(t, name, all(impl.AskThatDoes(s.lies, x, int64(q))), all(ask, int64(0)))
}

func TestErrorsOfQuestionsInOrder(t *testing.T) {
	for lies := range int64(4) {
		for _, x := range []impl.State{{}, {1}, {2}, {8}, {9}, {60}} {
			for _, q := range append([]int64{21, 22, 40, 64}, badNumbers...) {
				wantZero(t, "questions", impl.ErrRange, all(impl.CanFindIn(lies, x, q)))
				wantZero(t, "questions", impl.ErrRange, all(impl.AskThatDoes(lies, x, q)))
			}
			for _, q := range []int64{0, 1, 20} {
				if x[0] > 8 {
					wantZero(t, "candidates", impl.ErrLimit, all(impl.CanFindIn(lies, x, q)))
					wantZero(t, "candidates", impl.ErrLimit, all(impl.AskThatDoes(lies, x, q)))
					wantZero(t, "candidates", impl.ErrLimit, all(impl.LeastQuestions(lies, x)))
				}
			}
		}
	}
	wantZero(t, "of all sorts", impl.ErrLimit, all(impl.LeastQuestions(3, impl.State{3, 2, 2, 2})))
	want(t, "8 of all sorts", all(impl.CanFindIn(3, impl.State{2, 2, 2, 2}, 20)), all(true, int64(0)))
	want(t, "8 with 3 lies", all(impl.CanFindIn(3, impl.State{8}, 20)), all(true, int64(0)))
	for _, x := range []impl.State{{}, {1}, {0, 0, 0, 1}} {
		want(t, "found", all(impl.CanFindIn(3, x, 0)), all(true, int64(0)))
		want(t, "found", all(impl.LeastQuestions(3, x)), all(int64(0), int64(0)))
		wantZero(t, "no question", impl.ErrNotFound, all(impl.AskThatDoes(3, x, 0)))
		want(t, "any question", all(impl.AskThatDoes(3, x, 1)), all(impl.State{}, int64(0)))
	}
	want(t, "not found", all(impl.CanFindIn(0, impl.State{2}, 0)), all(false, int64(0)))
	want(t, "more than needed", all(impl.AskThatDoes(0, impl.State{2}, 2)), all(impl.State{}, int64(0)))
	want(t, "as many as needed", all(impl.AskThatDoes(0, impl.State{2}, 1)), all(impl.State{1}, int64(0)))
}

// findsWithSets asks about all sets of numbers themselves: wrong tells for each number how many answers are.
func findsWithSets(wrong [4]int, count, lies, questions int, known map[string]bool) bool {
	key := fmt.Sprint(wrong, questions)
	if can, ok := known[key]; ok {
		return can
	}
	left := 0
	for _, n := range wrong[:count] {
		if n <= lies {
			left++
		}
	}
	can := left <= 1
	for set := 0; set < 1<<count && !can && questions > 0; set++ {
		yes, no := wrong, wrong
		in := binaryOf(uint64(set))
		for i := range count {
			if in[i] {
				no[i]++
			} else {
				yes[i]++
			}
		}
		can = findsWithSets(yes, count, lies, questions-1, known) && findsWithSets(no, count, lies, questions-1, known)
	}
	known[key] = can
	return can
}

func TestStatesTellWhatSetsDo(t *testing.T) {
	for count := 1; count <= 4; count++ {
		for lies := range 3 {
			known := map[string]bool{}
			for q := range 9 {
				can := findsWithSets([4]int{}, count, lies, q, known)
				want(t, fmt.Sprint(count, " numbers, ", lies, " lies, ", q, " questions"), all(impl.CanFindIn(int64(lies), impl.State{int64(count)}, int64(q))), all(can, int64(0)))
			}
		}
	}
}

// TestAsksThatDo is for promise 13: with the questions that are told, whatever is answered, no wrong number is found.
func TestAsksThatDo(t *testing.T) {
	for _, row := range []struct{ count, lies int64 }{{2, 0}, {5, 0}, {8, 0}, {2, 1}, {5, 1}, {8, 1}, {2, 2}, {4, 2}, {2, 3}, {3, 3}} {
		g, _ := impl.NewGame(row.count, row.lies)
		least, code := impl.LeastQuestions(row.lies, impl.State{row.count})
		want(t, "code", code, int64(0))
		askOn(t, g, least)
	}
}

// askOn goes on with both answers until no questions are left.
func askOn(t *testing.T, g impl.Game, left int64) {
	t.Helper()
	w := talkOf(g)
	if left == 0 {
		want(t, impl.GameText(g), len(w.candidates()) <= 1, true)
		return
	}
	ask, code := impl.AskThatDoes(int64(g.Lies), w.state(), left)
	want(t, impl.GameText(g), code, int64(0))
	set, code := impl.SetFor(g, ask)
	want(t, impl.GameText(g), all(set, code), all(w.set(ask), int64(0)))
	yes, no, _ := impl.SplitState(int64(g.Lies), w.state(), ask)
	for _, said := range []bool{false, true} {
		more, code := impl.AddAsk(g, set, said)
		want(t, impl.GameText(g), code, int64(0))
		behind := no
		if said {
			behind = yes
		}
		want(t, "state behind "+impl.GameText(more), all(impl.StateOf(more)), all(behind, int64(0)))
		askOn(t, more, left-1)
	}
}

func TestSetsOfCandidates(t *testing.T) {
	n := numbers(4)
	for i, g := range someGames() {
		w := talkOf(g)
		name := fmt.Sprint("game ", i)
		x := w.state()
		want(t, name, all(impl.NextSet(g)), all(w.set(halved(x)), int64(0)))
		asks := []impl.State{{}, x, halved(x)}
		for range 5 {
			var ask impl.State
			for k := range ask {
				ask[k] = int64(n.below(int(x[k]) + 1))
			}
			asks = append(asks, ask)
		}
		for _, ask := range asks {
			want(t, fmt.Sprint(name, ask), all(impl.SetFor(g, ask)), all(w.set(ask), int64(0)))
			for k := range ask {
				for _, count := range []int64{-1, x[k] + 1, math.MaxInt64, math.MinInt64} {
					other := ask
					other[k] = count
					wantZero(t, fmt.Sprint(name, other), impl.ErrRange, all(impl.SetFor(g, other)))
				}
			}
		}
	}
	want(t, "first ones of both sorts", all(impl.SetFor(game(t, 5, 1, "1n", "3n"), impl.State{2, 1})), all(setWith(0, 2, 1), int64(0)))
	want(t, "behind one that is none", all(impl.SetFor(game(t, 5, 0, "0n"), impl.State{2})), all(setWith(1, 2), int64(0)))
	want(t, "last number", all(impl.SetFor(game(t, 60, 0), impl.State{60})), all(uint64(1<<60-1), int64(0)))
}

func TestAnswers(t *testing.T) {
	for _, set := range []uint64{0, 1, 2, 5, 1 << 59, 1 << 63, 1<<63 + 1, 0xf0f0f0f0f0f0f0f0, math.MaxUint64} {
		in := binaryOf(set)
		for number := range int64(64) {
			want(t, fmt.Sprint(set, number), impl.AnswerTo(set, number, false), in[number])
			want(t, fmt.Sprint(set, number), impl.AnswerTo(set, number, true), !in[number])
		}
		for _, number := range append([]int64{64, 65, 127, 128, 255, 256, -64, -63, 1<<63 - 64}, badNumbers...) {
			want(t, fmt.Sprint(set, number), impl.AnswerTo(set, number, false), false)
			want(t, fmt.Sprint(set, number), impl.AnswerTo(set, number, true), true)
		}
	}
}

// wrongAt has wrong answers to some questions.
func wrongAt(length int, questions ...int) []bool {
	wrong := make([]bool, length)
	for _, k := range questions {
		wrong[k] = true
	}
	return wrong
}

// checkGame is for promise 13, if there are not more wrong answers than told; otherwise any number may be found, as the model tells.
func checkGame(t *testing.T, count, lies, secret int64, wrong []bool) (told int64) {
	t.Helper()
	name := fmt.Sprint("play ", count, lies, secret, wrong)
	wanted, number, wantedCode := played(count, lies, secret, wrong)
	g, found, code := impl.PlayGame(count, lies, secret, wrong)
	if found != number || code != wantedCode || !slices.Equal(g.Asked, wanted.Asked) || g.Numbers != wanted.Numbers || g.Lies != wanted.Lies {
		t.Errorf("%s: got %v %d %d, want %v %d %d", name, g, found, code, wanted, number, wantedCode)
	}
	for k := range g.Asked {
		if k < len(wrong) && wrong[k] {
			told++
		}
	}
	if told <= lies && (found != secret || code != impl.OK) {
		t.Errorf("%s: found %d in spite of %d lies, code %d", name, found, told, code)
	}
	return told
}

func TestGames(t *testing.T) {
	more := 0
	for _, count := range []int64{1, 2, 3, 5, 8} {
		for lies := range int64(4) {
			for list := range 256 {
				wrong := make([]bool, 8)
				for k := range wrong {
					wrong[k] = binaryOf(uint64(list))[k]
				}
				if checkGame(t, count, lies, int64(list)%count, wrong) > lies {
					more++
				}
			}
		}
	}
	want(t, "more lies than told", more > 100, true)
}

// TestGamesOfManyNumbers lies once, twice and thrice, the last time in the last question, too.
func TestGamesOfManyNumbers(t *testing.T) {
	for _, count := range []int64{17, 32, 33, 59, 60} {
		for lies := range int64(4) {
			for _, secret := range []int64{0, 1, count / 2, count - 2, count - 1} {
				honest, _, _ := impl.PlayGame(count, lies, secret, nil)
				last := len(honest.Asked) - 1
				checkGame(t, count, lies, secret, nil)
				checkGame(t, count, lies, secret, wrongAt(last+1, last))
				checkGame(t, count, lies, secret, wrongAt(last+1, 0, last))
				checkGame(t, count, lies, secret, wrongAt(last+1, 0, 1, last))
				for k := range last {
					checkGame(t, count, lies, secret, wrongAt(k+1, k))
					checkGame(t, count, lies, secret, wrongAt(last+10, k, last))
					checkGame(t, count, lies, secret, wrongAt(last+10, k, k+1, k+2, k+3))
				}
				checkGame(t, count, lies, secret, slices.Repeat([]bool{true}, 100))
				checkGame(t, count, lies, secret, wrongAt(1000, 900, 999))
			}
		}
	}
	want(t, "many entries", all(impl.PlayGame(60, 3, 59, make([]bool, 1000000))), all(impl.PlayGame(60, 3, 59, nil)))
}

// longest gives the answers behind which most questions are left, until one candidate is alone.
func longest(t *testing.T, g impl.Game, depth func(impl.State) int) impl.Game {
	t.Helper()
	for {
		x, _ := impl.StateOf(g)
		if depth(x) == 0 {
			return g
		}
		half, _ := impl.HalfOf(int64(g.Lies), x)
		yes, no, _ := impl.SplitState(int64(g.Lies), x, half)
		set, code := impl.NextSet(g)
		want(t, "code of a set", code, int64(0))
		g, code = impl.AddAsk(g, set, depth(yes) > depth(no))
		want(t, "code of a question", code, int64(0))
	}
}

// TestGamesEnd plays the longest games: none needs more questions than may be asked, and none is without candidates.
func TestGamesEnd(t *testing.T) {
	for lies := range int64(4) {
		known := map[impl.State]int{}
		var depth func(x impl.State) int
		depth = func(x impl.State) int {
			most, ok := known[x]
			if !ok && len(crowd(x)) > 1 {
				half, _ := impl.HalfOf(lies, x)
				yes, no, _ := impl.SplitState(lies, x, half)
				most = 1 + max(depth(yes), depth(no))
			}
			known[x] = most
			return most
		}
		for count := int64(1); count <= impl.MaxNumbers; count++ {
			most := depth(impl.State{count})
			g := longest(t, impl.Game{Numbers: int8(count), Lies: int8(lies)}, depth)
			want(t, fmt.Sprint("longest ", count, lies), all(len(g.Asked), most <= 18), all(most, true))
			secret, code := impl.FoundIn(g)
			want(t, fmt.Sprint("longest ", count, lies), code, int64(0))
			wrong := make([]bool, len(g.Asked))
			for _, k := range talkOf(g).wrong[secret] {
				wrong[k] = true
			}
			checkGame(t, count, lies, secret, wrong)
			want(t, fmt.Sprint("longest ", count, lies), all(impl.PlayGame(count, lies, secret, wrong)), all(g, secret, int64(0)))
		}
		for x := range known {
			want(t, fmt.Sprint("candidates ", x), len(crowd(x)) > 0, true)
		}
	}
}

func TestGamesInRange(t *testing.T) {
	for _, n := range append([]int64{-1, 61, 256 + 2, 1<<32 + 2}, badNumbers...) {
		wantZero(t, "numbers", impl.ErrRange, all(impl.PlayGame(n, 1, 0, nil)))
		wantZero(t, "lies", impl.ErrRange, all(impl.PlayGame(2, n, 0, nil)))
		wantZero(t, "secret", impl.ErrRange, all(impl.PlayGame(60, 1, n, []bool{true})))
		wantZero(t, "numbers", impl.ErrRange, all(impl.WorstPlay(n, 1)))
		wantZero(t, "lies", impl.ErrRange, all(impl.WorstPlay(2, n)))
	}
	wantZero(t, "no numbers", impl.ErrRange, all(impl.PlayGame(0, 0, 0, nil)))
	wantZero(t, "no numbers", impl.ErrRange, all(impl.WorstPlay(0, 0)))
	wantZero(t, "4 lies", impl.ErrRange, all(impl.PlayGame(2, 4, 0, nil)))
	wantZero(t, "4 lies", impl.ErrRange, all(impl.WorstPlay(2, 4)))
	for count := int64(1); count <= impl.MaxNumbers; count++ {
		wantZero(t, "no such number", impl.ErrRange, all(impl.PlayGame(count, 0, count, nil)))
		wantZero(t, "no such number", impl.ErrRange, all(impl.PlayGame(count, 0, -1, nil)))
	}
	want(t, "nothing to ask", all(impl.PlayGame(1, 3, 0, []bool{true})), all(impl.Game{Numbers: 1, Lies: 3}, int64(0), int64(0)))
	want(t, "nothing to ask", all(impl.WorstPlay(1, 3)), all(int64(0), int64(0), int64(0)))
}

func TestWorstGames(t *testing.T) {
	for count := int64(1); count <= impl.MaxNumbers; count++ {
		for lies := range int64(4) {
			if lies > 0 && count > 10 && count%7 != 4 {
				continue
			}
			worst, most := int64(0), 0
			for secret := range count {
				if g, _, _ := played(count, lies, secret, nil); len(g.Asked) > most {
					worst, most = secret, len(g.Asked)
				}
			}
			want(t, fmt.Sprint("worst ", count, lies), all(impl.WorstPlay(count, lies)), all(worst, int64(most), int64(0)))
		}
	}
}

// TestGamesLeaveNothingBehind also plays several games at once.
func TestGamesLeaveNothingBehind(t *testing.T) {
	before := runtime.NumGoroutine()
	wanted, number, _ := played(20, 2, 7, []bool{true, false, true})
	ended := make(chan bool)
	for range 8 {
		go func() {
			same := true
			for range 50 {
				g, found, code := impl.PlayGame(20, 2, 7, []bool{true, false, true})
				same = same && code == impl.OK && found == number && impl.SameGame(g, wanted)
				_, _, code = impl.PlayGame(20, 2, 20, nil)
				same = same && code == impl.ErrRange
			}
			ended <- same
		}()
	}
	for range 8 {
		want(t, "games at once", <-ended, true)
	}
	for range 1000 {
		if runtime.NumGoroutine() <= before {
			return
		}
		time.Sleep(time.Millisecond)
	}
	t.Errorf("%d goroutines, and %d before", runtime.NumGoroutine(), before)
}

func TestSameGames(t *testing.T) {
	list := []impl.Game{
		{}, {Numbers: 2}, {Lies: 2}, {Numbers: 2, Lies: 1, Asked: []impl.Ask{{Set: 1}, {Set: 2, Yes: true}}}, {Numbers: 2, Lies: 1, Asked: []impl.Ask{{Set: 2, Yes: true}, {Set: 1}}},
		{Numbers: 2, Lies: 1, Asked: []impl.Ask{{Set: 1}}}, {Numbers: 2, Lies: 1, Asked: []impl.Ask{{Set: 1, Yes: true}}}, {Numbers: 2, Lies: 1, Asked: []impl.Ask{{Set: 1}, {Set: 2}}},
		{Numbers: 3, Lies: 1, Asked: []impl.Ask{{Set: 1}}}, {Numbers: 2, Lies: 2, Asked: []impl.Ask{{Set: 1}}}, {Numbers: 2, Lies: 1, Asked: []impl.Ask{{}}}, {Numbers: -128, Lies: 127, Asked: []impl.Ask{{Set: math.MaxUint64}}},
	}
	for i, a := range list {
		for k, b := range list {
			b.Asked = append([]impl.Ask{}, b.Asked...)
			want(t, fmt.Sprint("same ", i, k), impl.SameGame(a, b), i == k)
		}
	}
	long := impl.Game{Asked: make([]impl.Ask, 500000)}
	other := impl.Game{Asked: make([]impl.Ask, 500000)}
	want(t, "long", impl.SameGame(long, other), true)
	other.Asked[499999].Yes = true
	want(t, "long", impl.SameGame(long, other), false)
	want(t, "nil and empty", impl.SameGame(impl.Game{Asked: []impl.Ask{}}, impl.Game{}), true)
}

func TestTextsOfGames(t *testing.T) {
	for _, g := range someGames() {
		text := fmt.Sprintf("%d %d\n", g.Numbers, g.Lies)
		for _, q := range g.Asked {
			said := "no"
			if q.Yes {
				said = "yes"
			}
			text += fmt.Sprintf("%016x %s\n", q.Set, said)
		}
		want(t, "text", impl.GameText(g), text)
		read, code := impl.ReadGame(text)
		want(t, "read", all(impl.SameGame(read, g), code), all(true, int64(0)))
	}
	g := impl.Game{Numbers: 60, Lies: 3, Asked: []impl.Ask{{Set: 0x0fedcba987654321, Yes: true}, {}}}
	want(t, "text", impl.GameText(g), "60 3\n0fedcba987654321 yes\n0000000000000000 no\n")
	want(t, "no questions", all(impl.ReadGame("1 0\n")), all(impl.Game{Numbers: 1}, int64(0)))
	const line = "0000000000000001 no\n"
	full, code := impl.ReadGame("2 1\n" + strings.Repeat(line, 60))
	want(t, "60 questions", all(len(full.Asked), code), all(60, int64(0)))
	for _, text := range []string{
		"", "\n", " ", "x", "2 1", "2\n", "2 \n", " 1\n", "2 1 \n", " 2 1\n", "2  1\n", "2 1\r\n", "2\t1\n", "2 1 0\n", "2 1\n\n", "\n2 1\n", "2 1\n ", "2 1\nx", "2 x\n", "x 1\n",
		"0 1\n", "61 1\n", "2 4\n", "2 -1\n", "-2 1\n", "+2 1\n", "2 +1\n", "02 1\n", "2 01\n", "2.0 1\n", "258 1\n", "2 257\n", "99999999999999999999 1\n", "2 99999999999999999999\n", "0x2 1\n", "1_0 1\n",
		"2 1\n0000000000000001 no", "2 1\n0000000000000001 no\n\n", "2 1\n0000000000000001  no\n", "2 1\n 0000000000000001 no\n", "2 1\n0000000000000001 no \n", "2 1\n0000000000000001\n", "2 1\n0000000000000001 \n",
		"2 1\n0000000000000001 No\n", "2 1\n0000000000000001 YES\n", "2 1\n0000000000000001 maybe\n", "2 1\n0000000000000001 yes no\n", "2 1\n0000000000000001 true\n", "2 1\n0000000000000001 noyes\n", "2 1\nyes\n", "2 1\n no\n",
		"2 1\n000000000000001 no\n", "2 1\n00000000000000001 no\n", "2 1\n1 no\n", "2 1\n0x00000000000001 no\n", "2 1\n+000000000000001 no\n", "2 1\n-000000000000001 no\n", "2 1\n00000000_0000001 no\n", "2 1\n000000000000000g no\n",
		"60 1\n000000000000000A no\n", "60 1\n000000000000000Ff no\n", "2 1\n0000000000000004 no\n", "60 1\n1000000000000000 no\n", "60 1\nffffffffffffffff yes\n", "60 1\nfffffffffffffffff yes\n", "2 1\n0000000000000001 no\n2 1\n",
		line, line + "2 1\n", "2 1\n" + line + "\n" + line, "2 1\n" + line + "x\n" + line, "2 1 " + line, "2 1\n" + strings.Repeat(line, 61), "2 1\n" + strings.Repeat(line, 62), "2 1\n" + strings.Repeat(line, 63), "2 1\n" + strings.Repeat(line, 50000),
		"2 1\n" + strings.Repeat(line, 60) + "\n", "2 1\n" + strings.Repeat(line, 60) + "x", strings.Repeat(" ", 1000000), strings.Repeat("\n", 1000000), strings.Repeat("2", 1000000), "2 1\n" + strings.Repeat("0", 999990) + " no\n",
	} {
		wantZero(t, fmt.Sprintf("text %.60q", text), impl.ErrSyntax, all(impl.ReadGame(text)))
	}
}

// TestLiarsArePure is for promise 1: arguments stay as they are, with the rest of their memory, and results are the same again.
func TestLiarsArePure(t *testing.T) {
	mark := impl.Ask{Set: 777, Yes: true}
	for i, g := range someGames() {
		wholeAsked, asked := spare(g.Asked, mark)
		g.Asked = asked
		wholeWrong, wrong := spare([]bool{false, false, true, false}, true)
		lies, x := int64(g.Lies), impl.State{2}
		text := impl.GameText(g)
		call := func() []any {
			return []any{
				impl.ValidGame(g), impl.SameGame(g, g), all(impl.NewGame(2, lies)), all(impl.AddAsk(g, 0, true)), all(impl.LiesFor(g, 0)), all(impl.CandidatesOf(g)), all(impl.StateOf(g)), all(impl.FoundIn(g)),
				impl.ValidState(lies, x), all(impl.WeightOf(lies, x, 5)), all(impl.LeastByWeight(lies, x)), all(impl.SplitState(lies, x, impl.State{1})), all(impl.HalfOf(lies, x)),
				all(impl.CanFindIn(lies, x, 5)), all(impl.LeastQuestions(lies, x)), all(impl.AskThatDoes(lies, x, 12)), all(impl.SetFor(g, impl.State{})), all(impl.NextSet(g)), impl.AnswerTo(3, 1, true),
				all(impl.PlayGame(9, lies, 5, wrong)), all(impl.WorstPlay(9, lies)), all(impl.FirstLies(g, 0)), text, all(impl.ReadGame(text)),
			}
		}
		before := fmt.Sprint(wholeAsked, wholeWrong)
		first := call()
		want(t, fmt.Sprint("again ", i), call(), first)
		want(t, fmt.Sprint("arguments ", i), fmt.Sprint(wholeAsked, wholeWrong), before)
	}
}

// TestLiarsAreNew changes results, which must change neither later ones nor arguments.
func TestLiarsAreNew(t *testing.T) {
	g := game(t, 5, 2, "0n", "0n", "3y")
	kept := slices.Clone(g.Asked)
	results := func() string {
		more, _ := impl.AddAsk(g, 7, true)
		other, _ := impl.AddAsk(g, 6, false)
		list, _ := impl.CandidatesOf(g)
		lies, _ := impl.FirstLies(g, 0)
		end, _, _ := impl.PlayGame(5, 2, 3, []bool{true})
		read, _ := impl.ReadGame(impl.GameText(g))
		shown := fmt.Sprint(more, other, list, lies, end, read)
		clear(more.Asked[:cap(more.Asked)])
		want(t, "results share memory", other.Asked[3], impl.Ask{Set: 6})
		clear(other.Asked[:cap(other.Asked)])
		clear(list[:cap(list)])
		clear(lies[:cap(lies)])
		clear(end.Asked[:cap(end.Asked)])
		clear(read.Asked[:cap(read.Asked)])
		want(t, "argument", g.Asked, kept)
		return shown
	}
	want(t, "results share memory with later ones", results(), results())
}
