package tests

import (
	"fmt"
	"math"
	"reflect"
	"slices"
	"strings"
	"testing"

	"loop.example/g01281/impl"
)

// none is the case that no coin is false.
var none = impl.Case{Coin: -1}

func taskOf(coins, kind int, none, good bool) impl.Task {
	return impl.Task{Coins: int8(coins), Kind: int8(kind), None: none, Good: good}
}

// allTasks has all valid tasks with up to so many coins.
func allTasks(most int) []impl.Task {
	var list []impl.Task
	for coins := 1; coins <= most; coins++ {
		for kind := impl.TkHeavy; kind <= impl.TkEither; kind++ {
			for n := range 4 {
				list = append(list, taskOf(coins, kind, n%2 == 1, n/2 == 1))
			}
		}
	}
	return list
}

func badTasks() []impl.Task {
	return []impl.Task{
		{}, {None: true, Good: true}, {Coins: -1}, {Coins: 14}, {Coins: 127}, {Coins: -128}, {Coins: 3, Kind: 3}, {Coins: 3, Kind: -1},
		{Coins: 3, Kind: 127}, {Coins: 3, Kind: -128, None: true, Good: true}, {Coins: 14, Kind: 2, None: true, Good: true}, {Coins: 0, Kind: 3},
	}
}

// casesInOrder writes down the document's words: none, and then coin by coin, heavier before lighter.
func casesInOrder(t impl.Task) []impl.Case {
	var list []impl.Case
	if t.None {
		list = append(list, none)
	}
	for coin := range t.Coins {
		if t.Kind == impl.TkHeavy || t.Kind == impl.TkEither {
			list = append(list, impl.Case{Coin: coin, Heavy: true})
		}
		if t.Kind == impl.TkLight || t.Kind == impl.TkEither {
			list = append(list, impl.Case{Coin: coin})
		}
	}
	return list
}

// someCases has cases of all kinds, many of which are none of most tasks.
func someCases() []impl.Case {
	var list []impl.Case
	for _, coin := range []int8{-128, -2, -1, 0, 1, 2, 3, 5, 12, 13, 14, 127} {
		list = append(list, impl.Case{Coin: coin}, impl.Case{Coin: coin, Heavy: true})
	}
	return list
}

// seenOn lays coins of 10 on a scale, the false one being of 11 or 9.
func seenOn(w impl.Weighing, c impl.Case) int {
	left, right := 0, 0
	for i, pan := range w {
		mass := 10
		switch c {
		case impl.Case{Coin: int8(i), Heavy: true}:
			mass = 11
		case impl.Case{Coin: int8(i)}:
			mass = 9
		}
		switch pan {
		case -1:
			left += mass
		case 1:
			right += mass
		}
	}
	switch {
	case left > right:
		return -1
	case left < right:
		return 1
	}
	return 0
}

// allWeighings has all valid weighings of so many coins, the good one being one of them, in the order of their numbers.
func allWeighings(places int) []impl.Weighing {
	list := []impl.Weighing{{}}
	for i := range places {
		var next []impl.Weighing
		for _, w := range list {
			for pan := int8(-1); pan <= 1; pan++ {
				w[i] = pan
				next = append(next, w)
			}
		}
		list = next
	}
	return slices.DeleteFunc(list, func(w impl.Weighing) bool {
		sum := 0
		for _, pan := range w {
			sum += int(pan)
		}
		return sum != 0
	})
}

func places(t impl.Task) int {
	if t.Good {
		return int(t.Coins) + 1
	}
	return int(t.Coins)
}

func signsOf(w impl.Weighing, count int) string {
	text := ""
	for _, pan := range w[:count] {
		text += string("-0+"[pan+1])
	}
	return text
}

func weighing(text string) impl.Weighing {
	var w impl.Weighing
	for i, sign := range text {
		w[i] = int8(strings.IndexRune("-0+", sign) - 1)
	}
	return w
}

func fork(text string, next ...int16) impl.Node {
	return impl.Node{Pans: weighing(text), Next: [3]int16(next)}
}

func leaf(c impl.Case) impl.Node { return impl.Node{Tell: c, Leaf: true} }

func heavy(coin int8) impl.Case { return impl.Case{Coin: coin, Heavy: true} }

func light(coin int8) impl.Case { return impl.Case{Coin: coin} }

// told goes through a plan with coins on a scale.
func told(plan []impl.Node, c impl.Case) (impl.Case, int64) {
	at, count := 0, int64(0)
	for !plan[at].Leaf {
		at = int(plan[at].Next[seenOn(plan[at].Pans, c)+1])
		count++
	}
	return plan[at].Tell, count
}

func TestCoinsExample(t *testing.T) {
	three := taskOf(3, impl.TkHeavy, false, false)
	plan, code := impl.PlanFor(three)
	want(t, "plan of 3", all(len(plan), code), all(4, int64(0)))
	want(t, "text", impl.NodesText(three, plan), "-+0 1 2 3\ntell 0 heavy\ntell 2 heavy\ntell 1 heavy\n")
	twelve := taskOf(12, impl.TkEither, true, false)
	want(t, "bound of 12", all(impl.BoundOf(twelve)), all(int64(3), int64(0)))
	want(t, "least of 12", all(impl.LeastWeighings(twelve)), all(int64(3), int64(0)))
	plan, code = impl.PlanFor(twelve)
	want(t, "plan of 12", all(impl.WeighingText(twelve, plan[0].Pans), code), all("----++++0000", int64(0)))
	want(t, "13", all(impl.CanFind(taskOf(13, impl.TkEither, false, false), 3)), all(false, int64(0)))
	wantZero(t, "2", impl.ErrNotFound, all(impl.PlanFor(taskOf(2, impl.TkEither, false, false))))
	want(t, "limits", []int{impl.MaxCoins, impl.MaxNodes, impl.MaxDepth}, []int{13, 400, 5})
	want(t, "kinds", []int{impl.TkHeavy, impl.TkLight, impl.TkEither}, []int{0, 1, 2})
}

func TestCasesOfTasks(t *testing.T) {
	for _, task := range allTasks(impl.MaxCoins) {
		name := fmt.Sprintf("%+v", task)
		list := casesInOrder(task)
		want(t, "valid "+name, impl.ValidTask(task), true)
		want(t, "cases "+name, all(impl.CasesOf(task)), all(list, int64(0)))
		for i, c := range list {
			want(t, fmt.Sprint(name, c), all(impl.FindCase(task, c)), all(int64(i), int64(0)))
		}
		for _, c := range someCases() {
			if !slices.Contains(list, c) {
				wantZero(t, fmt.Sprint(name, c), impl.ErrNotFound, all(impl.FindCase(task, c)))
				wantZero(t, fmt.Sprint(name, c), impl.ErrNotFound, all(impl.ResultOf(task, impl.Weighing{}, c)))
			}
		}
		bound := int64(math.Ceil(math.Log(float64(len(list)))/math.Log(3) - 1e-9))
		want(t, "bound "+name, all(impl.BoundOf(task)), all(bound, int64(0)))
	}
	want(t, "order", all(impl.CasesOf(taskOf(2, impl.TkEither, true, true))), all([]impl.Case{none, heavy(0), light(0), heavy(1), light(1)}, int64(0)))
}

// TestInvalidTasksComeFirst calls every function with other arguments that have errors, too.
func TestInvalidTasksComeFirst(t *testing.T) {
	for i, task := range badTasks() {
		name := fmt.Sprint("task ", i)
		want(t, name, impl.ValidTask(task), false)
		wantZero(t, name, impl.ErrInvalid, all(impl.CasesOf(task)))
		wantZero(t, name, impl.ErrInvalid, all(impl.BoundOf(task)))
		wantZero(t, name, impl.ErrInvalid, all(impl.LeastWeighings(task)))
		wantZero(t, name, impl.ErrInvalid, all(impl.PlanFor(task)))
		for _, c := range someCases() {
			wantZero(t, name, impl.ErrInvalid, all(impl.FindCase(task, c)))
		}
		for _, n := range append([]int64{0, 1}, badNumbers...) {
			wantZero(t, name, impl.ErrInvalid, all(impl.CanFind(task, n)))
		}
		for _, text := range []string{"", "0", "000", "-+0", "++0", "x"} {
			wantZero(t, name, impl.ErrInvalid, all(impl.ReadWeighing(task, text)))
		}
		wantZero(t, name, impl.ErrInvalid, all(impl.FairestWeighing(task, nil, nil)))
		wantZero(t, name, impl.ErrInvalid, all(impl.FairestWeighing(task, someCases(), []impl.Weighing{{}})))
		for _, w := range []impl.Weighing{{}, weighing("-+"), weighing("+")} {
			checkInvalidWeighing(t, name, task, w)
		}
		for _, plan := range [][]impl.Node{nil, {leaf(none)}, {leaf(heavy(0))}, {fork("-+", 1, 2, 1), leaf(heavy(0)), leaf(light(0))}} {
			checkInvalidPlan(t, name, task, plan)
		}
	}
}

func checkInvalidWeighing(t *testing.T, name string, task impl.Task, w impl.Weighing) {
	t.Helper()
	want(t, name, impl.ValidWeighing(task, w), false)
	want(t, name, impl.WeighingText(task, w), "")
	for _, c := range []impl.Case{none, heavy(0), heavy(-1), light(13), light(-128)} {
		wantZero(t, name, impl.ErrInvalid, all(impl.ResultOf(task, w, c)))
		wantZero(t, name, impl.ErrInvalid, all(impl.SplitCases(task, w, []impl.Case{c})))
		wantZero(t, name, impl.ErrInvalid, all(impl.FairestWeighing(task, []impl.Case{c}, []impl.Weighing{{}, w})))
	}
	wantZero(t, name, impl.ErrInvalid, all(impl.SplitCases(task, w, nil)))
	wantZero(t, name, impl.ErrInvalid, all(impl.SplitCases(task, w, make([]impl.Case, 28))))
	wantZero(t, name, impl.ErrInvalid, all(impl.FairestWeighing(task, make([]impl.Case, 28), slices.Repeat([]impl.Weighing{w}, 61))))
}

func checkInvalidPlan(t *testing.T, name string, task impl.Task, plan []impl.Node) {
	t.Helper()
	want(t, name, impl.ValidPlan(task, plan), false)
	want(t, name, impl.NodesText(task, plan), "")
	wantZero(t, name, impl.ErrInvalid, all(impl.FirstUntold(task, plan)))
	wantZero(t, name, impl.ErrInvalid, all(impl.DepthOf(task, plan)))
	wantZero(t, name, impl.ErrInvalid, all(impl.MeanDepth(task, plan)))
	wantZero(t, name, impl.ErrInvalid, all(impl.MirrorPlan(task, plan)))
	for _, c := range []impl.Case{none, heavy(0), light(0), heavy(-1), light(13)} {
		wantZero(t, name, impl.ErrInvalid, all(impl.FollowPlan(task, plan, c)))
	}
	for _, i := range []int64{0, 1, -1, 13, math.MaxInt64} {
		wantZero(t, name, impl.ErrInvalid, all(impl.SwapInPlan(task, plan, i, 0)))
		wantZero(t, name, impl.ErrInvalid, all(impl.SwapInPlan(task, plan, 0, i)))
	}
}

func TestWeighings(t *testing.T) {
	for _, task := range allTasks(4) {
		name := fmt.Sprintf("%+v", task)
		cases := casesInOrder(task)
		for _, w := range allWeighings(places(task)) {
			text := signsOf(w, places(task))
			want(t, name+text, impl.ValidWeighing(task, w), true)
			want(t, name+text, impl.WeighingText(task, w), text)
			want(t, name+text, all(impl.ReadWeighing(task, text)), all(w, int64(0)))
			var parts [3][]impl.Case
			for _, c := range cases {
				seen := seenOn(w, c)
				want(t, fmt.Sprint(name, text, c), all(impl.ResultOf(task, w, c)), all(int64(seen), int64(0)))
				parts[seen+1] = append(parts[seen+1], c)
			}
			want(t, name+text, all(impl.SplitCases(task, w, cases)), all(parts, int64(0)))
		}
	}
	good := taskOf(13, impl.TkEither, true, true)
	w := weighing("------++++++0+")
	want(t, "good one", all(impl.ValidWeighing(good, w), impl.WeighingText(good, w)), all(false, ""))
	w[12] = -1
	want(t, "good one", all(impl.ValidWeighing(good, w), impl.WeighingText(good, w)), all(true, "------++++++-+"))
	want(t, "good one", all(impl.ReadWeighing(good, "------++++++-+")), all(w, int64(0)))
	want(t, "13 is lighter", all(impl.ResultOf(good, w, light(12))), all(int64(1), int64(0)))
}

func TestInvalidWeighings(t *testing.T) {
	for _, task := range []impl.Task{taskOf(3, impl.TkEither, true, false), taskOf(2, impl.TkHeavy, true, true), taskOf(3, impl.TkLight, false, false)} {
		for _, w := range []impl.Weighing{
			weighing("-"), weighing("+"), weighing("++-"), weighing("--+"), weighing("-00+"), weighing("+00-"), weighing("000-+"),
			weighing("0000000000000-"), weighing("-000000000000+"), {2, -2}, {-1, -1, 2}, {-2, 1, 1}, {127, -127}, {-128, 127, 1}, {-128, -128},
			{1, 1, 1}, {64, 64, -128}, {3, -3, 0}, {0, 2, -2},
		} {
			checkInvalidWeighing(t, fmt.Sprint(task, w), task, w)
		}
	}
	// What is the good coin of one task is none of the other.
	checkInvalidWeighing(t, "no good one", taskOf(2, impl.TkEither, true, false), weighing("-0+"))
	want(t, "good one", impl.ValidWeighing(taskOf(2, impl.TkEither, true, true), weighing("-0+")), true)
}

func TestSplitsOfLists(t *testing.T) {
	three := taskOf(3, impl.TkEither, true, false)
	w := weighing("-+0")
	want(t, "none", all(impl.SplitCases(three, w, nil)), all([3][]impl.Case{}, int64(0)))
	want(t, "twice, in their order", all(impl.SplitCases(three, w, []impl.Case{light(2), light(1), heavy(0), light(2), none, light(1), heavy(1)})),
		all([3][]impl.Case{{light(1), heavy(0), light(1)}, {light(2), light(2), none}, {heavy(1)}}, int64(0)))
	many := slices.Repeat([]impl.Case{light(0)}, 27)
	want(t, "most", all(impl.SplitCases(three, w, many)), all([3][]impl.Case{nil, nil, many}, int64(0)))
	want(t, "most", all(impl.FairestWeighing(three, many, []impl.Weighing{w})), all(int64(0), int64(27), int64(0)))
	for _, count := range []int{28, 100, 1000000} {
		many := slices.Repeat([]impl.Case{light(0)}, count)
		wantZero(t, "too many", impl.ErrRange, all(impl.SplitCases(three, w, many)))
		wantZero(t, "too many", impl.ErrRange, all(impl.FairestWeighing(three, many, []impl.Weighing{w})))
		many[count-1] = heavy(3)
		wantZero(t, "a case that is none first", impl.ErrNotFound, all(impl.SplitCases(three, w, many)))
		wantZero(t, "a case that is none first", impl.ErrNotFound, all(impl.FairestWeighing(three, many, []impl.Weighing{w})))
		wantZero(t, "a case that is none first", impl.ErrNotFound, all(impl.FairestWeighing(three, many, nil)))
	}
	wantZero(t, "one that is none", impl.ErrNotFound, all(impl.SplitCases(three, w, []impl.Case{light(0), heavy(-1)})))
	parts, _ := impl.SplitCases(three, w, casesInOrder(three))
	for i := range parts {
		kept := fmt.Sprint(parts[(i+1)%3], parts[(i+2)%3])
		clear(parts[i][:cap(parts[i])])
		want(t, "memory of its own", fmt.Sprint(parts[(i+1)%3], parts[(i+2)%3]), kept)
	}
}

// greatestPart counts what is seen with coins on a scale.
func greatestPart(w impl.Weighing, cases []impl.Case) int {
	var counts [3]int
	for _, c := range cases {
		counts[seenOn(w, c)+1]++
	}
	return slices.Max(counts[:])
}

func TestFairestWeighings(t *testing.T) {
	for _, task := range allTasks(5) {
		list := allWeighings(places(task))
		cases := casesInOrder(task)
		for from := 0; from < len(list); from += 7 {
			for _, some := range [][]impl.Case{cases, cases[1:], cases[:len(cases)/2], nil} {
				checkFairest(t, task, some, list[from:min(len(list), from+60)])
				checkFairest(t, task, some, list[from:min(len(list), from+5)])
				twice := append(slices.Clone(list[from:min(len(list), from+9)]), list[:min(len(list), 9)]...)
				checkFairest(t, task, some, twice)
			}
		}
	}
	three := taskOf(3, impl.TkHeavy, false, false)
	cases := casesInOrder(three)
	aside, w := impl.Weighing{}, weighing("-+0")
	want(t, "first of equal ones", all(impl.FairestWeighing(three, cases, []impl.Weighing{aside, aside, w, weighing("+-0"), w})), all(int64(2), int64(1), int64(0)))
	want(t, "nothing to split", all(impl.FairestWeighing(three, nil, []impl.Weighing{aside, w})), all(int64(0), int64(0), int64(0)))
	sixty := append(slices.Repeat([]impl.Weighing{aside}, 59), w)
	want(t, "60 weighings", all(impl.FairestWeighing(three, cases, sixty)), all(int64(59), int64(1), int64(0)))
	wantZero(t, "61 weighings", impl.ErrRange, all(impl.FairestWeighing(three, cases, append(sixty, w))))
	wantZero(t, "very many weighings", impl.ErrRange, all(impl.FairestWeighing(three, cases, make([]impl.Weighing, 70000))))
	wantZero(t, "no weighings", impl.ErrRange, all(impl.FairestWeighing(three, cases, nil)))
	wantZero(t, "no weighings", impl.ErrRange, all(impl.FairestWeighing(three, cases, []impl.Weighing{})))
	late := append(make([]impl.Weighing, 70000), weighing("-00"))
	wantZero(t, "a weighing that is none, at last", impl.ErrInvalid, all(impl.FairestWeighing(three, []impl.Case{heavy(9)}, late)))
}

func checkFairest(t *testing.T, task impl.Task, cases []impl.Case, list []impl.Weighing) {
	t.Helper()
	best := 0
	for i, w := range list {
		if greatestPart(w, cases) < greatestPart(list[best], cases) {
			best = i
		}
	}
	want(t, fmt.Sprint("fairest ", task, cases, list), all(impl.FairestWeighing(task, cases, list)), all(int64(best), int64(greatestPart(list[best], cases)), int64(0)))
}

// sets tries all weighings of all coins with sets of cases, told by their bits.
type sets struct {
	parts [][3]int
	done  map[[2]int]bool
}

func setsOf(t impl.Task) sets {
	s := sets{done: map[[2]int]bool{}}
	for _, w := range allWeighings(places(t)) {
		var part [3]int
		for i, c := range casesInOrder(t) {
			part[seenOn(w, c)+1] |= 1 << i
		}
		if w != (impl.Weighing{}) {
			s.parts = append(s.parts, part)
		}
	}
	return s
}

func (s sets) canFind(set, weighings int) bool {
	if set&(set-1) == 0 {
		return true
	}
	if weighings == 0 {
		return false
	}
	key := [2]int{set, weighings}
	can, known := s.done[key]
	if !known {
		can = slices.ContainsFunc(s.parts, func(part [3]int) bool {
			return s.canFind(set&part[0], weighings-1) && s.canFind(set&part[1], weighings-1) && s.canFind(set&part[2], weighings-1)
		})
		s.done[key] = can
	}
	return can
}

// TestFewestWeighings holds what can be found against all weighings of few coins.
func TestFewestWeighings(t *testing.T) {
	for _, task := range allTasks(5) {
		name := fmt.Sprintf("%+v", task)
		s := setsOf(task)
		least := -1
		for weighings := impl.MaxDepth; weighings >= 0; weighings-- {
			can := s.canFind(1<<len(casesInOrder(task))-1, weighings)
			want(t, fmt.Sprint(name, weighings), all(impl.CanFind(task, int64(weighings))), all(can, int64(0)))
			if can {
				least = weighings
			}
		}
		if least < 0 {
			wantZero(t, "least "+name, impl.ErrNotFound, all(impl.LeastWeighings(task)))
			wantZero(t, "plan "+name, impl.ErrNotFound, all(impl.PlanFor(task)))
			continue
		}
		want(t, "least "+name, all(impl.LeastWeighings(task)), all(int64(least), int64(0)))
	}
}

// mostCoins tells what is known of these puzzles: how many coins so many weighings are enough for.
func mostCoins(kind int, none, good bool, weighings int) int {
	results := int(math.Pow(3, float64(weighings)) + 0.5)
	switch {
	case kind != impl.TkEither && none:
		return results - 1
	case kind != impl.TkEither:
		return results
	case good:
		return (results - 1) / 2
	}
	return (results - 3) / 2
}

// noPlan has the tasks without any plan: too few coins are there to be put on both pans.
func noPlan(t impl.Task) bool {
	if t.Good {
		return false
	}
	return t.Coins == 1 && (t.None || t.Kind == impl.TkEither) || t.Coins == 2 && t.Kind == impl.TkEither
}

func TestMostCoins(t *testing.T) {
	for _, task := range allTasks(impl.MaxCoins) {
		name := fmt.Sprintf("%+v", task)
		least := 0
		for mostCoins(int(task.Kind), task.None, task.Good, least) < int(task.Coins) {
			least++
		}
		for n := range int64(impl.MaxDepth + 1) {
			want(t, fmt.Sprint(name, n), all(impl.CanFind(task, n)), all(n >= int64(least) && !noPlan(task), int64(0)))
		}
		if noPlan(task) {
			wantZero(t, name, impl.ErrNotFound, all(impl.LeastWeighings(task)))
			wantZero(t, name, impl.ErrNotFound, all(impl.PlanFor(task)))
		} else {
			want(t, name, all(impl.LeastWeighings(task)), all(int64(least), int64(0)))
		}
		for _, n := range append([]int64{6}, badNumbers...) {
			wantZero(t, name, impl.ErrRange, all(impl.CanFind(task, n)))
		}
	}
}

// planner makes plans from lists of the cases that are left, by the document's words.
type planner struct {
	task  impl.Task
	kept  map[string]bool
	nodes []impl.Node
}

// sortsOf tells the sort of each coin from the cases that are left.
func (p *planner) sortsOf(cases []impl.Case) []byte {
	sorts := []byte(strings.Repeat("g", places(p.task)))
	for i := range p.task.Coins {
		switch {
		case slices.Contains(cases, heavy(i)) && slices.Contains(cases, light(i)):
			sorts[i] = 'o'
		case slices.Contains(cases, heavy(i)):
			sorts[i] = 'h'
		case slices.Contains(cases, light(i)):
			sorts[i] = 'l'
		}
	}
	return sorts
}

// loads has the eight numbers of all weighings, in the order of lists.
func loads(sorts []byte) [][]int {
	list := [][]int{{}}
	for _, sort := range "ohlg" {
		count := strings.Count(string(sorts), string(sort))
		var next [][]int
		for _, load := range list {
			for left := 0; left <= count; left++ {
				for right := 0; left+right <= count && (sort != 'g' || left*right == 0); right++ {
					next = append(next, append(slices.Clone(load), left, right))
				}
			}
		}
		list = next
	}
	list = slices.DeleteFunc(list, func(n []int) bool {
		left, right := n[0]+n[2]+n[4]+n[6], n[1]+n[3]+n[5]+n[7]
		return left != right || left == 0
	})
	slices.SortFunc(list, slices.Compare)
	return list
}

func laid(sorts []byte, load []int) impl.Weighing {
	var w impl.Weighing
	rest := slices.Clone(load)
	for i, sort := range sorts {
		at := 2 * strings.IndexByte("ohlg", sort)
		switch {
		case rest[at] > 0:
			w[i] = -1
			rest[at]--
		case rest[at+1] > 0:
			w[i] = 1
			rest[at+1]--
		}
	}
	return w
}

func seenParts(w impl.Weighing, cases []impl.Case) [3][]impl.Case {
	var parts [3][]impl.Case
	for _, c := range cases {
		seen := seenOn(w, c) + 1
		parts[seen] = append(parts[seen], c)
	}
	return parts
}

func (p *planner) canFind(cases []impl.Case, weighings int) bool {
	if len(cases) <= 1 || weighings == 0 {
		return len(cases) <= 1
	}
	if results := []int{1, 3, 9, 27, 81, 243}; len(cases) > results[weighings] {
		return false
	}
	sorts := p.sortsOf(cases)
	slices.Sort(sorts)
	key := fmt.Sprint(string(sorts), cases[0] == none, weighings)
	can, known := p.kept[key]
	if !known {
		_, can = p.first(cases, weighings)
		p.kept[key] = can
	}
	return can
}

func (p *planner) first(cases []impl.Case, weighings int) (impl.Weighing, bool) {
	sorts := p.sortsOf(cases)
	for _, load := range loads(sorts) {
		w := laid(sorts, load)
		parts := seenParts(w, cases)
		if p.canFind(parts[0], weighings-1) && p.canFind(parts[1], weighings-1) && p.canFind(parts[2], weighings-1) {
			return w, true
		}
	}
	return impl.Weighing{}, false
}

func (p *planner) grow(cases []impl.Case, weighings int) int16 {
	at := len(p.nodes)
	switch len(cases) {
	case 0:
		p.nodes = append(p.nodes, leaf(casesInOrder(p.task)[0]))
		return int16(at)
	case 1:
		p.nodes = append(p.nodes, leaf(cases[0]))
		return int16(at)
	}
	w, _ := p.first(cases, weighings)
	p.nodes = append(p.nodes, impl.Node{Pans: w})
	for i, part := range seenParts(w, cases) {
		next := p.grow(part, weighings-1)
		p.nodes[at].Next[i] = next
	}
	return int16(at)
}

// TestPlans is for promise 7: plans of all tasks tell each case, and are the ones that the document tells.
func TestPlans(t *testing.T) {
	for _, task := range allTasks(impl.MaxCoins) {
		if noPlan(task) {
			continue
		}
		name := fmt.Sprintf("%+v", task)
		plan, code := impl.PlanFor(task)
		want(t, "plan "+name, all(impl.ValidPlan(task, plan), code), all(true, int64(0)))
		least, _ := impl.LeastWeighings(task)
		bound, _ := impl.BoundOf(task)
		if least < bound {
			t.Errorf("%s: %d weighings are less than the bound %d", name, least, bound)
		}
		wantZero(t, "told "+name, impl.ErrNotFound, all(impl.FirstUntold(task, plan)))
		want(t, "depth "+name, all(impl.DepthOf(task, plan)), all(least, int64(0)))
		checkPlan(t, task, plan)
		for _, c := range casesInOrder(task) {
			got, count := told(plan, c)
			if got != c || count > least {
				t.Errorf("%s: %v is told as %v, with %d weighings", name, c, got, count)
			}
		}
		p := planner{task: task, kept: map[string]bool{}}
		p.grow(casesInOrder(task), int(least))
		want(t, "first plan "+name, plan, p.nodes)
	}
}

// checkPlan holds all that is told about a plan against coins on a scale.
func checkPlan(t *testing.T, task impl.Task, plan []impl.Node) {
	t.Helper()
	name := fmt.Sprintf("%+v, %q: ", task, impl.NodesText(task, plan))
	cases := casesInOrder(task)
	depth, sum, untold := int64(0), int64(0), -1
	for i, c := range cases {
		wanted, count := told(plan, c)
		want(t, fmt.Sprint("told ", name, c), all(impl.FollowPlan(task, plan, c)), all(wanted, count, int64(0)))
		depth, sum = max(depth, count), sum+count
		if wanted != c && untold < 0 {
			untold = i
		}
	}
	if untold < 0 {
		wantZero(t, "untold "+name, impl.ErrNotFound, all(impl.FirstUntold(task, plan)))
	} else {
		want(t, "untold "+name, all(impl.FirstUntold(task, plan)), all(int64(untold), int64(0)))
	}
	want(t, "depth "+name, all(impl.DepthOf(task, plan)), all(depth, int64(0)))
	want(t, "mean "+name, all(impl.MeanDepth(task, plan)), all(sum, int64(len(cases)), int64(0)))
	for _, c := range someCases() {
		if !slices.Contains(cases, c) {
			wantZero(t, fmt.Sprint("no case ", name, c), impl.ErrNotFound, all(impl.FollowPlan(task, plan, c)))
		}
	}
	want(t, "text "+name, impl.NodesText(task, plan), linesOf(task, plan))
	checkMirror(t, task, plan)
	for i := range int64(task.Coins) {
		checkSwap(t, task, plan, i, (i*i+3)%int64(task.Coins))
	}
}

func linesOf(task impl.Task, plan []impl.Node) string {
	text := ""
	for _, node := range plan {
		switch {
		case !node.Leaf:
			text += fmt.Sprintln(signsOf(node.Pans, places(task)), node.Next[0], node.Next[1], node.Next[2])
		case node.Tell == none:
			text += "tell none\n"
		case node.Tell.Heavy:
			text += fmt.Sprintln("tell", node.Tell.Coin, "heavy")
		default:
			text += fmt.Sprintln("tell", node.Tell.Coin, "light")
		}
	}
	return text
}

func checkMirror(t *testing.T, task impl.Task, plan []impl.Node) {
	t.Helper()
	mirror, code := impl.MirrorPlan(task, plan)
	want(t, "mirror", all(len(mirror), impl.ValidPlan(task, mirror), code), all(len(plan), true, int64(0)))
	for i, node := range plan {
		for k := range node.Pans {
			want(t, "mirrored pan", mirror[i].Pans[k], -node.Pans[k])
		}
		next := [3]int16{node.Next[2], node.Next[1], node.Next[0]}
		want(t, "mirrored node", all(mirror[i].Next, mirror[i].Tell, mirror[i].Leaf), all(next, node.Tell, node.Leaf))
	}
	for _, c := range casesInOrder(task) {
		wanted, count := told(plan, c)
		want(t, "told by the mirror", all(impl.FollowPlan(task, mirror, c)), all(wanted, count, int64(0)))
	}
	back, _ := impl.MirrorPlan(task, mirror)
	want(t, "mirrored twice", impl.SamePlan(back, plan), true)
}

func checkSwap(t *testing.T, task impl.Task, plan []impl.Node, i, k int64) {
	t.Helper()
	swap := func(c impl.Case) impl.Case {
		switch int64(c.Coin) {
		case i:
			c.Coin = int8(k)
		case k:
			c.Coin = int8(i)
		}
		return c
	}
	swapped, code := impl.SwapInPlan(task, plan, i, k)
	want(t, "swapped", all(len(swapped), impl.ValidPlan(task, swapped), code), all(len(plan), true, int64(0)))
	for at, node := range plan {
		node.Pans[i], node.Pans[k] = node.Pans[k], node.Pans[i]
		if node.Leaf {
			node.Tell = swap(node.Tell)
		}
		want(t, "swapped node", swapped[at], node)
	}
	for _, c := range casesInOrder(task) {
		wanted, count := told(plan, c)
		want(t, "told when swapped", all(impl.FollowPlan(task, swapped, swap(c))), all(swap(wanted), count, int64(0)))
	}
	other, _ := impl.SwapInPlan(task, plan, k, i)
	want(t, "swapped the other way", impl.SamePlan(other, swapped), true)
}

func TestSwapsAreInRange(t *testing.T) {
	for _, task := range []impl.Task{taskOf(3, impl.TkEither, true, false), taskOf(3, impl.TkEither, true, true), taskOf(13, impl.TkLight, true, true)} {
		plan, _ := impl.PlanFor(task)
		for _, i := range []int64{-1, int64(task.Coins), int64(task.Coins) + 1, 14, math.MinInt64, math.MaxInt64, 1 << 32, 1 << 8, -1 << 8} {
			for _, k := range []int64{0, 2, i} {
				wantZero(t, fmt.Sprint("swap ", i, k), impl.ErrRange, all(impl.SwapInPlan(task, plan, i, k)))
				wantZero(t, fmt.Sprint("swap ", k, i), impl.ErrRange, all(impl.SwapInPlan(task, plan, k, i)))
			}
		}
	}
}

// numbers makes the same row of numbers in each run.
type numbers uint32

func (n *numbers) below(limit int) int {
	*n = *n*1664525 + 1013904223
	return int(*n>>8) % limit
}

// anyPlan makes a valid plan that tells what it will.
func anyPlan(n *numbers, task impl.Task, count int) []impl.Node {
	cases := casesInOrder(task)
	weighings := allWeighings(min(places(task), 7))[:]
	plan := make([]impl.Node, count)
	for i := range plan {
		w := weighings[n.below(len(weighings))]
		if i == count-1 || n.below(3) == 0 || w == (impl.Weighing{}) {
			plan[i] = leaf(cases[n.below(len(cases))])
			continue
		}
		plan[i].Pans = w
		for k := range plan[i].Next {
			plan[i].Next[k] = int16(i + 1 + n.below(min(count-1-i, 4)))
		}
	}
	return plan
}

// TestAnyPlans has plans that do not tell all, with nodes that several ones lead to, or none.
func TestAnyPlans(t *testing.T) {
	n := numbers(1)
	for _, task := range allTasks(impl.MaxCoins) {
		for _, count := range []int{1, 2, 5, 12, 30} {
			plan := anyPlan(&n, task, count)
			want(t, "valid", impl.ValidPlan(task, plan), true)
			checkPlan(t, task, plan)
		}
	}
	twelve := taskOf(12, impl.TkEither, true, true)
	plan := anyPlan(&n, twelve, impl.MaxNodes)
	want(t, "most nodes", impl.ValidPlan(twelve, plan), true)
	checkPlan(t, twelve, plan)
	checkInvalidPlan(t, "too many nodes", twelve, append(plan, leaf(none)))
	checkInvalidPlan(t, "very many nodes", twelve, slices.Repeat([]impl.Node{leaf(none)}, 25000))
}

// TestLongPlans has a weighing after each other one, as many as there may be.
func TestLongPlans(t *testing.T) {
	two := taskOf(2, impl.TkHeavy, true, false)
	var plan []impl.Node
	for i := range int16(impl.MaxNodes - 1) {
		plan = append(plan, fork("-+", i+1, i+1, i+1))
	}
	plan = append(plan, leaf(heavy(1)))
	checkPlan(t, two, plan)
	want(t, "depth", all(impl.DepthOf(two, plan)), all(int64(impl.MaxNodes-1), int64(0)))
	want(t, "mean", all(impl.MeanDepth(two, plan)), all(int64(3*(impl.MaxNodes-1)), int64(3), int64(0)))
	want(t, "untold", all(impl.FirstUntold(two, plan)), all(int64(0), int64(0)))
}

func TestInvalidPlans(t *testing.T) {
	two := taskOf(2, impl.TkHeavy, false, false)
	good := []impl.Node{fork("-+", 1, 2, 2), leaf(heavy(0)), leaf(heavy(1))}
	want(t, "valid", impl.ValidPlan(two, good), true)
	checkPlan(t, two, good)
	want(t, "a leaf alone", impl.ValidPlan(two, good[2:]), true)
	want(t, "a leaf that is left out", impl.ValidPlan(two, append(slices.Clone(good), leaf(heavy(0)))), true)
	checkInvalidPlan(t, "no nodes", two, nil)
	checkInvalidPlan(t, "no nodes", two, []impl.Node{})
	changes := map[string]func(plan []impl.Node){
		"itself next":             func(plan []impl.Node) { plan[0].Next[0] = 0 },
		"itself next, at last":    func(plan []impl.Node) { plan[0].Next[2] = 0 },
		"behind the end":          func(plan []impl.Node) { plan[0].Next[1] = 3 },
		"before the begin":        func(plan []impl.Node) { plan[0].Next[1] = -1 },
		"far behind":              func(plan []impl.Node) { plan[0].Next[2] = math.MaxInt16 },
		"far before":              func(plan []impl.Node) { plan[0].Next[0] = math.MinInt16 },
		"back":                    func(plan []impl.Node) { plan[1] = fork("-+", 2, 0, 2) },
		"no leaf at the end":      func(plan []impl.Node) { plan[2] = fork("-+", 1, 1, 1) },
		"weighing of zeros":       func(plan []impl.Node) { plan[0].Pans = impl.Weighing{} },
		"one pan":                 func(plan []impl.Node) { plan[0].Pans = weighing("-0") },
		"a coin that is not":      func(plan []impl.Node) { plan[0].Pans = weighing("-0+") },
		"number of a pan":         func(plan []impl.Node) { plan[0].Pans = impl.Weighing{2, -2} },
		"telling weighing":        func(plan []impl.Node) { plan[0].Tell = heavy(0) },
		"telling weighing, light": func(plan []impl.Node) { plan[0].Tell = light(1) },
		"telling weighing, none":  func(plan []impl.Node) { plan[0].Tell = none },
		"leaf with a weighing":    func(plan []impl.Node) { plan[1].Pans = weighing("-+") },
		"leaf with bad pans":      func(plan []impl.Node) { plan[1].Pans = weighing("-") },
		"leaf with a next":        func(plan []impl.Node) { plan[1].Next[0] = 2 },
		"leaf with a next, even":  func(plan []impl.Node) { plan[1].Next[1] = -1 },
		"all nexts of a leaf":     func(plan []impl.Node) { plan[0].Leaf = true },
		"lighter coin":            func(plan []impl.Node) { plan[1].Tell = light(0) },
		"no coin":                 func(plan []impl.Node) { plan[1].Tell = none },
		"none that is heavy":      func(plan []impl.Node) { plan[1].Tell = heavy(-1) },
		"coin that is not":        func(plan []impl.Node) { plan[2].Tell = heavy(2) },
		"coin far behind":         func(plan []impl.Node) { plan[2].Tell = heavy(127) },
		"coin far before":         func(plan []impl.Node) { plan[2].Tell = heavy(-128) },
		"leaf that is left out":   func(plan []impl.Node) { plan[0].Next = [3]int16{2, 2, 2}; plan[1].Tell = light(0) },
	}
	for name, change := range changes {
		plan := slices.Clone(good)
		change(plan)
		checkInvalidPlan(t, name, two, plan)
	}
	other := taskOf(2, impl.TkHeavy, true, true)
	for name, plan := range map[string][]impl.Node{
		"no coin": {leaf(none)}, "good one": {fork("-0+", 1, 1, 1), leaf(heavy(0))},
	} {
		want(t, "valid for another task: "+name, impl.ValidPlan(other, plan), true)
		checkInvalidPlan(t, name, two, plan)
	}
	checkInvalidPlan(t, "the good one is told", other, []impl.Node{leaf(heavy(2))})
}

func TestSamePlans(t *testing.T) {
	plan := []impl.Node{fork("-+", 1, 2, 2), leaf(heavy(0)), leaf(heavy(1))}
	want(t, "equal", impl.SamePlan(plan, slices.Clone(plan)), true)
	want(t, "nil and empty", impl.SamePlan(nil, []impl.Node{}), true)
	want(t, "empty and nil", impl.SamePlan([]impl.Node{}, nil), true)
	want(t, "longer", impl.SamePlan(plan, append(slices.Clone(plan), impl.Node{})), false)
	want(t, "shorter", impl.SamePlan(plan, plan[:2]), false)
	want(t, "empty", impl.SamePlan(plan, nil), false)
	for i := range plan {
		for name, change := range map[string]func(node *impl.Node){
			"first pan": func(node *impl.Node) { node.Pans[0] = 9 },
			"last pan":  func(node *impl.Node) { node.Pans[13] = 1 },
			"next":      func(node *impl.Node) { node.Next[2] = -7 },
			"coin":      func(node *impl.Node) { node.Tell.Coin = 100 },
			"heavy":     func(node *impl.Node) { node.Tell.Heavy = !node.Tell.Heavy },
			"leaf":      func(node *impl.Node) { node.Leaf = !node.Leaf },
		} {
			other := slices.Clone(plan)
			change(&other[i])
			want(t, name, all(impl.SamePlan(plan, other), impl.SamePlan(other, plan)), all(false, false))
			want(t, name+", both not valid", impl.SamePlan(other, slices.Clone(other)), true)
		}
	}
}

func TestTextsOfWeighings(t *testing.T) {
	three, good := taskOf(3, impl.TkEither, true, false), taskOf(3, impl.TkEither, true, true)
	want(t, "text", impl.WeighingText(three, weighing("-+0")), "-+0")
	want(t, "text", impl.WeighingText(good, weighing("-+0")), "-+00")
	want(t, "text of zeros", impl.WeighingText(good, impl.Weighing{}), "0000")
	want(t, "read zeros", all(impl.ReadWeighing(three, "000")), all(impl.Weighing{}, int64(0)))
	want(t, "read", all(impl.ReadWeighing(good, "0-0+")), all(impl.Weighing{0, -1, 0, 1}, int64(0)))
	most := taskOf(13, impl.TkHeavy, false, true)
	want(t, "longest", all(impl.ReadWeighing(most, "-------+++++++")), all(weighing("-------+++++++"), int64(0)))
	for _, text := range []string{
		"", "-", "-+", "-+00", "00", "0000", "++0", "--0", "-00", "00+", "---", "-+ ", " -+0", "-+0\n", "-+1", "-+x", "−+0", "- + 0", "-+\x00", "\xff\xff\xff",
		strings.Repeat("0", 14), strings.Repeat("0", 17), strings.Repeat("-+", 500000),
	} {
		wantZero(t, fmt.Sprintf("read %.40q", text), impl.ErrSyntax, all(impl.ReadWeighing(three, text)))
	}
	for _, text := range []string{"-+0", "-+000", "00-", "-000", "--+0"} {
		wantZero(t, "read "+text, impl.ErrSyntax, all(impl.ReadWeighing(good, text)))
	}
	wantZero(t, "read too many", impl.ErrSyntax, all(impl.ReadWeighing(most, strings.Repeat("0", 15))))
}

func TestTextsOfPlans(t *testing.T) {
	two := taskOf(2, impl.TkEither, true, true)
	plan := []impl.Node{
		fork("-0+", 1, 4, 5), fork("+-0", 2, 3, 6), leaf(light(1)), leaf(heavy(0)), leaf(none), leaf(light(0)), leaf(heavy(1)),
	}
	want(t, "text", impl.NodesText(two, plan), "-0+ 1 4 5\n+-0 2 3 6\ntell 1 light\ntell 0 heavy\ntell none\ntell 0 light\ntell 1 heavy\n")
	most := taskOf(13, impl.TkHeavy, false, false)
	want(t, "two digits", impl.NodesText(most, []impl.Node{leaf(heavy(12))}), "tell 12 heavy\n")
	one := taskOf(1, impl.TkLight, false, false)
	alone, code := impl.PlanFor(one)
	want(t, "one case", all(impl.NodesText(one, alone), code), all("tell 0 light\n", int64(0)))
	// The result 0 has no cases: its leaf tells the first one of the task.
	pair := taskOf(2, impl.TkLight, false, false)
	alone, _ = impl.PlanFor(pair)
	want(t, "no case", impl.NodesText(pair, alone), "-+ 1 2 3\ntell 1 light\ntell 0 light\ntell 0 light\n")
	// Two weighings are enough for 9 coins, so that the first one has as few of the 4 as it can; the second one has a good coin.
	four := taskOf(4, impl.TkHeavy, false, false)
	few, _ := impl.PlanFor(four)
	want(t, "few coins", impl.NodesText(four, few), "-+00 1 2 6\ntell 0 heavy\n-0+0 3 4 5\ntell 0 heavy\ntell 3 heavy\ntell 2 heavy\ntell 1 heavy\n")
}

// TestCoinsArePure is for promise 1: arguments stay as they are, with the rest of their memory, and results are the same again.
func TestCoinsArePure(t *testing.T) {
	for _, task := range []impl.Task{taskOf(5, impl.TkEither, true, true), taskOf(3, impl.TkHeavy, false, false), taskOf(12, impl.TkEither, true, false)} {
		wholePlan, plan := spare(anyPlan(new(numbers), task, 20), impl.Node{Tell: heavy(77)})
		wholeCases, cases := spare(casesInOrder(task), heavy(77))
		wholeList, list := spare([]impl.Weighing{{}, weighing("-+"), weighing("+-"), {}}, impl.Weighing{77})
		w := list[1]
		call := func() []any {
			return []any{
				impl.ValidTask(task), all(impl.CasesOf(task)), all(impl.FindCase(task, cases[2])), all(impl.BoundOf(task)), impl.ValidWeighing(task, w),
				all(impl.ResultOf(task, w, cases[0])), all(impl.SplitCases(task, w, cases)), all(impl.FairestWeighing(task, cases, list)),
				all(impl.LeastWeighings(task)), all(impl.CanFind(task, 3)), all(impl.PlanFor(task)), impl.ValidPlan(task, plan), impl.SamePlan(plan, plan),
				all(impl.FollowPlan(task, plan, cases[1])), all(impl.FirstUntold(task, plan)), all(impl.DepthOf(task, plan)), all(impl.MeanDepth(task, plan)),
				all(impl.MirrorPlan(task, plan)), all(impl.SwapInPlan(task, plan, 0, 2)), impl.WeighingText(task, w),
				all(impl.ReadWeighing(task, signsOf(w, places(task)))), impl.NodesText(task, plan),
			}
		}
		before := fmt.Sprint(wholePlan, wholeCases, wholeList)
		first := call()
		for range 3 {
			want(t, fmt.Sprint("again ", task), call(), first)
		}
		want(t, "arguments", fmt.Sprint(wholePlan, wholeCases, wholeList), before)
	}
}

// TestCoinsAreNew changes results, which must change neither later ones nor arguments.
func TestCoinsAreNew(t *testing.T) {
	five := taskOf(5, impl.TkEither, true, true)
	results := func() []any {
		plan, _ := impl.PlanFor(five)
		cases, _ := impl.CasesOf(five)
		parts, _ := impl.SplitCases(five, weighing("-+"), cases)
		mirror, _ := impl.MirrorPlan(five, plan)
		swap, _ := impl.SwapInPlan(five, plan, 1, 1)
		kept := fmt.Sprint(plan, cases)
		clear(mirror[:cap(mirror)])
		clear(swap[:cap(swap)])
		for _, part := range parts {
			clear(part[:cap(part)])
		}
		want(t, "arguments", fmt.Sprint(plan, cases), kept)
		return []any{plan, cases}
	}
	first := results()
	kept := []any{slices.Clone(first[0].([]impl.Node)), slices.Clone(first[1].([]impl.Case))}
	clear(first[0].([]impl.Node))
	clear(first[1].([]impl.Case))
	if !reflect.DeepEqual(results(), kept) {
		t.Errorf("results share memory with later ones")
	}
}
