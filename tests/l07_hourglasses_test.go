package tests

import (
	"fmt"
	"math"
	"slices"
	"strings"
	"testing"

	"loop.example/g01281/impl"
)

// The model of these tests has glasses with sand above and below, which runs down minute by minute, and sets as letters.

type sand struct{ above, below int }

type shelf []sand

func shelfOf(g impl.Glasses, tops impl.Tops) shelf {
	var s shelf
	for i, runs := range g {
		s = append(s, sand{above: int(tops[i]), below: int(runs - tops[i])})
	}
	return s
}

func (s shelf) tops() impl.Tops {
	var tops impl.Tops
	for i, glass := range s {
		tops[i] = int16(glass.above)
	}
	return tops
}

func (s shelf) turned(letters string) (shelf, bool) {
	s = slices.Clone(s)
	for _, letter := range letters {
		i := int(letter - 'a')
		if i >= len(s) {
			return nil, false
		}
		s[i].above, s[i].below = s[i].below, s[i].above
	}
	return s, true
}

// minute lets one minute go by, and counts the glasses that have run and that have run out.
func (s shelf) minute() (next shelf, running, out int) {
	for _, glass := range s {
		if glass.above > 0 {
			glass.above--
			glass.below++
			running++
			if glass.above == 0 {
				out++
			}
		}
		next = append(next, glass)
	}
	return next, running, out
}

// waited stops at the end of the first minute in which a glass has run out; with false, if none has run.
func (s shelf) waited() (shelf, int64, bool) {
	for minutes := int64(1); ; minutes++ {
		next, running, out := s.minute()
		if running == 0 {
			return nil, 0, false
		}
		if out > 0 {
			return next, minutes, true
		}
		s = next
	}
}

// lived is what RunTurns has to return.
func lived(g impl.Glasses, tops impl.Tops, plan []uint8) ([]int64, impl.Tops, int64) {
	if len(plan) > 60 {
		return nil, impl.Tops{}, impl.ErrLimit
	}
	s, time, times := shelfOf(g, tops), int64(0), []int64(nil)
	for _, set := range plan {
		next, ok := s.turned(lettersOf(uint16(set)))
		if !ok {
			return nil, impl.Tops{}, impl.ErrRange
		}
		next, minutes, ok := next.waited()
		if !ok {
			return nil, impl.Tops{}, impl.ErrState
		}
		s, time = next, time+minutes
		times = append(times, time)
	}
	return times, s.tops(), impl.OK
}

// moment is where a plan leads.
type moment struct {
	time int64
	tops impl.Tops
}

// lore is what there is to know of the plans with so many sets that lead to a moment.
type lore struct {
	first []uint8
	turns int
	count int64
}

// chronicle has for each number of sets the moments to which plans lead.
type chronicle struct {
	g      impl.Glasses
	tops   impl.Tops
	most   int64
	levels []map[moment]lore
}

func (c chronicle) name() string { return impl.GlassesText(c.g, c.tops) + ": " }

type passage struct {
	set     uint8
	minutes int64
	to      impl.Tops
}

func passagesFrom(g impl.Glasses, tops impl.Tops) []passage {
	var list []passage
	for _, letters := range subsets("abcd"[:len(g)]) {
		s, _ := shelfOf(g, tops).turned(letters)
		if s, minutes, ok := s.waited(); ok {
			list = append(list, passage{uint8(setOf(letters)), minutes, s.tops()})
		}
	}
	return list
}

// chronicleOf goes on with all plans at once until they take longer than most.
func chronicleOf(g impl.Glasses, tops impl.Tops, most int64) chronicle {
	c := chronicle{g: g, tops: tops, most: most}
	known := map[impl.Tops][]passage{}
	level := map[moment]lore{{0, tops}: {count: 1}}
	for len(level) > 0 {
		c.levels = append(c.levels, level)
		next := map[moment]lore{}
		for m, l := range level {
			if _, ok := known[m.tops]; !ok {
				known[m.tops] = passagesFrom(g, m.tops)
			}
			for _, p := range known[m.tops] {
				to := moment{m.time + p.minutes, p.to}
				if to.time > most {
					continue
				}
				other := lore{slices.Concat(l.first, []uint8{p.set}), l.turns + len(lettersOf(uint16(p.set))), l.count}
				if before, ok := next[to]; ok {
					other = before.with(other)
				}
				next[to] = other
			}
		}
		level = next
	}
	return c
}

func (l lore) with(other lore) lore {
	if slices.Compare(other.first, l.first) < 0 {
		l.first = other.first
	}
	return lore{l.first, min(l.turns, other.turns), l.count + other.count}
}

// at returns what there is to know of plans with so many sets for a time, whatever the tops are then.
func (c chronicle) at(time int64, sets int) (lore, bool) {
	var all lore
	any := false
	if sets >= len(c.levels) {
		return all, false
	}
	for m, l := range c.levels[sets] {
		if m.time != time {
			continue
		}
		if any {
			l = all.with(l)
		}
		all, any = l, true
	}
	return all, any
}

func (c chronicle) topsAt(time int64) []impl.Tops {
	var list []impl.Tops
	for _, level := range c.levels {
		for m := range level {
			if m.time == time && !slices.Contains(list, m.tops) {
				list = append(list, m.tops)
			}
		}
	}
	slices.SortFunc(list, func(a, b impl.Tops) int { return slices.Compare(a[:], b[:]) })
	return list
}

func glasses(t *testing.T, text string) (impl.Glasses, impl.Tops) {
	t.Helper()
	g, tops, code := impl.ReadGlasses(text)
	want(t, "code of "+text, code, int64(impl.OK))
	return g, tops
}

// glassesTexts have with them how far a chronicle can go without taking long.
var glassesTexts = []struct {
	text string
	most int64
}{
	{"0/1", 120}, {"1/1", 120}, {"0/2", 120}, {"1/2", 120}, {"2/2", 120}, {"1/3", 120}, {"0/40", 120}, {"1/40", 120}, {"20/40", 120}, {"40/40", 120}, {"7/9", 100},
	{"0/1 0/1", 60}, {"1/1 1/1", 60}, {"0/4 0/7", 120}, {"4/4 7/7", 120}, {"2/4 2/4", 120}, {"0/4 0/4", 120}, {"1/4 3/7", 90}, {"0/7 0/11", 120}, {"0/6 0/9", 120}, {"6/6 3/9", 120}, {"0/6 0/8", 120},
	{"0/40 0/40", 120}, {"40/40 20/40", 120}, {"0/39 0/40", 120}, {"1/39 0/40", 90}, {"0/5 0/40", 90}, {"0/3 0/6", 60}, {"0/2 0/4", 60},
	{"0/3 0/5 0/8", 30}, {"3/3 5/5 8/8", 30}, {"0/4 0/4 0/4", 40}, {"4/4 2/4 0/4", 40}, {"0/2 0/4 0/8", 32}, {"0/12 0/15 0/9", 60}, {"2/13 4/13 6/13", 26}, {"0/6 1/10 5/15", 20}, {"0/1 0/39 0/36", 40}, {"0/1 0/2 0/3", 24},
	{"0/1 0/1 0/1 0/1", 12}, {"1/1 1/1 1/1 1/1", 12}, {"0/2 0/3 0/5 0/7", 14}, {"2/2 3/3 5/5 7/7", 14}, {"0/6 0/6 0/6 0/6", 24}, {"6/6 3/6 2/6 1/6", 14}, {"0/2 0/9 0/9 0/9", 13}, {"0/8 0/4 0/12 0/4", 36}, {"3/3 3/3 6/6 6/6", 30},
}

// someChronicles are those of the texts, and others.
func someChronicles(t *testing.T) []chronicle {
	t.Helper()
	var list []chronicle
	for _, row := range glassesTexts {
		g, tops := glasses(t, row.text)
		list = append(list, chronicleOf(g, tops, row.most))
	}
	n := numbers(7)
	for len(list) < len(glassesTexts)+20 {
		g, tops := anyGlasses(&n, 1+n.below(3))
		list = append(list, chronicleOf(g, tops, 20))
	}
	return list
}

func anyGlasses(n *numbers, count int) (impl.Glasses, impl.Tops) {
	for {
		var g impl.Glasses
		var tops impl.Tops
		for i := range count {
			g = append(g, int16(1+n.below(1+n.below(impl.MaxGlass))))
			tops[i] = int16(n.below(int(g[i]) + 1))
		}
		if impl.ValidGlasses(g) {
			return g, tops
		}
	}
}

func badGlasses() []impl.Glasses {
	return []impl.Glasses{
		nil, {}, {0}, {-1}, {41}, {math.MaxInt16}, {math.MinInt16}, {60}, {4, 0}, {0, 4}, {4, -7}, {-4, -7}, {4, 41}, {41, 4}, {4, 7, 0}, {4, 7, 4, 0}, {-1, 41}, {-2, -3, -4, -5},
		{40, 40, 1}, {1, 40, 40}, {2, 6, 10, 12}, {13, 13, 15}, {6, 6, 7, 7}, {40, 40, 40, 40}, {math.MaxInt16, math.MaxInt16, math.MaxInt16, math.MaxInt16}, {1, 1, 1, 1, 1}, {4, 7, 4, 7, 4}, make(impl.Glasses, 1000000), slices.Repeat(impl.Glasses{1}, 1000000),
	}
}

func TestHourglassesExample(t *testing.T) {
	g, tops, code := impl.ReadGlasses("0/4 0/7")
	want(t, "read", all(g, tops, code), all(impl.Glasses{4, 7}, impl.Tops{}, int64(0)))
	plan, code := impl.ReadTurns("ab a b b")
	want(t, "plan", all(plan, code), all([]uint8{3, 1, 2, 2}, int64(0)))
	times, _, code := impl.RunTurns(g, tops, plan)
	want(t, "events", all(times, code), all([]int64{4, 7, 8, 9}, int64(0)))
	want(t, "measures", all(impl.CheckTurns(g, tops, plan, 9)), all(true, int64(0)))
	want(t, "found", all(impl.PlanFrom(g, tops, 9)), all(plan, int64(0)))
	want(t, "never", all(impl.NeverFrom(g, tops, 120)), all([]int64{1, 2, 3, 5, 6}, int64(0)))
	want(t, "fewest turns", all(impl.FewestTurns(g, tops, 8)), all(int64(2), int64(0)))
	want(t, "a, and a again", all(impl.CheckTurns(g, tops, []uint8{1, 1}, 8)), all(true, int64(0)))
	want(t, "step", all(impl.StepOfGlasses(g, tops)), all(int64(1), int64(0)))
	want(t, "limits", []int{impl.MaxGlasses, impl.MaxGlass, impl.MaxTops, impl.MaxTime, impl.MaxPlan}, []int{4, 40, 3000, 120, 60})
}

func TestValidHourglasses(t *testing.T) {
	for _, g := range []impl.Glasses{{1}, {40}, {40, 40}, {7, 4}, {4, 7}, {4, 4}, {2, 9, 9, 9}, {9, 9, 9, 2}, {1, 14, 9, 9}, {13, 13, 13}, {1, 1, 1, 1}, {1, 1, 17, 40}, {6, 6, 6, 6}} {
		want(t, fmt.Sprint(g), impl.ValidGlasses(g), true)
		var full impl.Tops
		copy(full[:], g)
		want(t, fmt.Sprint(g, " run out"), impl.ValidTops(g, impl.Tops{}), true)
		want(t, fmt.Sprint(g, " full"), impl.ValidTops(g, full), true)
		for i := range full {
			for _, change := range []int16{1, 2, 100, math.MaxInt16 - 40} {
				more, less := full, impl.Tops{}
				more[i] += change
				less[i] -= change
				want(t, fmt.Sprint(g, more), impl.ValidTops(g, more), false)
				want(t, fmt.Sprint(g, less), impl.ValidTops(g, less), false)
			}
		}
	}
}

func someSets() []uint8 { return []uint8{0, 1, 2, 3, 4, 8, 15, 16, 17, 128, 255} }

func somePlans() [][]uint8 {
	return [][]uint8{nil, {}, {0}, {1}, {3, 1}, {0, 255}, {16}, {255}, make([]uint8, 60), make([]uint8, 61), slices.Repeat([]uint8{1}, 60), slices.Repeat([]uint8{255}, 61), make([]uint8, 1000000)}
}

// checkInvalidTops calls every function with other arguments that have errors, too.
func checkInvalidTops(t *testing.T, g impl.Glasses, tops impl.Tops) {
	t.Helper()
	name := fmt.Sprint(g[:min(len(g), 5)], tops)
	want(t, name, impl.ValidTops(g, tops), false)
	want(t, name, impl.GlassesText(g, tops), "")
	for _, set := range someSets() {
		wantZero(t, name, impl.ErrInvalid, all(impl.TurnGlasses(g, tops, set)))
	}
	wantZero(t, name, impl.ErrInvalid, all(impl.WaitFor(g, tops)))
	for _, plan := range somePlans() {
		wantZero(t, name, impl.ErrInvalid, all(impl.RunTurns(g, tops, plan)))
		for _, time := range []int64{0, 4, -1, 121} {
			wantZero(t, name, impl.ErrInvalid, all(impl.CheckTurns(g, tops, plan, time)))
		}
	}
	for _, time := range append([]int64{0, 1, 4, 120, 121}, badNumbers...) {
		wantZero(t, name, impl.ErrInvalid, all(impl.TimesFrom(g, tops, time)))
		wantZero(t, name, impl.ErrInvalid, all(impl.NeverFrom(g, tops, time)))
		wantZero(t, name, impl.ErrInvalid, all(impl.PlanFrom(g, tops, time)))
		wantZero(t, name, impl.ErrInvalid, all(impl.FewestTurns(g, tops, time)))
		wantZero(t, name, impl.ErrInvalid, all(impl.TopsAfter(g, tops, time)))
		for _, events := range []int64{0, 1, 12, 13, -1} {
			wantZero(t, name, impl.ErrInvalid, all(impl.PlansFor(g, tops, time, events)))
		}
	}
	wantZero(t, name, impl.ErrInvalid, all(impl.StepOfGlasses(g, tops)))
	wantZero(t, name, impl.ErrInvalid, all(impl.RunsDown(g, tops)))
}

func TestInvalidHourglassesComeFirst(t *testing.T) {
	for _, g := range badGlasses() {
		want(t, fmt.Sprint(g[:min(len(g), 5)]), impl.ValidGlasses(g), false)
		for _, tops := range []impl.Tops{{}, {1}, {0, 1}, {-1}, {4, 7}} {
			checkInvalidTops(t, g, tops)
		}
	}
	g := impl.Glasses{4, 7}
	for _, tops := range []impl.Tops{{5}, {0, 8}, {4, 8}, {5, 7}, {-1}, {0, -1}, {0, 0, 1}, {0, 0, 0, 1}, {0, 0, -1}, {0, 0, 0, -1}, {4, 7, 4}, {math.MaxInt16}, {math.MinInt16}, {0, math.MinInt16}, {7, 4}} {
		checkInvalidTops(t, g, tops)
	}
}

func TestTimesOutOfRange(t *testing.T) {
	for _, text := range []string{"0/1", "0/4 0/7", "4/4 7/7", "0/6 0/6 0/6 0/6"} {
		g, tops := glasses(t, text)
		for _, time := range append([]int64{121, 122, 256, 1 << 16}, badNumbers...) {
			name := fmt.Sprint(text, ": ", time)
			wantZero(t, name, impl.ErrRange, all(impl.TimesFrom(g, tops, time)))
			wantZero(t, name, impl.ErrRange, all(impl.NeverFrom(g, tops, time)))
			wantZero(t, name, impl.ErrRange, all(impl.PlanFrom(g, tops, time)))
			wantZero(t, name, impl.ErrRange, all(impl.FewestTurns(g, tops, time)))
			wantZero(t, name, impl.ErrRange, all(impl.TopsAfter(g, tops, time)))
			for _, events := range []int64{0, 1, 12, 13, -1} {
				wantZero(t, name, impl.ErrRange, all(impl.PlansFor(g, tops, time, events)))
			}
			for _, plan := range somePlans() {
				wantZero(t, name, impl.ErrRange, all(impl.CheckTurns(g, tops, plan, time)))
			}
		}
		for _, events := range append([]int64{13, 14, 256, 1 << 16}, badNumbers...) {
			for _, time := range []int64{0, 1, 4, 120} {
				wantZero(t, fmt.Sprint(text, ": events ", events), impl.ErrRange, all(impl.PlansFor(g, tops, time, events)))
			}
		}
	}
}

// everyTops are all valid tops.
func everyTops(g impl.Glasses) []impl.Tops {
	list := []impl.Tops{{}}
	for i, runs := range g {
		var longer []impl.Tops
		for left := range runs + 1 {
			for _, tops := range list {
				tops[i] = left
				longer = append(longer, tops)
			}
		}
		list = longer
	}
	return list
}

// TestTurnsAndEvents is for promise 14: a turned glass runs as long as it has run, and an event comes when a glass runs out, and not before.
func TestTurnsAndEvents(t *testing.T) {
	for _, g := range []impl.Glasses{{1}, {2}, {40}, {1, 1}, {4, 7}, {4, 4}, {6, 3}, {40, 40}, {3, 4, 5}, {4, 4, 4}, {1, 2, 3, 4}, {2, 2, 2, 2}, {3, 3, 6, 6}} {
		for _, tops := range everyTops(g) {
			name := fmt.Sprint(g, tops)
			checkTurned(t, name, g, tops)
			checkWaited(t, name, g, tops)
			want(t, name+" run down", all(impl.RunsDown(g, tops)), all(int64(max(tops[0], tops[1], tops[2], tops[3])), int64(0)))
		}
	}
}

// checkTurned also checks that glasses that are turned twice at once are as they were.
func checkTurned(t *testing.T, name string, g impl.Glasses, tops impl.Tops) {
	t.Helper()
	for set := range 256 {
		s, ok := shelfOf(g, tops).turned(lettersOf(uint16(set)))
		if !ok {
			wantZero(t, fmt.Sprint(name, " set ", set), impl.ErrRange, all(impl.TurnGlasses(g, tops, uint8(set))))
			continue
		}
		turned, code := impl.TurnGlasses(g, tops, uint8(set))
		want(t, fmt.Sprint(name, " set ", set), all(turned, code), all(s.tops(), int64(0)))
		want(t, fmt.Sprint(name, " twice ", set), all(impl.TurnGlasses(g, turned, uint8(set))), all(tops, int64(0)))
	}
}

func checkWaited(t *testing.T, name string, g impl.Glasses, tops impl.Tops) {
	t.Helper()
	s, minutes, ok := shelfOf(g, tops).waited()
	if !ok {
		want(t, name, tops, impl.Tops{})
		wantZero(t, name+" wait", impl.ErrState, all(impl.WaitFor(g, tops)))
		return
	}
	next, took, code := impl.WaitFor(g, tops)
	want(t, name+" wait", all(next, took, code), all(s.tops(), minutes, int64(0)))
	out := 0
	for i, left := range tops {
		if left > 0 && int64(left) < took {
			t.Errorf("%s: the glass %d has run out %d minutes before the event", name, i, took-int64(left))
		}
		if left > 0 && next[i] == 0 {
			out++
		}
	}
	want(t, name+" some glass runs out", out > 0 && took > 0, true)
}

func TestGlassesThatRunOutAtOnce(t *testing.T) {
	g := impl.Glasses{4, 4, 8}
	want(t, "two of three", all(impl.WaitFor(g, impl.Tops{3, 3, 8})), all(impl.Tops{0, 0, 5}, int64(3), int64(0)))
	want(t, "one before", all(impl.WaitFor(g, impl.Tops{3, 2, 8})), all(impl.Tops{1, 0, 6}, int64(2), int64(0)))
	want(t, "all", all(impl.WaitFor(g, impl.Tops{4, 4, 4})), all(impl.Tops{}, int64(4), int64(0)))
	want(t, "one event", all(impl.RunTurns(g, impl.Tops{}, []uint8{7, 0})), all([]int64{4, 8}, impl.Tops{}, int64(0)))
	wantZero(t, "and none behind it", impl.ErrState, all(impl.RunTurns(g, impl.Tops{}, []uint8{7, 0, 0})))
	want(t, "turned when both run out", all(impl.RunTurns(g, impl.Tops{}, []uint8{7, 3})), all([]int64{4, 8}, impl.Tops{}, int64(0)))
	want(t, "turned when all run out", all(impl.RunTurns(g, impl.Tops{}, []uint8{7, 3, 5})), all([]int64{4, 8, 12}, impl.Tops{0, 0, 4}, int64(0)))
	wantZero(t, "turned empty", impl.ErrState, all(impl.RunTurns(g, impl.Tops{4, 4}, []uint8{3})))
	want(t, "tops behind one event", all(impl.TopsAfter(impl.Glasses{4, 4}, impl.Tops{}, 4)), all([]impl.Tops{{}}, int64(0)))
	want(t, "plans behind one event", all(impl.PlansFor(impl.Glasses{4, 4}, impl.Tops{}, 4, 1)), all(int64(3), int64(0)))
	want(t, "never between", all(impl.TimesFrom(impl.Glasses{4, 4}, impl.Tops{}, 11)), all([]int64{0, 4, 8}, int64(0)))
}

// TestRunTurns is for promise 14, with plans that cannot be run to their ends, too.
func TestRunTurns(t *testing.T) {
	n := numbers(14)
	codes := map[int64]int{}
	for _, row := range glassesTexts {
		g, tops := glasses(t, row.text)
		for i := range 60 {
			plan := make([]uint8, n.below(6)+i/6*n.below(7))
			for k := range plan {
				plan[k] = uint8(n.below(1 << len(g)))
				if n.below(3) == 0 {
					plan[k] |= 1
				}
				if n.below(300) == 0 {
					plan[k] = uint8(1<<len(g) + n.below(200))
				}
			}
			codes[checkRun(t, g, tops, plan)]++
		}
	}
	for _, code := range []int64{impl.OK, impl.ErrRange, impl.ErrState} {
		want(t, fmt.Sprint("there is the code ", code), codes[code] > 0, true)
	}
}

func checkRun(t *testing.T, g impl.Glasses, tops impl.Tops, plan []uint8) int64 {
	t.Helper()
	name := fmt.Sprint(impl.GlassesText(g, tops), ": ", plan)
	times, end, code := lived(g, tops, plan)
	last := int64(0)
	switch {
	case code != impl.OK:
		wantZero(t, name, code, all(impl.RunTurns(g, tops, plan)))
		last = -1
	case len(plan) == 0:
		list, same, code := impl.RunTurns(g, tops, plan)
		want(t, name, all(len(list), same, code), all(0, tops, int64(0)))
	default:
		want(t, name, all(impl.RunTurns(g, tops, plan)), all(times, end, int64(0)))
		last = times[len(times)-1]
	}
	step, _ := impl.StepOfGlasses(g, tops)
	for _, time := range times {
		want(t, fmt.Sprint(name, ": ", time, " of the step ", step), time%step, int64(0))
	}
	for _, time := range []int64{0, 1, last - 1, last, last + 1, 120} {
		if time >= 0 && time <= 120 {
			want(t, fmt.Sprint(name, " measures ", time), all(impl.CheckTurns(g, tops, plan, time)), all(time == last, int64(0)))
		}
	}
	return code
}

func TestPlansOfManyTurns(t *testing.T) {
	g, tops := glasses(t, "0/1 0/40")
	want(t, "60 sets", checkRun(t, g, tops, slices.Repeat([]uint8{1}, 60)), int64(impl.OK))
	want(t, "60 long sets", checkRun(t, g, tops, slices.Repeat([]uint8{2}, 60)), int64(impl.OK))
	times, _, code := impl.RunTurns(g, tops, slices.Repeat([]uint8{2}, 60))
	want(t, "60 long sets", all(times[59], code), all(int64(2400), int64(0)))
	for _, plan := range [][]uint8{slices.Repeat([]uint8{1}, 61), make([]uint8, 61), slices.Repeat([]uint8{4}, 61), slices.Repeat([]uint8{255}, 1000000)} {
		wantZero(t, "more than 60 sets", impl.ErrLimit, all(impl.RunTurns(g, tops, plan)))
		want(t, "more than 60 sets", all(impl.CheckTurns(g, tops, plan, int64(min(len(plan), 120)))), all(false, int64(0)))
	}
	wantZero(t, "state before range", impl.ErrState, all(impl.RunTurns(g, tops, []uint8{0, 4})))
	wantZero(t, "range before state", impl.ErrRange, all(impl.RunTurns(g, tops, []uint8{4, 0})))
	wantZero(t, "state behind another set", impl.ErrState, all(impl.RunTurns(g, tops, []uint8{1, 0, 4})))
	wantZero(t, "range behind another set", impl.ErrRange, all(impl.RunTurns(g, tops, []uint8{1, 4, 0})))
	wantZero(t, "a glass that is none, without sand", impl.ErrRange, all(impl.RunTurns(g, tops, []uint8{8})))
}

// TestTimes is for promises 14 and 15: what can be measured, and by which plans, is as in the chronicle.
func TestTimes(t *testing.T) {
	for _, c := range someChronicles(t) {
		var times, never []int64
		for time := range c.most + 1 {
			if checkTime(t, c, time) {
				times = append(times, time)
			} else {
				never = append(never, time)
			}
			list, code := impl.TimesFrom(c.g, c.tops, time)
			want(t, fmt.Sprint(c.name(), "times up to ", time), all(list, code), all(times, int64(0)))
			list, code = impl.NeverFrom(c.g, c.tops, time)
			want(t, fmt.Sprint(c.name(), "never up to ", time), all(fmt.Sprint(list), code), all(fmt.Sprint(never), int64(0)))
		}
	}
}

// checkTime reports whether a time can be measured.
func checkTime(t *testing.T, c chronicle, time int64) bool {
	t.Helper()
	name := fmt.Sprint(c.name(), time)
	step, _ := impl.StepOfGlasses(c.g, c.tops)
	var first []uint8
	turns, measured := 0, false
	for sets := range max(len(c.levels), 13) {
		l, any := c.at(time, sets)
		if sets <= 12 {
			want(t, fmt.Sprint(name, ": plans with ", sets), all(impl.PlansFor(c.g, c.tops, time, int64(sets))), all(l.count, int64(0)))
		}
		if any && !measured {
			first, turns, measured = l.first, l.turns, true
		}
		if any {
			turns = min(turns, l.turns)
		}
	}
	list, code := impl.TopsAfter(c.g, c.tops, time)
	want(t, name+": tops", all(fmt.Sprint(list), code), all(fmt.Sprint(c.topsAt(time)), int64(0)))
	if !measured {
		wantZero(t, name+": plan", impl.ErrNotFound, all(impl.PlanFrom(c.g, c.tops, time)))
		wantZero(t, name+": turns", impl.ErrNotFound, all(impl.FewestTurns(c.g, c.tops, time)))
		return false
	}
	want(t, name+": a multiple of the step", time%step, int64(0))
	plan, code := impl.PlanFrom(c.g, c.tops, time)
	want(t, name+": plan", all(slices.Concat(plan), code), all(slices.Concat(first), int64(0)))
	checkMeasures(t, c.g, c.tops, plan, time)
	want(t, name+": turns", all(impl.FewestTurns(c.g, c.tops, time)), all(int64(turns), int64(0)))
	return true
}

// checkMeasures runs a plan in parts if it has more sets than RunTurns takes.
func checkMeasures(t *testing.T, g impl.Glasses, tops impl.Tops, plan []uint8, time int64) {
	t.Helper()
	name := fmt.Sprint(impl.GlassesText(g, tops), ": ", plan, " for ", time)
	want(t, name, all(impl.CheckTurns(g, tops, plan, time)), all(len(plan) <= impl.MaxPlan, int64(0)))
	last := int64(0)
	for part := range slices.Chunk(plan, impl.MaxPlan) {
		times, end, code := impl.RunTurns(g, tops, part)
		want(t, name, all(len(times), code), all(len(part), int64(0)))
		if code != impl.OK {
			return
		}
		last, tops = last+times[len(times)-1], end
	}
	want(t, name, last, time)
}

// eachPlan goes through all plans with so many sets of some glasses, in their order.
func eachPlan(sets, length int, seen func(plan []uint8)) {
	plan := make([]uint8, length)
	var fill func(at int)
	fill = func(at int) {
		if at == length {
			seen(plan)
			return
		}
		for set := range sets {
			plan[at] = uint8(set)
			fill(at + 1)
		}
	}
	fill(0)
}

// TestEachPlan is for promise 15: it tries all plans, without a search.
func TestEachPlan(t *testing.T) {
	for text, most := range map[string]int{"0/4 0/7": 7, "1/3 5/5": 7, "2/4 2/4": 7, "0/6 0/9": 6, "3/5": 10, "0/2 0/3 0/7": 4, "2/2 4/4 5/5": 4, "0/2 0/3 0/5 0/7": 3} {
		g, tops := glasses(t, text)
		first := map[int64]string{}
		for sets := range most + 1 {
			counts := map[int64]int64{}
			eachPlan(1<<len(g), sets, func(plan []uint8) {
				times, _, code := lived(g, tops, plan)
				if code != impl.OK {
					return
				}
				time := int64(0)
				if sets > 0 {
					time = times[sets-1]
				}
				counts[time]++
				if _, known := first[time]; !known {
					first[time] = fmt.Sprint(plan)
				}
			})
			for time := range int64(121) {
				want(t, fmt.Sprint(text, ": plans with ", sets, " for ", time), all(impl.PlansFor(g, tops, time, int64(sets))), all(counts[time], int64(0)))
			}
		}
		for time := range int64(121) {
			plan, code := impl.PlanFrom(g, tops, time)
			told, known := first[time]
			name := fmt.Sprint(text, ": ", time, " with ", plan)
			if known {
				want(t, name, all(fmt.Sprint(plan), code), all(told, int64(0)))
			} else {
				want(t, name+", not with fewer", code == impl.ErrNotFound || len(plan) > most, true)
			}
		}
	}
}

func TestKnownTimes(t *testing.T) {
	for _, row := range []struct {
		glasses string
		time    int64
		plan    string
		turns   int64
	}{
		{"0/4 0/7", 0, "", 0}, {"0/4 0/7", 4, "a", 1}, {"0/4 0/7", 7, "b", 1}, {"0/4 0/7", 8, "a a", 2}, {"0/4 0/7", 9, "ab a b b", 5}, {"0/7 0/11", 15, "ab a a", 4}, {"0/5 0/8", 11, "ab a a", 4}, {"0/5 0/8", 40, "b b b b b", 5},
		{"4/4 7/7", 4, "-", 0}, {"4/4 7/7", 7, "a", 0}, {"7/7", 7, "-", 0}, {"3/7", 3, "-", 0}, {"3/7", 4, "a", 1}, {"3/7", 10, "- a", 1}, {"3/7", 11, "a a", 2}, {"2/4", 2, "-", 0}, {"2/4", 6, "- a", 1},
		{"0/40", 120, "a a a", 3}, {"0/40 0/40", 120, "a a a", 3}, {"40/40 40/40", 120, "- a a", 2}, {"0/1 1/1 0/1 0/1", 1, "-", 0}, {"0/1 1/1 0/1 0/1", 2, "- a", 1},
	} {
		g, tops := glasses(t, row.glasses)
		name := fmt.Sprint(row.glasses, ": ", row.time)
		plan, code := impl.PlanFrom(g, tops, row.time)
		want(t, name, all(impl.TurnsText(plan), code), all(row.plan, int64(0)))
		want(t, name, all(impl.CheckTurns(g, tops, plan, row.time)), all(true, int64(0)))
		want(t, name, all(impl.FewestTurns(g, tops, row.time)), all(row.turns, int64(0)))
	}
	g, tops := glasses(t, "4/4 7/7")
	want(t, "without sets", all(impl.TopsAfter(g, tops, 0)), all([]impl.Tops{{4, 7}}, int64(0)))
	want(t, "without sets", all(impl.PlansFor(g, tops, 0, 0)), all(int64(1), int64(0)))
	want(t, "no time with sets", all(impl.PlansFor(g, tops, 0, 1)), all(int64(0), int64(0)))
	want(t, "time without sets", all(impl.PlansFor(g, tops, 4, 0)), all(int64(0), int64(0)))
	want(t, "up to 0", all(impl.TimesFrom(g, tops, 0)), all([]int64{0}, int64(0)))
	wantZero(t, "from 1 to 0", impl.OK, all(impl.NeverFrom(g, tops, 0)))
	wantZero(t, "no tops", impl.OK, all(impl.TopsAfter(g, tops, 1)))
	many := impl.Glasses{1, 1, 1, 1}
	count := int64(0)
	for sets := int64(1); sets <= 12; sets++ {
		n, _ := impl.PlansFor(many, impl.Tops{}, sets, sets)
		want(t, "each set but the empty one", n > count, true)
		count = n
	}
	want(t, "most plans", count, int64(129746337890625)) // 15 to the power 12
}

// TestPlansOfManySets has plans that are longer than what RunTurns takes: a time can be measured with any number of sets.
func TestPlansOfManySets(t *testing.T) {
	g, tops := glasses(t, "0/1")
	for _, sets := range []int{59, 60, 61, 120} {
		time := int64(sets)
		want(t, fmt.Sprint(sets, " sets"), all(impl.PlanFrom(g, tops, time)), all(slices.Repeat([]uint8{1}, sets), int64(0)))
		want(t, fmt.Sprint(sets, " turns"), all(impl.FewestTurns(g, tops, time)), all(time, int64(0)))
		want(t, fmt.Sprint(sets, " sets are checked"), all(impl.CheckTurns(g, tops, slices.Repeat([]uint8{1}, sets), time)), all(sets <= 60, int64(0)))
	}
	times, code := impl.TimesFrom(g, tops, 120)
	want(t, "all times", all(len(times), code), all(121, int64(0)))
}

// TestStepsOfGlasses is for promise 14.
func TestStepsOfGlasses(t *testing.T) {
	for text, step := range map[string]int64{"0/4 0/7": 1, "0/4 0/6": 2, "4/4 6/6": 2, "1/4 0/6": 1, "3/6 0/9": 3, "0/40": 40, "10/40": 10, "15/40": 5, "0/40 0/40": 40, "0/12 0/18 0/6": 6, "0/12 0/18 4/6": 2, "0/8 0/4 0/12 0/4": 4, "0/1 0/1 0/1 0/1": 1, "40/40 0/32": 8} {
		g, tops := glasses(t, text)
		want(t, text, all(impl.StepOfGlasses(g, tops)), all(step, int64(0)))
		times, code := impl.TimesFrom(g, tops, 120)
		want(t, text, code, int64(0))
		for _, time := range times {
			want(t, fmt.Sprint(text, ": ", time), time%step, int64(0))
		}
	}
}

func TestTurnsIn(t *testing.T) {
	for _, row := range []struct {
		plan  []uint8
		turns int64
	}{{nil, 0}, {[]uint8{}, 0}, {[]uint8{0}, 0}, {[]uint8{15}, 4}, {[]uint8{1, 2, 4, 8}, 4}, {[]uint8{3, 1, 2, 2}, 5}, {make([]uint8, 60), 0}, {slices.Repeat([]uint8{15}, 60), 240}, {slices.Repeat([]uint8{7}, 59), 177}} {
		want(t, fmt.Sprint(row.plan), all(impl.TurnsIn(row.plan)), all(row.turns, int64(0)))
	}
	for set := range 240 {
		bad := uint8(16 + set)
		for _, plan := range [][]uint8{{bad}, {0, bad}, {bad, 0}, append(make([]uint8, 60), bad), append(make([]uint8, 100), bad)} {
			wantZero(t, fmt.Sprint(plan), impl.ErrRange, all(impl.TurnsIn(plan)))
			want(t, fmt.Sprint(plan), impl.TurnsText(plan), "")
		}
	}
	for _, plan := range [][]uint8{make([]uint8, 61), slices.Repeat([]uint8{15}, 61), make([]uint8, 1000000)} {
		wantZero(t, "many sets", impl.ErrLimit, all(impl.TurnsIn(plan)))
		want(t, "many sets", impl.TurnsText(plan), "")
	}
}

func TestTextsOfGlasses(t *testing.T) {
	for _, g := range []impl.Glasses{{1}, {4, 7}, {4, 4}, {3, 2, 1}, {1, 2, 3, 2}} {
		for _, tops := range everyTops(g) {
			var words []string
			for i, runs := range g {
				words = append(words, fmt.Sprint(tops[i], "/", runs))
			}
			text := strings.Join(words, " ")
			want(t, "text", impl.GlassesText(g, tops), text)
			want(t, "read "+text, all(impl.ReadGlasses(text)), all(g, tops, int64(0)))
		}
	}
	for _, row := range glassesTexts {
		g, tops := glasses(t, row.text)
		want(t, "text", impl.GlassesText(g, tops), row.text)
	}
	for _, text := range []string{
		"", " ", "/", "4", "4/", "/4", "0/4/7", "0/4 ", " 0/4", "0/4  0/7", "0/4\t0/7", "0/4\n", "0 /4", "0/ 4", "0/4,0/7", "0/4 7", "0/4 tap", "0/4 0/7 tap", "tap", " tap", "0/4tap", "x/4", "0/x",
		"5/4", "0/0", "-1/4", "0/-4", "+0/4", "0/+4", "00/4", "0/04", "0/4.0", "0x0/4", "0/4_0", "0/41", "41/41", "0/60", "0/61", "0/32768", "0/65540", "65536/4", "0/99999999999999999999", "99999999999999999999/4",
		"0/40 0/40 0/1", "0/2 0/6 0/10 0/12", "0/6 0/6 0/7 0/7", "0/40 0/40 0/40 0/40", "0/1 0/1 0/1 0/1 0/1", "0/4 5/4", "8/4 0/7", "0/4 0/7 0/0", strings.Repeat("0/1 ", 250000), strings.Repeat(" ", 1000000), strings.Repeat("0", 999998) + "/4", "0/" + strings.Repeat("4", 999998),
	} {
		wantZero(t, fmt.Sprintf("text %.40q", text), impl.ErrSyntax, all(impl.ReadGlasses(text)))
	}
}

func TestTextsOfTurns(t *testing.T) {
	n := numbers(77)
	for length := range 61 {
		for range 4 {
			plan := make([]uint8, length)
			words := make([]string, length)
			for i := range plan {
				plan[i] = uint8(n.below(16))
				words[i] = lettersOf(uint16(plan[i]))
				if plan[i] == 0 {
					words[i] = "-"
				}
			}
			text := strings.Join(words, " ")
			want(t, "text", impl.TurnsText(plan), text)
			read, code := impl.ReadTurns(text)
			want(t, "read "+text, all(slices.Equal(read, plan), code), all(true, int64(0)))
		}
	}
	wantZero(t, "the empty text", impl.OK, all(impl.ReadTurns("")))
	want(t, "no sets", impl.TurnsText(nil), "")
	for set, text := range []string{"-", "a", "b", "ab", "c", "ac", "bc", "abc", "d", "ad", "bd", "abd", "cd", "acd", "bcd", "abcd"} {
		want(t, "text", impl.TurnsText([]uint8{uint8(set)}), text)
		want(t, "read "+text, all(impl.ReadTurns(text)), all([]uint8{uint8(set)}, int64(0)))
	}
	for _, text := range []string{
		" ", "  ", "e", "ab e", "h", "abcdefgh", "i", "ba", "aa", "a-", "-a", "--", "a  b", " a", "a ", "a b ", "A", "ab,a", "a\tb", "a\nb", "a\n", "0", "1", "3", "abcde", "acb", "dcba", "-  -", "ä", "\xff", "a\x00",
		strings.Repeat("a ", 60), strings.Repeat("a ", 60) + "a", strings.Repeat("a ", 61) + "a", strings.Repeat("- ", 62) + "-", strings.Repeat("a ", 60) + "e", strings.Repeat("a ", 499999) + "a", strings.Repeat("a", 1000000), strings.Repeat(" ", 1000000),
	} {
		wantZero(t, fmt.Sprintf("text %.40q", text), impl.ErrSyntax, all(impl.ReadTurns(text)))
	}
}

// TestHourglassesArePure is for promise 1: arguments stay as they are, with the rest of their memory, and results are the same again.
func TestHourglassesArePure(t *testing.T) {
	for _, text := range []string{"0/4 0/7", "4/4 7/7", "2/4 2/4", "0/3 0/5 0/8", "0/2 0/3 0/5 0/7", "0/40", "1/1"} {
		g, tops := glasses(t, text)
		plan, _ := impl.PlanFrom(g, tops, 40)
		bad := append(slices.Clone(plan), 255)
		wholeGlasses, g := spare(g, 77)
		wholePlan, plan := spare(plan, 77)
		wholeBad, bad := spare(bad, 77)
		call := func() []any {
			return []any{
				impl.ValidGlasses(g), impl.ValidTops(g, tops), all(impl.TurnGlasses(g, tops, 1)), all(impl.TurnGlasses(g, tops, 16)), all(impl.WaitFor(g, tops)), all(impl.RunTurns(g, tops, plan)), all(impl.RunTurns(g, tops, bad)),
				all(impl.TimesFrom(g, tops, 50)), all(impl.NeverFrom(g, tops, 50)), all(impl.PlanFrom(g, tops, 40)), all(impl.PlanFrom(g, tops, 1)), all(impl.CheckTurns(g, tops, plan, 40)), all(impl.CheckTurns(g, tops, bad, 40)),
				all(impl.FewestTurns(g, tops, 40)), all(impl.PlansFor(g, tops, 40, 10)), all(impl.TopsAfter(g, tops, 40)), all(impl.StepOfGlasses(g, tops)), all(impl.RunsDown(g, tops)),
				all(impl.TurnsIn(plan)), all(impl.TurnsIn(bad)), impl.GlassesText(g, tops), all(impl.ReadGlasses(text)), impl.TurnsText(plan), all(impl.ReadTurns("ab - a")),
			}
		}
		before := fmt.Sprint(wholeGlasses, wholePlan, wholeBad)
		first := call()
		for range 3 {
			want(t, "again "+text, call(), first)
		}
		want(t, "arguments", fmt.Sprint(wholeGlasses, wholePlan, wholeBad), before)
	}
}

// TestHourglassesAreNew changes results, which must change neither later ones nor arguments.
func TestHourglassesAreNew(t *testing.T) {
	g, tops := glasses(t, "0/4 0/7")
	plan := []uint8{3, 1, 2, 2}
	results := func() string {
		times, _, _ := impl.RunTurns(g, tops, plan)
		can, _ := impl.TimesFrom(g, tops, 20)
		never, _ := impl.NeverFrom(g, tops, 20)
		found, _ := impl.PlanFrom(g, tops, 9)
		after, _ := impl.TopsAfter(g, tops, 20)
		read, _, _ := impl.ReadGlasses("0/4 0/7")
		turns, _ := impl.ReadTurns("ab a b b")
		shown := fmt.Sprint(times, can, never, found, after, read, turns)
		clear(times[:cap(times)])
		clear(can[:cap(can)])
		clear(never[:cap(never)])
		clear(found[:cap(found)])
		clear(after[:cap(after)])
		clear(read[:cap(read)])
		clear(turns[:cap(turns)])
		want(t, "arguments", all(g, plan), all(impl.Glasses{4, 7}, []uint8{3, 1, 2, 2}))
		return shown
	}
	want(t, "results share memory with later ones", results(), results())
}
