package drum_test

import (
	"fmt"
	"math"
	"math/rand"
	"slices"
	"strings"
	"testing"

	"dovecote/api"
	"dovecote/drum"
)

const maxRoom = 1048576

// noAreas are numbers that no area has.
var noAreas = []int{-1, 4, 5, math.MinInt, math.MaxInt, 1 << 32, -1 << 32}

// made answers a drum of room bytes with the areas that are named, each empty.
func made(t *testing.T, room int, areas ...int) *drum.Drum {
	t.Helper()
	d, err := drum.New(room)
	if d == nil || err != api.OK {
		t.Fatalf("New(%d): %v, %d", room, d, err)
	}
	for _, area := range areas {
		fine(t, d.Lay(area))
	}
	return d
}

// fine checks that no step was refused.
func fine(t *testing.T, steps ...api.Errno) {
	t.Helper()
	for i, err := range steps {
		if err != api.OK {
			t.Fatalf("step %d: %d", i, err)
		}
	}
}

// refused checks that a step was refused by want.
func refused(t *testing.T, what string, err, want api.Errno) {
	t.Helper()
	if err != want {
		t.Errorf("%s: %d instead of %d", what, err, want)
	}
}

// short answers s for a failure's message.
func short(s string) string {
	if len(s) > 40 {
		return fmt.Sprintf("%q.. (%d bytes)", s[:40], len(s))
	}
	return fmt.Sprintf("%q", s)
}

// holds checks that an area is there with these bytes.
func holds(t *testing.T, d *drum.Drum, area int, want string) {
	t.Helper()
	if got, err := d.Read(area); got != want || err != api.OK {
		t.Errorf("Read(%d): %s, %d instead of %s", area, short(got), err, short(want))
	}
	if !d.Has(area) {
		t.Errorf("Has(%d): false", area)
	}
}

// absent checks that an area isn't there.
func absent(t *testing.T, d *drum.Drum, area int) {
	t.Helper()
	if got, err := d.Read(area); got != "" || err != api.ErrNone {
		t.Errorf("Read(%d): %s, %d instead of ErrNone", area, short(got), err)
	}
	if d.Has(area) {
		t.Errorf("Has(%d): true", area)
	}
}

// uses checks what Used answers.
func uses(t *testing.T, d *drum.Drum, want int) {
	t.Helper()
	if got := d.Used(); got != want {
		t.Errorf("Used: %d instead of %d", got, want)
	}
}

// stands checks what Down answers.
func stands(t *testing.T, d *drum.Drum, down bool) {
	t.Helper()
	if got := d.Down(); got != down {
		t.Errorf("Down: %v", got)
	}
}

// steps answers a step of each kind that a drum with room does if area is there with bytes, but the Lay, which is of other.
func steps(d *drum.Drum, area, other int) map[string]func() api.Errno {
	return map[string]func() api.Errno{
		"Lay":         func() api.Errno { return d.Lay(other) },
		"Cut":         func() api.Errno { return d.Cut(area) },
		"Trim":        func() api.Errno { return d.Trim(area, 1) },
		"Trim behind": func() api.Errno { return d.Trim(area, 1000) },
		"Write":       func() api.Errno { return d.Write(area, "z") },
		"Write empty": func() api.Errno { return d.Write(area, "") },
		"Sync":        func() api.Errno { return d.Sync(area) },
	}
}

// P4.1

func TestNew(t *testing.T) {
	for _, room := range []int{-1, maxRoom + 1, math.MinInt, math.MaxInt, 1 << 32, -1 << 32} {
		if d, err := drum.New(room); d != nil || err != api.ErrArg {
			t.Errorf("New(%d): %v, %d", room, d, err)
		}
	}
	for _, room := range []int{0, 1, 10, maxRoom - 1, maxRoom} {
		d := made(t, room)
		stands(t, d, false)
		uses(t, d, 0)
		for area := range 4 {
			absent(t, d, area)
		}
		fine(t, d.Lay(0), d.Write(0, strings.Repeat("x", room)))
		refused(t, "a byte too much", d.Write(0, "x"), api.ErrFull)
		uses(t, d, room)
	}
}

func TestNewHasNoLimitOfSteps(t *testing.T) {
	d := made(t, 10, 0)
	for range 10000 {
		fine(t, d.Sync(0))
	}
	stands(t, d, false)
}

func TestDrumsAreApart(t *testing.T) {
	a, b := made(t, 10, 0), made(t, 10, 1)
	fine(t, a.Write(0, "abc"))
	a.Fuel(0)
	refused(t, "Sync", a.Sync(0), api.ErrDown)
	absent(t, b, 0)
	holds(t, b, 1, "")
	stands(t, b, false)
	uses(t, b, 0)
	fine(t, b.Write(1, "x"))
	uses(t, a, 3)
}

// An example of the chapter.
func TestExample(t *testing.T) {
	d := made(t, 10)
	fine(t, d.Lay(0), d.Write(0, "ab"), d.Sync(0), d.Write(0, "cd"))
	d.Fall([]int{1})
	holds(t, d, 0, "abc")
	d.Fuel(1)
	fine(t, d.Write(0, "e"))
	refused(t, "Sync", d.Sync(0), api.ErrDown)
}

func TestNoAreas(t *testing.T) {
	d := made(t, 10, 0, 1, 2, 3)
	fine(t, d.Write(0, "ab"), d.Write(3, "c"))
	for _, area := range noAreas {
		refused(t, "Lay", d.Lay(area), api.ErrArg)
		refused(t, "Cut", d.Cut(area), api.ErrArg)
		refused(t, "Trim", d.Trim(area, 0), api.ErrArg)
		refused(t, "Trim below 0", d.Trim(area, -1), api.ErrArg)
		refused(t, "Write", d.Write(area, "x"), api.ErrArg)
		refused(t, "Write empty", d.Write(area, ""), api.ErrArg)
		refused(t, "Write too much", d.Write(area, "12345678901"), api.ErrArg)
		refused(t, "Sync", d.Sync(area), api.ErrArg)
		if s, err := d.Read(area); s != "" || err != api.ErrArg {
			t.Errorf("Read(%d): %s, %d", area, short(s), err)
		}
		if d.Has(area) {
			t.Errorf("Has(%d)", area)
		}
	}
	holds(t, d, 0, "ab")
	holds(t, d, 1, "")
	holds(t, d, 2, "")
	holds(t, d, 3, "c")
	d.Fall(nil)
	uses(t, d, 0)
}

func TestAreasThatAreNotThere(t *testing.T) {
	for area := range 4 {
		d := made(t, 10)
		for other := range 4 {
			if other != area {
				fine(t, d.Lay(other))
			}
		}
		for range 2 {
			refused(t, "Cut", d.Cut(area), api.ErrNone)
			refused(t, "Trim", d.Trim(area, 0), api.ErrNone)
			refused(t, "Trim behind", d.Trim(area, 5), api.ErrNone)
			refused(t, "Trim below 0", d.Trim(area, -1), api.ErrNone)
			refused(t, "Write", d.Write(area, "x"), api.ErrNone)
			refused(t, "Write empty", d.Write(area, ""), api.ErrNone)
			refused(t, "Write too much", d.Write(area, "12345678901"), api.ErrNone)
			refused(t, "Sync", d.Sync(area), api.ErrNone)
			absent(t, d, area)
			fine(t, d.Lay(area), d.Write(area, "abc"), d.Cut(area)) // and then once more
		}
		uses(t, d, 0)
	}
}

func TestLay(t *testing.T) {
	for area := range 4 {
		d := made(t, 10)
		fine(t, d.Lay(area))
		for other := range 4 {
			if other == area {
				holds(t, d, other, "")
			} else {
				absent(t, d, other)
			}
		}
		fine(t, d.Write(area, "abc"), d.Sync(area), d.Write(area, "de"))
		refused(t, "Lay of one that is there", d.Lay(area), api.ErrArg)
		holds(t, d, area, "abcde")
		uses(t, d, 5)
		d.Fall(nil)
		holds(t, d, area, "abc")
	}
}

func TestLaidAtOnce(t *testing.T) {
	d := made(t, 10, 2)
	d.Fall(nil)
	holds(t, d, 2, "")
	absent(t, d, 1)
}

func TestCut(t *testing.T) {
	for area := range 4 {
		d := made(t, 10, 0, 1, 2, 3)
		for other := range 4 {
			fine(t, d.Write(other, "ab"))
		}
		fine(t, d.Sync(area), d.Write(area, "c"), d.Cut(area))
		absent(t, d, area)
		uses(t, d, 6)
		refused(t, "Cut", d.Cut(area), api.ErrNone)
		d.Fall([]int{9, 9, 9, 9})
		absent(t, d, area)
		for other := range 4 {
			if other != area {
				holds(t, d, other, "ab")
			}
		}
	}
}

// Of what an area held nothing comes back, and nothing of it counts as sure.
func TestCutAndLaidAnew(t *testing.T) {
	d := made(t, 10, 0)
	fine(t, d.Write(0, "abcdef"), d.Sync(0), d.Cut(0), d.Lay(0))
	holds(t, d, 0, "")
	fine(t, d.Write(0, "xyz"))
	holds(t, d, 0, "xyz")
	d.Fall([]int{1})
	holds(t, d, 0, "x")
}

func TestTrim(t *testing.T) {
	for _, c := range []struct {
		n    int
		want string
	}{
		{0, ""}, {1, "a"}, {2, "ab"}, // within the sure bytes
		{3, "abc"},                // at their end
		{4, "abcd"}, {5, "abcde"}, // within the pending ones
		{6, "abcdef"}, // at the end
		{7, "abcdef"}, {1000, "abcdef"}, {math.MaxInt, "abcdef"},
	} {
		d := made(t, 20, 1, 2)
		fine(t, d.Write(2, "other"), d.Write(1, "abc"), d.Sync(1), d.Write(1, "def"))
		fine(t, d.Trim(1, c.n))
		holds(t, d, 1, c.want)
		uses(t, d, 5+len(c.want))
		fine(t, d.Write(1, "xy"))
		holds(t, d, 1, c.want+"xy")
		d.Fall([]int{0, 1})
		holds(t, d, 1, c.want+"x") // all that were left are sure, what came behind them isn't
		holds(t, d, 2, "")
	}
}

func TestTrimOfPendingAlone(t *testing.T) {
	for n := range 5 {
		d := made(t, 10, 0)
		fine(t, d.Write(0, "abc"), d.Trim(0, n))
		d.Fall(nil)
		holds(t, d, 0, "abc"[:min(n, 3)])
	}
}

func TestTrimBelow0(t *testing.T) {
	for _, n := range []int{-1, -2, math.MinInt} {
		d := made(t, 10, 0)
		refused(t, "Trim of nothing", d.Trim(0, n), api.ErrArg)
		fine(t, d.Write(0, "ab"), d.Sync(0), d.Write(0, "cd"))
		refused(t, "Trim", d.Trim(0, n), api.ErrArg)
		holds(t, d, 0, "abcd")
		d.Fall(nil)
		holds(t, d, 0, "ab") // nothing became sure by it
	}
}

func TestWrite(t *testing.T) {
	d := made(t, 100, 0, 3)
	all := ""
	for _, s := range []string{"a", "", "bc", "\x00\xff", "ä🕊", "\xd7", ""} {
		fine(t, d.Write(0, s))
		all += s
		holds(t, d, 0, all)
		holds(t, d, 3, "")
		uses(t, d, len(all))
	}
}

func TestWriteFillsTheRoom(t *testing.T) {
	d := made(t, 10, 0, 1, 2, 3)
	fine(t, d.Write(0, "abc"), d.Sync(0), d.Write(1, "de"), d.Write(3, "f"))
	refused(t, "a byte too much", d.Write(2, "12345"), api.ErrFull)
	refused(t, "much too much", d.Write(2, strings.Repeat("x", 1<<21)), api.ErrFull)
	holds(t, d, 2, "")
	uses(t, d, 6)
	fine(t, d.Write(2, "1234"))
	uses(t, d, 10)
	for area := range 4 {
		refused(t, "a byte too much", d.Write(area, "x"), api.ErrFull)
		fine(t, d.Write(area, ""))
	}
	holds(t, d, 0, "abc")
	holds(t, d, 1, "de")
	holds(t, d, 2, "1234")
	holds(t, d, 3, "f")
}

func TestWriteBehindWhatMadeRoom(t *testing.T) {
	for what, free := range map[string]func(d *drum.Drum){
		"Cut":  func(d *drum.Drum) { d.Cut(1) },
		"Trim": func(d *drum.Drum) { d.Trim(1, 0) },
		"Fall": func(d *drum.Drum) { d.Fall([]int{9}) },
	} {
		d := made(t, 10, 0, 1)
		fine(t, d.Write(0, "abcd"), d.Write(1, "123456"))
		refused(t, what, d.Write(0, "e"), api.ErrFull)
		free(d)
		refused(t, what, d.Write(0, "efghijk"), api.ErrFull)
		fine(t, d.Write(0, "efghij"))
		holds(t, d, 0, "abcdefghij")
	}
}

func TestWriteWithoutRoom(t *testing.T) {
	d := made(t, 0, 0)
	fine(t, d.Write(0, ""))
	refused(t, "Write", d.Write(0, "x"), api.ErrFull)
	holds(t, d, 0, "")
}

func TestWriteOfTheGreatestRoom(t *testing.T) {
	d := made(t, maxRoom, 0, 1)
	half := strings.Repeat("a", maxRoom/2)
	fine(t, d.Write(0, half), d.Write(1, half[1:]))
	refused(t, "Write", d.Write(1, "xy"), api.ErrFull)
	fine(t, d.Write(1, "x"))
	refused(t, "Write", d.Write(0, "x"), api.ErrFull)
	uses(t, d, maxRoom)
	d.Fall([]int{maxRoom, maxRoom / 2})
	holds(t, d, 0, half)
	holds(t, d, 1, half[1:]+"x")
}

// ErrFull is told by what all areas have together, whatever of it is sure.
func TestRefusedWriteLeavesAll(t *testing.T) {
	d := made(t, 5, 0)
	fine(t, d.Write(0, "ab"), d.Sync(0), d.Write(0, "cd"))
	refused(t, "Write", d.Write(0, "ef"), api.ErrFull)
	holds(t, d, 0, "abcd")
	d.Fall([]int{1})
	holds(t, d, 0, "abc")
}

func TestSync(t *testing.T) {
	d := made(t, 20, 0, 1)
	fine(t, d.Sync(0), d.Write(0, "ab"), d.Write(1, "cd"), d.Sync(0), d.Write(0, "e"))
	holds(t, d, 0, "abe")
	fine(t, d.Sync(0), d.Sync(0), d.Write(0, "f"))
	d.Fall(nil)
	holds(t, d, 0, "abe")
	holds(t, d, 1, "")
}

// What was read stays as it was, whatever is done to the drum.
func TestReadStays(t *testing.T) {
	d := made(t, 10, 0)
	fine(t, d.Write(0, "abcd"))
	s, _ := d.Read(0)
	fine(t, d.Trim(0, 1), d.Write(0, "xyz"))
	if s != "abcd" {
		t.Errorf("what was read is %s now", short(s))
	}
	holds(t, d, 0, "axyz")
}

func TestFuel(t *testing.T) {
	for _, n := range []int{0, 1, 2, 7} {
		d := made(t, 10, 0)
		d.Fuel(n)
		for range n {
			fine(t, d.Write(0, "a"))
		}
		stands(t, d, false)
		holds(t, d, 0, strings.Repeat("a", n))
		refused(t, "Write", d.Write(0, "b"), api.ErrDown)
		stands(t, d, true)
		uses(t, d, n)
		d.Fall([]int{10})
		holds(t, d, 0, strings.Repeat("a", n))
	}
}

func TestFuelBelow0(t *testing.T) {
	for _, n := range []int{-1, -2, -1000, math.MinInt} {
		d := made(t, 10, 0)
		for _, before := range []int{0, 1, 3} {
			d.Fuel(before)
			d.Fuel(n)
			for range 3000 {
				fine(t, d.Sync(0))
			}
		}
	}
}

func TestFuelOfTheGreatestNumber(t *testing.T) {
	d := made(t, 10, 0)
	d.Fuel(math.MaxInt)
	for range 3000 {
		fine(t, d.Sync(0))
	}
}

// It is the last Fuel that counts; what was left ahead of it isn't added.
func TestFuelAnew(t *testing.T) {
	for _, before := range []int{-1, 0, 1, 5} {
		d := made(t, 10, 0)
		d.Fuel(before)
		d.Fuel(2)
		fine(t, d.Sync(0), d.Sync(0))
		refused(t, "Sync", d.Sync(0), api.ErrDown)
	}
}

// Each kind of step uses one of fuel, and without it does nothing.
func TestEachStepUsesFuel(t *testing.T) {
	for what := range steps(nil, 0, 0) {
		d := made(t, 10, 0, 2)
		fine(t, d.Write(0, "ab"), d.Sync(0), d.Write(0, "cd"))
		d.Fuel(1)
		fine(t, steps(d, 0, 1)[what]())
		stands(t, d, false)
		refused(t, what, d.Sync(2), api.ErrDown)
		stands(t, d, true)

		d = made(t, 10, 0)
		fine(t, d.Write(0, "ab"), d.Sync(0), d.Write(0, "cd"))
		d.Fuel(0)
		refused(t, what, steps(d, 0, 1)[what](), api.ErrDown)
		stands(t, d, true)
		uses(t, d, 4)
		if !d.Has(0) || d.Has(1) {
			t.Errorf("%s: done without fuel", what)
		}
		d.Fall([]int{1})
		holds(t, d, 0, "abc") // neither trimmed nor synced
		absent(t, d, 1)
	}
}

// wrongSteps answers the errors of steps that are wrong of a drum of 10 bytes with area 0 alone, which has four.
func wrongSteps(d *drum.Drum) (got, want []api.Errno) {
	for _, area := range []int{-1, 4} {
		got = append(got, d.Lay(area), d.Cut(area), d.Trim(area, 0), d.Write(area, ""), d.Sync(area))
		want = append(want, slices.Repeat([]api.Errno{api.ErrArg}, 5)...)
	}
	got = append(got, d.Lay(0), d.Trim(0, -1), d.Write(0, "1234567"))
	want = append(want, api.ErrArg, api.ErrArg, api.ErrFull)
	got = append(got, d.Cut(1), d.Trim(1, 0), d.Write(1, ""), d.Sync(1))
	want = append(want, slices.Repeat([]api.Errno{api.ErrNone}, 4)...)
	return got, want
}

func TestErrorsUseNoFuel(t *testing.T) {
	for _, fuel := range []int{0, 1, 2} {
		d := made(t, 10, 0)
		fine(t, d.Write(0, "abcd"))
		d.Fuel(fuel)
		for range 3 {
			if got, want := wrongSteps(d); !slices.Equal(got, want) {
				t.Errorf("fuel %d: %v instead of %v", fuel, got, want)
			}
			stands(t, d, false)
		}
		for range fuel {
			fine(t, d.Write(0, "e"))
		}
		if got, want := wrongSteps(d); !slices.Equal(got, want) {
			t.Errorf("fuel %d, used: %v instead of %v", fuel, got, want)
		}
		holds(t, d, 0, "abcdee"[:4+fuel])
		stands(t, d, false)
		refused(t, "Sync", d.Sync(0), api.ErrDown)
	}
}

func TestAskingUsesNoFuel(t *testing.T) {
	d := made(t, 10, 0)
	fine(t, d.Write(0, "ab"))
	d.Fuel(1)
	for area := -1; area < 5; area++ {
		d.Read(area)
		d.Has(area)
		d.Used()
		d.Down()
	}
	fine(t, d.Write(0, "c"))
	holds(t, d, 0, "abc") // and without any fuel they answer all the same
	uses(t, d, 3)
	stands(t, d, false)
	refused(t, "Sync", d.Sync(0), api.ErrDown)
}

// checkDown checks each call, at right and wrong arguments, of a drum of 10 bytes that is down, has area 0 with four bytes, and no other.
func checkDown(t *testing.T, d *drum.Drum) {
	t.Helper()
	for _, area := range append([]int{0, 1, 2, 3}, noAreas...) {
		refused(t, "Lay", d.Lay(area), api.ErrDown)
		for _, n := range []int{-1, 0, 1, 4, 5} {
			refused(t, "Trim", d.Trim(area, n), api.ErrDown)
		}
		for _, s := range []string{"", "x", "123456", "1234567"} {
			refused(t, "Write", d.Write(area, s), api.ErrDown)
		}
		refused(t, "Sync", d.Sync(area), api.ErrDown)
		refused(t, "Cut", d.Cut(area), api.ErrDown)
		if s, err := d.Read(area); s != "" || err != api.ErrDown {
			t.Errorf("Read(%d): %s, %d", area, short(s), err)
		}
		if got := d.Has(area); got != (area == 0) {
			t.Errorf("Has(%d): %v", area, got)
		}
	}
	uses(t, d, 4)
	stands(t, d, true)
}

func TestCallsOfADrumThatIsDown(t *testing.T) {
	d := made(t, 10, 0)
	fine(t, d.Write(0, "ab"), d.Sync(0), d.Write(0, "cd"))
	d.Fuel(0)
	refused(t, "Write", d.Write(0, "e"), api.ErrDown)
	checkDown(t, d)
	for _, n := range []int{-1, 0, 1, 100} { // fuel doesn't raise it
		d.Fuel(n)
		checkDown(t, d)
	}
	d.Fall([]int{1})
	stands(t, d, false)
	holds(t, d, 0, "abc")
	for area := 1; area < 4; area++ {
		absent(t, d, area)
	}
}

// A fall takes the limit away, be it one of a drum that is up or down, and laid down while it was down or ahead of it.
func TestFallTakesTheLimit(t *testing.T) {
	for _, fuel := range []int{0, 1, 2} {
		for _, down := range []bool{false, true} {
			d := made(t, 10, 0)
			if down {
				d.Fuel(0)
				refused(t, "Sync", d.Sync(0), api.ErrDown)
			}
			d.Fuel(fuel)
			stands(t, d, down)
			d.Fall(nil)
			stands(t, d, false)
			for range 100 {
				fine(t, d.Sync(0))
			}
			d.Fuel(1)
			fine(t, d.Sync(0))
			refused(t, "Sync", d.Sync(0), api.ErrDown)
		}
	}
}

func TestFall(t *testing.T) {
	for _, c := range []struct {
		keep []int
		want [4]string // area 2 isn't there
	}{
		{nil, [4]string{"ab", "", "", "xyz"}},
		{[]int{}, [4]string{"ab", "", "", "xyz"}},
		{[]int{0}, [4]string{"ab", "", "", "xyz"}},
		{[]int{1}, [4]string{"abc", "", "", "xyz"}},
		{[]int{2}, [4]string{"abcd", "", "", "xyz"}},
		{[]int{3}, [4]string{"abcde", "", "", "xyz"}},
		{[]int{4}, [4]string{"abcde", "", "", "xyz"}},
		{[]int{math.MaxInt}, [4]string{"abcde", "", "", "xyz"}},
		{[]int{-1}, [4]string{"ab", "", "", "xyz"}},
		{[]int{math.MinInt}, [4]string{"ab", "", "", "xyz"}},
		{[]int{-1, 1}, [4]string{"ab", "1", "", "xyz"}},
		{[]int{0, 2}, [4]string{"ab", "12", "", "xyz"}},
		{[]int{1, -1, 5}, [4]string{"abc", "", "", "xyz"}},
		{[]int{1, 1, 1, 1}, [4]string{"abc", "1", "", "xyz"}},
		{[]int{9, 9, 9, 9}, [4]string{"abcde", "12", "", "xyz"}},
		{[]int{math.MaxInt, math.MaxInt, math.MaxInt, math.MaxInt}, [4]string{"abcde", "12", "", "xyz"}},
		{[]int{math.MinInt, math.MaxInt, math.MinInt, math.MinInt}, [4]string{"ab", "12", "", "xyz"}},
		{[]int{-2, 1, 0, 0, 9, -9, math.MaxInt}, [4]string{"ab", "1", "", "xyz"}},
	} {
		for _, down := range []bool{false, true} {
			d := made(t, 20, 0, 1, 3)
			fine(t, d.Write(0, "ab"), d.Sync(0), d.Write(0, "cd"), d.Write(0, "e"), d.Write(1, "12"), d.Write(3, "xyz"), d.Sync(3))
			if down {
				d.Fuel(0)
				refused(t, "Sync", d.Sync(0), api.ErrDown)
			}
			given := slices.Clone(c.keep)
			d.Fall(given)
			if !slices.Equal(given, c.keep) {
				t.Errorf("Fall(%v) has made %v of it", c.keep, given)
			}
			stands(t, d, false)
			used := 0
			for _, area := range []int{0, 1, 3} {
				holds(t, d, area, c.want[area])
				used += len(c.want[area])
			}
			absent(t, d, 2)
			uses(t, d, used)
			fine(t, d.Write(0, "more"))
			d.Fall(nil)
			for _, area := range []int{0, 1, 3} {
				holds(t, d, area, c.want[area]) // what was kept is sure
			}
		}
	}
}

// What keep is made of later is nothing to the drum.
func TestKeepIsNotKept(t *testing.T) {
	d := made(t, 10, 0)
	keep := []int{1, 0, 0, 0}[:1]
	fine(t, d.Write(0, "ab"))
	d.Fall(keep)
	keep[0] = 5
	fine(t, d.Write(0, "cd"))
	d.Fall(nil)
	holds(t, d, 0, "a")
	if !slices.Equal(keep[:4], []int{5, 0, 0, 0}) {
		t.Errorf("the room behind keep: %v", keep[:4])
	}
}

func TestNil(t *testing.T) {
	var d *drum.Drum
	for range 2 {
		for _, area := range append([]int{0, 1, 2, 3}, noAreas...) {
			for _, err := range []api.Errno{d.Lay(area), d.Cut(area), d.Trim(area, 0), d.Trim(area, -1), d.Write(area, ""), d.Write(area, "x"), d.Sync(area)} {
				refused(t, "a step", err, api.ErrDown)
			}
			if s, err := d.Read(area); s != "" || err != api.ErrDown {
				t.Errorf("Read(%d): %s, %d", area, short(s), err)
			}
			if d.Has(area) {
				t.Errorf("Has(%d): true", area)
			}
		}
		uses(t, d, 0)
		stands(t, d, true)
		d.Fuel(5)
		d.Fall(nil)
		d.Fall([]int{1, 2, 3, 4, 5}) // and behind these it is as down as before
	}
}

// plain is a drum found another way than the program's: texts, and an area that isn't there has none.
type plain struct {
	room, fuel    int
	limited, down bool
	sure, pending map[int]string
}

func newPlain(room int) *plain {
	return &plain{room: room, sure: map[int]string{}, pending: map[int]string{}}
}

func (p *plain) used() int {
	n := 0
	for area := range p.sure {
		n += len(p.sure[area] + p.pending[area])
	}
	return n
}

// call is a call with its arguments.
type call struct {
	name string
	area int
	n    int
	s    string
	keep []int
}

// wrong answers what stands against a step, but for fuel.
func (p *plain) wrong(c call) api.Errno {
	_, there := p.sure[c.area]
	switch {
	case p.down:
		return api.ErrDown
	case c.area < 0 || c.area > 3:
		return api.ErrArg
	case c.name == "Lay" && there:
		return api.ErrArg
	case c.name != "Lay" && !there:
		return api.ErrNone
	case c.name == "Trim" && c.n < 0:
		return api.ErrArg
	case c.name == "Write" && p.used()+len(c.s) > p.room:
		return api.ErrFull
	}
	return api.OK
}

func (p *plain) step(c call) api.Errno {
	if err := p.wrong(c); err != api.OK {
		return err
	}
	if p.limited && p.fuel == 0 {
		p.down = true
		return api.ErrDown
	}
	p.fuel--
	all := p.sure[c.area] + p.pending[c.area]
	switch c.name {
	case "Lay":
		p.sure[c.area], p.pending[c.area] = "", ""
	case "Cut":
		delete(p.sure, c.area)
		delete(p.pending, c.area)
	case "Trim":
		if c.n < len(all) {
			all = all[:c.n]
		}
		p.sure[c.area], p.pending[c.area] = all, ""
	case "Write":
		p.pending[c.area] += c.s
	case "Sync":
		p.sure[c.area], p.pending[c.area] = all, ""
	}
	return api.OK
}

func (p *plain) fall(keep []int) {
	for area := range p.sure {
		for i := 0; i < len(p.pending[area]) && area < len(keep) && i < keep[area]; i++ {
			p.sure[area] += p.pending[area][i : i+1]
		}
		p.pending[area] = ""
	}
	p.down, p.limited, p.fuel = false, false, 0
}

// do makes the call c, and answers the error, if it has one.
func (p *plain) do(c call) api.Errno {
	switch c.name {
	case "Fuel":
		p.limited, p.fuel = c.n >= 0, c.n
	case "Fall":
		p.fall(c.keep)
	default:
		return p.step(c)
	}
	return api.OK
}

// do makes the call c of d, and answers the error, if it has one.
func do(d *drum.Drum, c call) api.Errno {
	switch c.name {
	case "Lay":
		return d.Lay(c.area)
	case "Cut":
		return d.Cut(c.area)
	case "Trim":
		return d.Trim(c.area, c.n)
	case "Write":
		return d.Write(c.area, c.s)
	case "Sync":
		return d.Sync(c.area)
	case "Fuel":
		d.Fuel(c.n)
	case "Fall":
		d.Fall(c.keep)
	default:
		panic("no call " + c.name)
	}
	return api.OK
}

// same tells where what d answers when asked is otherwise than it should be; "" if nowhere.
func same(d *drum.Drum, p *plain) string {
	if d.Down() != p.down || d.Used() != p.used() {
		return fmt.Sprintf("Down %v, Used %d instead of %v, %d", d.Down(), d.Used(), p.down, p.used())
	}
	for area := -1; area < 5; area++ {
		_, there := p.sure[area]
		if d.Has(area) != there {
			return fmt.Sprintf("Has(%d): %v", area, d.Has(area))
		}
		want := p.wrong(call{name: "Read", area: area})
		text := ""
		if want == api.OK {
			text = p.sure[area] + p.pending[area]
		}
		if s, err := d.Read(area); s != text || err != want {
			return fmt.Sprintf("Read(%d): %s, %d instead of %s, %d", area, short(s), err, short(text), want)
		}
	}
	return ""
}

// checkCalls makes calls of a new drum of room bytes, and holds each answer against what it should be.
func checkCalls(t *testing.T, room int, calls []call) {
	t.Helper()
	d, p := made(t, room), newPlain(room)
	for i, c := range calls {
		if got, want := do(d, c), p.do(c); got != want {
			t.Fatalf("%v: at %d: %d instead of %d", calls, i, got, want)
		}
		if otherwise := same(d, p); otherwise != "" {
			t.Fatalf("%v: at %d: %s", calls, i, otherwise)
		}
	}
}

// All orders of four calls out of these, behind a first Lay and ahead of a fall.
func TestCallsInAnyOrder(t *testing.T) {
	kinds := []call{
		{name: "Lay", area: 0},
		{name: "Lay", area: 3},
		{name: "Lay", area: 4},
		{name: "Cut", area: 0},
		{name: "Trim", area: 0, n: 1},
		{name: "Trim", area: 0, n: -1},
		{name: "Trim", area: 3, n: 9},
		{name: "Write", area: 0, s: "abc"},
		{name: "Write", area: 3, s: "xy"},
		{name: "Write", area: 0},
		{name: "Sync", area: 0},
		{name: "Sync", area: 3},
		{name: "Sync", area: -1},
		{name: "Fuel", n: 0},
		{name: "Fuel", n: 2},
		{name: "Fuel", n: -1},
		{name: "Fall"},
		{name: "Fall", keep: []int{1, 0, 0, 1}},
		{name: "Fall", keep: []int{-1, 5, 5, 5, 5}},
	}
	orders := [][]call{{{name: "Lay", area: 0}}}
	for range 4 {
		var longer [][]call
		for _, calls := range orders {
			for _, c := range kinds {
				longer = append(longer, append(slices.Clone(calls), c))
			}
		}
		orders = longer
	}
	for _, calls := range orders {
		checkCalls(t, 5, append(calls, call{name: "Fall", keep: []int{1}}))
	}
}

// chance answers a call, most often one that has something to do.
func chance(r *rand.Rand) call {
	area := r.Intn(4)
	if r.Intn(12) == 0 {
		area = r.Intn(9) - 2
	}
	switch r.Intn(14) {
	case 0, 1:
		return call{name: "Lay", area: area}
	case 2:
		return call{name: "Cut", area: area}
	case 3, 4:
		return call{name: "Trim", area: area, n: r.Intn(30) - 2}
	case 5, 6, 7, 8:
		return call{name: "Write", area: area, s: "abcdefghijklmnopqrstuvwxyz"[r.Intn(20):][:r.Intn(7)]}
	case 9, 10, 11:
		return call{name: "Sync", area: area}
	case 12:
		return call{name: "Fuel", n: r.Intn(12) - 2}
	}
	keep := make([]int, r.Intn(7))
	for i := range keep {
		keep[i] = r.Intn(12) - 2
	}
	return call{name: "Fall", keep: keep}
}

func TestCallsByChance(t *testing.T) {
	r := rand.New(rand.NewSource(41))
	for range 3000 {
		calls := make([]call, r.Intn(80))
		for i := range calls {
			calls[i] = chance(r)
		}
		checkCalls(t, r.Intn(50), calls)
	}
}

// Each call ends and none panics, whatever it is given.
func TestAnyArguments(t *testing.T) {
	numbers := []int{math.MinInt, math.MinInt + 1, -1 << 32, -1, 0, 1, 2, 3, 4, 5, 1 << 31, 1 << 32, math.MaxInt - 1, math.MaxInt}
	r := rand.New(rand.NewSource(42))
	anyNumber := func() int { return numbers[r.Intn(len(numbers))] }
	for range 300 {
		var calls []call
		for range 40 {
			c := chance(r)
			if r.Intn(2) == 0 {
				c.n = anyNumber()
			}
			if r.Intn(4) == 0 {
				c.area = anyNumber()
			}
			for i := range c.keep {
				c.keep[i] = anyNumber()
			}
			calls = append(calls, c)
		}
		checkCalls(t, 30, calls)
	}
}

// P4.2

// written is what the steps that were done have left of an area, by what the chapter says of each: all of it, and how much is sure.
type written struct {
	there bool
	all   string
	sure  int
}

// after answers what is there when the step c has been done.
func (w written) after(c call) written {
	switch c.name {
	case "Lay":
		return written{there: true}
	case "Cut":
		return written{}
	case "Trim":
		w.all = w.all[:min(c.n, len(w.all))]
		w.sure = len(w.all)
	case "Write":
		w.all += c.s
	case "Sync":
		w.sure = len(w.all)
	}
	return w
}

// checkFall lets d fall, and checks that of what was written what is sure is there, and nothing that isn't a beginning.
func checkFall(t *testing.T, d *drum.Drum, areas [4]written, keep []int) {
	t.Helper()
	d.Fall(keep)
	for area, w := range areas {
		if !w.there {
			absent(t, d, area)
			continue
		}
		got, err := d.Read(area)
		if err != api.OK || !strings.HasPrefix(got, w.all[:w.sure]) || !strings.HasPrefix(w.all, got) {
			t.Errorf("behind Fall(%v) area %d: %s, %d; written: %s, sure: %d", keep, area, short(got), err, short(w.all), w.sure)
		}
		if area < len(keep) && keep[area] == len(w.all)-w.sure && got != w.all {
			t.Errorf("behind Fall(%v) area %d: %s instead of all of %s", keep, area, short(got), short(w.all))
		}
		d.Fall(nil)
		holds(t, d, area, got) // and another fall takes nothing of it
	}
}

// falls lets drums fall ahead of each of the steps and behind them all, with fuel at an end or while they are up.
func falls(t *testing.T, calls []call, keep []int) {
	t.Helper()
	for n := range len(calls) + 1 {
		var areas [4]written
		up, out := made(t, 1000), made(t, 1000)
		out.Fuel(n)
		for _, c := range calls[:n] {
			fine(t, do(up, c), do(out, c))
			areas[c.area] = areas[c.area].after(c)
		}
		if n < len(calls) {
			refused(t, calls[n].name, do(out, calls[n]), api.ErrDown)
			stands(t, out, true)
		}
		checkFall(t, up, areas, keep)
		checkFall(t, out, areas, keep)
	}
}

func TestFallAtAnyStep(t *testing.T) {
	calls := []call{
		{name: "Lay", area: 0},
		{name: "Write", area: 0, s: "ab"},
		{name: "Sync", area: 0},
		{name: "Write", area: 0, s: "cd"},
		{name: "Lay", area: 3},
		{name: "Write", area: 3, s: "uvw"},
		{name: "Write", area: 0, s: "ef"},
		{name: "Trim", area: 3, n: 2},
		{name: "Write", area: 3, s: "xyz"},
		{name: "Sync", area: 0},
		{name: "Trim", area: 0, n: 1},
		{name: "Write", area: 0, s: "ghi"},
		{name: "Cut", area: 3},
		{name: "Lay", area: 3},
		{name: "Write", area: 3, s: "12"},
		{name: "Trim", area: 0, n: 100},
		{name: "Write", area: 0, s: "jk"},
		{name: "Sync", area: 3},
	}
	for _, keep := range [][]int{nil, {0}, {9, 9, 9, 9}, {-1, -1, -1, -1}, {math.MaxInt, 0, 0, math.MinInt}} {
		falls(t, calls, keep)
	}
	for first := range 8 {
		for last := range 8 {
			falls(t, calls, []int{first, 0, 0, last})
		}
	}
}

func TestFallAtAnyStepByChance(t *testing.T) {
	r := rand.New(rand.NewSource(43))
	for range 400 {
		var calls []call
		there := [4]bool{}
		for len(calls) < 25 {
			c := chance(r)
			isStep := c.name != "Fuel" && c.name != "Fall"
			if !isStep || c.area < 0 || c.area > 3 || c.n < 0 || there[c.area] == (c.name == "Lay") {
				continue
			}
			there[c.area] = c.name != "Cut"
			calls = append(calls, c)
		}
		keep := make([]int, r.Intn(6))
		for i := range keep {
			keep[i] = r.Intn(10) - 1
		}
		falls(t, calls, keep)
	}
}
