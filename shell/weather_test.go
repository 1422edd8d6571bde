package shell_test

import (
	"fmt"
	"math/rand"
	"strings"
	"testing"
)

// asked is a line that asks for something.
func asked(r *rand.Rand) string {
	sets := []string{"tank/a", "tank/a", "tank/b", "tank/a/c", "tank/v", "tank/new"}
	d := func() string { return sets[r.Intn(len(sets))] }
	fs := func() string { return sets[r.Intn(4)] }
	snap := func() string { return string(rune('s' + r.Intn(4))) }
	path := func() string { return []string{"/f", "/g", "/m", "/m/h", "/"}[r.Intn(5)] }
	n := func(most int) string { return fmt.Sprint(r.Intn(most)) }
	text := strings.Repeat(string(rune('a'+r.Intn(26))), 1+r.Intn(300))
	kind := r.Intn(26)
	if kind < 5 && r.Intn(3) > 0 {
		kind = 15
	}
	switch kind {
	case 0:
		return "create " + d()
	case 1:
		return "create " + d() + " " + fmt.Sprint(256*r.Intn(9))
	case 2:
		return "destroy " + d()
	case 3:
		return "rename " + d() + " " + d()
	case 4, 5:
		return "snapshot " + d() + " " + snap()
	case 6:
		return "release " + d() + " " + snap()
	case 7:
		return "rollback " + d() + " " + snap()
	case 8:
		return "clone " + d() + " " + snap() + " " + d()
	case 9:
		return "promote " + d()
	case 10:
		return "bookmark " + d() + " " + snap() + " " + snap()
	case 11:
		return "set " + d() + " " + snap() + " " + text[:min(len(text), 66)]
	case 12:
		return "quota " + d() + " " + n(20000)
	case 13:
		return "mkdir " + fs() + " " + path() + " " + n(5000)
	case 14:
		return "file " + fs() + " " + path() + " " + n(4095)
	case 15, 16, 17:
		return "write " + fs() + " " + path() + " " + n(3000) + " " + text
	case 18:
		return "truncate " + fs() + " " + path() + " " + n(2000)
	case 19:
		return "move " + fs() + " " + path() + " " + path()
	case 20:
		return "read " + fs() + " " + path() + " " + n(3000) + " " + n(600) + " " + snap()
	case 21:
		return "put tank/v" + " " + n(2000) + " " + text
	case 22:
		return "view tank/v" + " " + n(2000) + " " + n(300)
	case 23:
		return "snaps " + d()
	case 24:
		return "used " + d()
	}
	return "list " + fs() + " " + path()
}

// TestWeather tells the same through crashes and failures of one disk at a time as without them.
func TestWeather(t *testing.T) {
	for seed := range int64(12) {
		r := rand.New(rand.NewSource(seed))
		begin := []string{"make a mirror 2 2600 1\nmake b parity 3 1500 2", "make a parity 4 1100 1\nmake b mirror 3 2100 2"}[seed%2]
		fair, foul := []string{begin}, []string{begin}
		for _, l := range []string{"create tank/a", "create tank/b", "create tank/v 2048", "create tank/a/c", "file tank/a /f 1", "mkdir tank/a /m 2", "file tank/a /m/h 3", "file tank/a/c /f 4", "file tank/b /g 5"} {
			fair, foul = append(fair, "a "+l), append(foul, "a "+l)
		}
		weather := map[int]bool{} // lines of the foul one alone
		add := func(line string) {
			weather[len(foul)+1] = true
			foul = append(foul, line)
		}
		failed := -1
		for i := range 260 {
			line := "a " + asked(r)
			if r.Intn(30) == 0 {
				line = fmt.Sprintf("replicate a tank/a %c - tank/c%d", 's'+r.Intn(4), i)
			}
			fair, foul = append(fair, line), append(foul, line)
			switch r.Intn(12) {
			case 0:
				fair, foul = append(fair, "a sync"), append(foul, "a sync")
				add("crash a")
			case 1:
				add("keep a")
			case 2:
				fair, foul = append(fair, "b sync"), append(foul, "b sync")
				add("crash b")
			case 3:
				if failed < 0 {
					failed = r.Intn(2)
					add(fmt.Sprint("fail a ", failed))
					add(fmt.Sprint("fail b ", failed))
				} else {
					add(fmt.Sprint("new a ", failed))
					add(fmt.Sprint("new b ", failed))
					failed = -1
				}
			}
		}
		end := []string{"a datasets", "b datasets", "a used tank", "b used tank"}
		for _, d := range []string{"tank/a", "tank/b", "tank/v"} {
			end = append(end, "a snaps "+d, "a list "+d+" /", "a read "+d+" /f 0 9000", "a view "+d+" 0 2048")
		}
		fair, foul = append(fair, end...), append(foul, end...)
		a := strings.Split(tells(t, strings.Join(fair, "\n")), "\n")
		b := strings.Split(tells(t, strings.Join(foul, "\n")), "\n")
		at := 0
		for i, told := range b {
			if weather[i] {
				if !strings.HasPrefix(told, "ok") {
					t.Fatal(seed, i, told)
				}
				continue
			}
			if at >= len(a) || a[at] != told {
				t.Fatal("seed", seed, "line", i, told, "not", a[min(at, len(a)-1)])
			}
			at++
		}
	}
}
