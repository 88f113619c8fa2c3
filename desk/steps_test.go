package desk_test

import (
	"fmt"
	"math"
	"regexp"
	"strconv"
	"strings"
	"testing"
	"time"

	"tenor/api"
	"tenor/book"
	"tenor/boot"
	"tenor/desk"
)

// scatter is splitmix64: the same numbers in every run.
func scatter(state *uint64) uint64 {
	*state += 0x9e3779b97f4a7c15
	z := *state
	z = (z ^ z>>30) * 0xbf58476d1ce4e5b9
	z = (z ^ z>>27) * 0x94d049bb133111eb
	return z ^ z>>31
}

// below is a whole number from 0 to below n.
func below(state *uint64, n int) int {
	return int(scatter(state) % uint64(n))
}

// pick is one of the list.
func pick[T any](state *uint64, l ...T) T { return l[below(state, len(l))] }

// unit is a number from 0 to below 1.
func unit(state *uint64) float64 {
	return float64(scatter(state)>>11) * 0x1p-53
}

// hexText is chapter 2's Hex by the library's own, which writes at least two digits of the power.
func hexText(x float64) string {
	s := strconv.FormatFloat(x, 'x', -1, 64)
	at := len(s) - 2
	if s[at] == '0' && strings.ContainsRune("+-", rune(s[at-1])) {
		s = s[:at] + s[at+1:]
	}
	return s
}

// dayOf is a day's number; false, if the text is none of a day.
func dayOf(s string) (int, bool) {
	x, err := time.Parse("2006-01-02", s)
	first := time.Date(1900, 1, 1, 0, 0, 0, 0, time.UTC)
	return int((x.Unix() - first.Unix()) / 86400), err == nil && x.Year() >= 1900 && x.Year() <= 2199
}

// dayText is a day's text.
func dayText(n int) string {
	return time.Date(1900, 1, 1+n, 0, 0, 0, 0, time.UTC).Format("2006-01-02")
}

// clerk is a desk by another reading of the chapter: a line is held whole against the patterns of the chapter's table, and told by the library's own numbers and days.
type clerk struct{ b *book.Book }

// patterns is the chapter's table of words, the gaps made one blank each: I a whole number, X a number, D a day, K a kind, C a count, W any word.
var patterns = func() []*regexp.Regexp {
	forms := []string{"curve I K D( D X)+", "build I K D( dep C D X| swap C D I X)+", "clear I", "rate I X", "deal I( W)+", "drop I", "list", "show I",
		"one I I", "value I", "total", "factor I D", "report I", "ladder I X", "flows I"}
	parts := strings.NewReplacer("I", `(?:0|-?[1-9][0-9]*)`, "X", `(?:-?[0-9]+(?:\.[0-9]+)?(?:e[+-]?[0-9]{1,4})?|-?0x[01](?:\.[0-9a-f]*[1-9a-f])?p[+-](?:0|[1-9][0-9]*))`,
		"D", `[0-9]{4}-[0-9]{2}-[0-9]{2}`, "K", `(?:flat|linear|cubic|log)`, "C", `(?:act360|act365|actact|bond|euro)`, "W", `[^ ]+`)
	var l []*regexp.Regexp
	for _, form := range forms {
		l = append(l, regexp.MustCompile(`(?s)\A`+parts.Replace(form)+`\z`))
	}
	return l
}()

// wrongLine is what a clerk panics with at a word that has the look of a number or a day, and is none.
type wrongLine struct{}

func (c *clerk) int(s string) int {
	n, err := strconv.Atoi(s)
	if err != nil {
		panic(wrongLine{})
	}
	return n
}

func (c *clerk) day(s string) int {
	n, ok := dayOf(s)
	if !ok {
		panic(wrongLine{})
	}
	return n
}

func (c *clerk) number(s string) float64 {
	x, err := strconv.ParseFloat(s, 64)
	if math.IsInf(x, 0) || strings.Contains(s, "x") && (err != nil || hexText(x) != s) || len(s) > 400 {
		panic(wrongLine{})
	}
	return x
}

// Do is 21.2 and 21.3.
func (c *clerk) Do(line string) (answer string) {
	if len(line) > 70000 {
		return "error 2"
	}
	var words []string
	for _, x := range strings.Split(strings.ReplaceAll(line, "\t", " "), " ") {
		if x != "" {
			words = append(words, x)
		}
	}
	if len(words) == 0 {
		return ""
	}
	defer func() {
		if x := recover(); x == (wrongLine{}) {
			answer = "error 210"
		} else if x != nil {
			panic(x)
		}
	}()
	joined := strings.Join(words, " ")
	for _, p := range patterns {
		if p.MatchString(joined) {
			told, e := c.obey(words)
			if e != api.OK {
				return fmt.Sprintf("error %d", int(e))
			}
			return strings.TrimSuffix("ok "+strings.TrimPrefix(told, " "), " ")
		}
	}
	return "error 210"
}

// obey does a line that has the look of one of the table.
func (c *clerk) obey(w []string) (string, api.Errno) {
	value := func(x float64, e api.Errno) (string, api.Errno) { return hexText(x), e }
	switch w[0] {
	case "curve":
		cur, k := c.int(w[1]), api.Curve{Kind: kindOf(w[2]), Base: c.day(w[3])}
		for i := 4; i < len(w); i += 2 {
			k.Days, k.Factors = append(k.Days, c.day(w[i])), append(k.Factors, c.number(w[i+1]))
		}
		return "", c.b.Curve(cur, k)
	case "build":
		return "", c.build(c.int(w[1]), kindOf(w[2]), c.day(w[3]), w[4:])
	case "clear":
		return "", c.b.Clear(c.int(w[1]))
	case "rate":
		return "", c.b.Rate(c.int(w[1]), c.number(w[2]))
	case "deal":
		e, _ := c.b.Add(c.int(w[1]), strings.Join(w[2:], " "))
		return "", e
	case "drop":
		return "", c.b.Drop(c.int(w[1]))
	case "list":
		return strings.Trim(fmt.Sprint(c.b.List()), "[]"), api.OK
	case "show":
		return c.b.Text(c.int(w[1]))
	case "one":
		return value(c.b.One(c.int(w[1]), c.int(w[2])))
	case "value":
		return value(c.b.Value(c.int(w[1])))
	case "total":
		return value(c.b.Total())
	case "factor":
		return value(c.b.Factor(c.int(w[1]), c.day(w[2])))
	}
	return c.list(w)
}

// list does a line of those that tell lists.
func (c *clerk) list(w []string) (s string, e api.Errno) {
	n := c.int(w[1])
	switch w[0] {
	case "report":
		l, e := c.b.Report(n)
		for _, x := range l {
			s += fmt.Sprintf(" %d %d %s", x.ID, x.Flows, hexText(float64(x.Value)))
		}
		return s, e
	case "ladder":
		l, e := c.b.Ladder(n, c.number(w[2]))
		for _, x := range l {
			s += " " + hexText(x)
		}
		return s, e
	}
	l, e := c.b.Flows(n)
	for _, x := range l {
		s += fmt.Sprintf(" %s %s %d", dayText(x.Day), hexText(x.Amount), x.Cur)
	}
	return s, e
}

func (c *clerk) build(cur, kind, base int, w []string) api.Errno {
	var l []api.Quote
	for len(w) > 0 {
		q := api.Quote{Kind: api.QDeposit, Count: countOf(w[1]), End: c.day(w[2])}
		if w[0] == "swap" {
			q.Kind, q.N = api.QSwap, c.int(w[3])
			w = w[1:]
		}
		q.Rate = float32(c.number(w[3]))
		l, w = append(l, q), w[4:]
	}
	k, e, _ := boot.Build(base, kind, api.Calendar{}, l)
	if e != api.OK {
		return e
	}
	return c.b.Curve(cur, k)
}

func kindOf(s string) int {
	return map[string]int{"flat": api.IFlat, "linear": api.ILinear, "cubic": api.ICubic, "log": api.ILog}[s]
}

func countOf(s string) int {
	return map[string]int{"act360": api.D360, "act365": api.D365, "actact": api.DAct, "bond": api.DBond, "euro": api.DEuro}[s]
}

// tells is all that a book can be asked, a line each.
func tells(b *book.Book) string {
	var s strings.Builder
	say := func(form string, more ...any) { fmt.Fprintf(&s, form+"\n", more...) }
	for _, id := range b.List() {
		text, _ := b.Text(id)
		flows, _ := b.Flows(id)
		say("%d %s %x", id, text, flows)
		for cur := 1; cur <= 8; cur++ {
			x, e := b.One(id, cur)
			say("%x %v", x, e)
		}
	}
	for cur := 1; cur <= 8; cur++ {
		c, has, x, _ := b.Get(cur)
		say("%d %x %t %x", cur, c, has, x)
		x, e := b.Value(cur)
		say("%x %v", x, e)
		lines, e := b.Report(cur)
		say("%x %v", lines, e)
		rungs, e := b.Ladder(cur, 0.01)
		say("%x %v", rungs, e)
	}
	x, e := b.Total()
	say("%x %v", x, e)
	return s.String()
}

// do holds the answer to a line.
func do(t *testing.T, d *desk.Desk, line, want string) {
	t.Helper()
	if got := d.Do(line); got != want {
		t.Errorf("Do(%s) is %q, not %q", short(line), short(got), short(want))
	}
}

// refuse holds that a line is answered so, and changes nothing.
func refuse(t *testing.T, d *desk.Desk, line, want string) {
	t.Helper()
	same := tells(d.Book())
	do(t, d, line, want)
	if tells(d.Book()) != same {
		t.Errorf("Do(%s) has changed the book", short(line))
	}
}

// run holds the answers to a script.
func run(t *testing.T, d *desk.Desk, script, want string) {
	t.Helper()
	if got := d.Run(script); got != want {
		t.Errorf("Run(%q) is %q, not %q", short(script), short(got), short(want))
	}
}

// set is a desk that was given lines that may be.
func set(t *testing.T, lines ...string) *desk.Desk {
	t.Helper()
	d := desk.New()
	for _, line := range lines {
		do(t, d, line, "ok")
	}
	return d
}

// short is the beginning of a text, for a fault's message.
func short(s string) string {
	if len(s) > 200 {
		return s[:200] + ".."
	}
	return s
}

// someInt is a whole number's word: most often a currency's or a deal's.
func someInt(state *uint64) string {
	switch below(state, 40) {
	case 0:
		return pick(state, "-1", "0", "9", "-8", "1000000", "1000001", "257", "9223372036854775807", "-9223372036854775808")
	case 1:
		return pick(state, "01", "-0", "+1", "1.0", "1e0", "9223372036854775808", "-9223372036854775809", "x", "0x1p+0", "1_0", "١")
	}
	return strconv.Itoa(1 + below(state, 4))
}

// someNumber is a number's word.
func someNumber(state *uint64) string {
	switch below(state, 40) {
	case 0:
		return pick(state, "-0", "0", "-1", "1e308", "1e-400", "5e-324", "-0x0p+0", "0x1p-1074", "0x1.fffffffffffffp+1023", "3e38", "3.5e38", "-3.5e38", "1e-46", "007.50", strings.Repeat("1", 300), "0."+strings.Repeat("3", 398))
	case 1:
		return pick(state, "1e400", "1.", ".5", "+1", "0x2p+0", "0x1.80p+0", "0x1p+1024", "0x1p+00", "inf", "NaN", "1e", "1e00001", "0X1p+0", "0x0p+1", "1_0", "-", "0."+strings.Repeat("3", 399))
	case 2, 3:
		return hexText(math.Ldexp(1+unit(state), below(state, 60)-30))
	}
	return pick(state, hexText(0.2+unit(state)), fmt.Sprintf("%.3f", unit(state)+0.001), fmt.Sprintf("%de-2", 1+below(state, 120)))
}

// someDay is a day's word, from year on, or a few years later.
func someDay(state *uint64, year int) string {
	switch below(state, 60) {
	case 0:
		return pick(state, "1900-01-01", "2199-12-31", "2024-02-29", "2000-02-29")
	case 1:
		return pick(state, "1899-12-31", "2200-01-01", "2023-02-29", "2100-02-29", "2025-13-01", "2025-00-10", "2025-1-01", "2025-04-31", "20250101", "2025-01-01T", "+025-01-01", "٢٠٢٥-01-01")
	}
	return fmt.Sprintf("%d-%02d-%02d", year+below(state, 3), 1+below(state, 12), 1+below(state, 28))
}

// someDeal is a deal's words.
func someDeal(state *uint64, depth int) string {
	n := below(state, 10)
	if depth == 0 {
		n = below(state, 4)
	}
	switch n {
	case 0:
		return "zero"
	case 1, 2:
		return fmt.Sprintf("pay %s %s %s", someNumber(state), someInt(state), someDay(state, 2025))
	case 3:
		return fmt.Sprintf("fixed %s %s %s %s %s %d %s", someNumber(state), someNumber(state), pick(state, "act360", "act365", "actact", "bond", "euro"), someDay(state, 2023), someDay(state, 2026), 1+below(state, 9), someInt(state))
	case 4:
		return "give " + someDeal(state, depth-1)
	case 5:
		return "scale " + someNumber(state) + " " + someDeal(state, depth-1)
	case 6:
		return fmt.Sprintf("window %s %s %s", someDay(state, 2024), someDay(state, 2026), someDeal(state, depth-1))
	case 7:
		return fmt.Sprintf("repeat %d %d %s", 1+below(state, 4), 1+below(state, 5), someDeal(state, depth-1))
	}
	return "both " + someDeal(state, depth-1) + " " + someDeal(state, depth-1)
}

// someCurve is the words behind `curve` or `build` up to the base.
func someCurve(state *uint64) string {
	kind := pick(state, "flat", "linear", "cubic", "log")
	if below(state, 40) == 0 {
		kind = pick(state, "line", "Flat", "1", "flatlinear", "logg")
	}
	return someInt(state) + " " + kind + " " + someDay(state, 2022)
}

// someNodes is pairs of a day and a number, the days most often rising.
func someNodes(state *uint64) string {
	s, n := "", 1+below(state, 4)
	for i := range n {
		s += " " + someDay(state, 2025+3*i) + " " + someNumber(state)
	}
	return s + " 2060-01-01 " + someNumber(state)
}

// someQuotes is quotes, the days most often rising.
func someQuotes(state *uint64) string {
	s, n := "", 1+below(state, 4)
	for i := range n {
		count := pick(state, "act360", "act365", "actact", "bond", "euro")
		if below(state, 40) == 0 {
			count = pick(state, "open", "act", "D360", "1", "bon")
		}
		rate := fmt.Sprintf("0.0%d", below(state, 1000))
		if below(state, 12) == 0 {
			rate = someNumber(state)
		}
		if below(state, 2) == 0 {
			s += fmt.Sprintf(" dep %s %s %s", count, someDay(state, 2025+3*i), rate)
		} else {
			months := pick(state, "1", "3", "6", "12", "120", someInt(state), "0", "121")
			s += fmt.Sprintf(" swap %s %s %s %s", count, someDay(state, 2025+3*i), months, rate)
		}
	}
	return s
}

// someLine is a line that changes or asks, most often one that may be.
func someLine(state *uint64) string {
	switch below(state, 20) {
	case 0, 1:
		return "curve " + someCurve(state) + someNodes(state)
	case 2, 3:
		return "build " + someCurve(state) + someQuotes(state)
	case 4:
		return "clear " + someInt(state)
	case 5:
		return "rate " + someInt(state) + " " + someNumber(state)
	case 6, 7, 8:
		return "deal " + someInt(state) + " " + someDeal(state, 2)
	case 9, 10:
		return "drop " + someInt(state)
	case 11:
		return pick(state, "list", "total")
	case 12:
		return "show " + someInt(state)
	case 13:
		return "one " + someInt(state) + " " + someInt(state)
	case 14:
		return "value " + someInt(state)
	case 15:
		return "factor " + someInt(state) + " " + someDay(state, 2024)
	case 16:
		return "report " + someInt(state)
	case 17, 18:
		return "ladder " + someInt(state) + " " + someNumber(state)
	}
	return "flows " + someInt(state)
}

// spoilt is a line with something turned in it: words left out, put in or moved, gaps, bytes.
func spoilt(state *uint64, line string) string {
	words := strings.Split(line, " ")
	i, k := below(state, len(words)), below(state, len(words))
	switch below(state, 10) {
	case 0:
		words = append(words[:i:i], words[i+1:]...)
	case 1:
		words = append(words[:i:i], append([]string{pick(state, "zero", "1", "0.5", "2030-01-01", "dep", "swap", "flat", "euro", "x", "\x00", "é", "\xff")}, words[i:]...)...)
	case 2:
		words[i], words[k] = words[k], words[i]
	case 3:
		words[i] = words[k]
	case 4:
		words = words[:i]
	case 5:
		words[i] += pick(state, "\n", "\r", "\v", "\f", "\u00a0", "\u0085", "\u2003", "\x00", "\xff", "\xe2", ",", "\t\t")
	case 6:
		words[i] = pick(state, "\n", "\r", "\u00a0", "\xc2", "\t") + words[i]
	}
	gaps := pick(state, " ", "\t", "  ", " \t ", "\t\t")
	return pick(state, "", " ", "\t") + strings.Join(words, gaps) + pick(state, "", " ", "\t ")
}
