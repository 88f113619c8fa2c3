package desk

import (
	"strconv"

	"tenor/api"
	"tenor/boot"
	"tenor/date"
	"tenor/ieee"
	"tenor/text"
)

// doing is what a first word does.
type doing struct {
	word  string
	shape shape
	do    func(order) ([]string, api.Errno) // what is to be told behind ok
}

// doings makes the table out of which a line's doing is chosen.
func (d *Desk) doings() []doing {
	id, cur, day, x := (*order).readID, (*order).readCur, (*order).readDay, (*order).readNumber
	kind, nodes, quotes, deal := (*order).readKind, (*order).readNodes, (*order).readQuotes, (*order).readDeal
	return []doing{
		{"curve", shape{cur, kind, day, nodes}, d.curve},
		{"build", shape{cur, kind, day, quotes}, d.build},
		{"clear", shape{cur}, d.clear},
		{"rate", shape{cur, x}, d.rate},
		{"deal", shape{id, deal}, d.deal},
		{"drop", shape{id}, d.drop},
		{"list", nil, d.list},
		{"show", shape{id}, d.show},
		{"one", shape{id, cur}, d.one},
		{"value", shape{cur}, d.value},
		{"total", nil, d.total},
		{"factor", shape{cur, day}, d.factor},
		{"report", shape{cur}, d.report},
		{"ladder", shape{cur, x}, d.ladder},
		{"flows", shape{id}, d.flows},
	}
}

func (d *Desk) curve(o order) ([]string, api.Errno) {
	return nil, d.book.Curve(o.cur, api.Curve{Base: o.day, Kind: o.kind, Days: o.days, Factors: o.factors})
}

func (d *Desk) build(o order) ([]string, api.Errno) {
	c, e, _ := boot.Build(o.day, o.kind, api.Calendar{}, o.quotes)
	if e != api.OK {
		return nil, e
	}
	return nil, d.book.Curve(o.cur, c)
}

func (d *Desk) clear(o order) ([]string, api.Errno) {
	return nil, d.book.Clear(o.cur)
}

func (d *Desk) rate(o order) ([]string, api.Errno) {
	return nil, d.book.Rate(o.cur, o.x)
}

func (d *Desk) deal(o order) ([]string, api.Errno) {
	e, _ := d.book.Add(o.id, o.deal)
	return nil, e
}

func (d *Desk) drop(o order) ([]string, api.Errno) {
	return nil, d.book.Drop(o.id)
}

func (d *Desk) list(order) ([]string, api.Errno) {
	var told []string
	for _, id := range d.book.List() {
		told = append(told, strconv.Itoa(id))
	}
	return told, api.OK
}

func (d *Desk) show(o order) ([]string, api.Errno) {
	s, e := d.book.Text(o.id)
	return []string{s}, e
}

func (d *Desk) one(o order) ([]string, api.Errno) {
	x, e := d.book.One(o.id, o.cur)
	return []string{hex(x)}, e
}

func (d *Desk) value(o order) ([]string, api.Errno) {
	x, e := d.book.Value(o.cur)
	return []string{hex(x)}, e
}

func (d *Desk) total(order) ([]string, api.Errno) {
	x, e := d.book.Total()
	return []string{hex(x)}, e
}

func (d *Desk) factor(o order) ([]string, api.Errno) {
	x, e := d.book.Factor(o.cur, o.day)
	return []string{hex(x)}, e
}

func (d *Desk) report(o order) ([]string, api.Errno) {
	l, e := d.book.Report(o.cur)
	var told []string
	for _, x := range l {
		told = append(told, strconv.Itoa(x.ID), strconv.Itoa(x.Flows), hex(ieee.Double(x.Value)))
	}
	return told, e
}

func (d *Desk) ladder(o order) ([]string, api.Errno) {
	l, e := d.book.Ladder(o.cur, o.x)
	var told []string
	for _, x := range l {
		told = append(told, hex(x))
	}
	return told, e
}

func (d *Desk) flows(o order) ([]string, api.Errno) {
	l, e := d.book.Flows(o.id)
	var told []string
	for _, f := range l {
		told = append(told, dayText(f.Day), hex(f.Amount), strconv.Itoa(f.Cur))
	}
	return told, e
}

// hex is a number's text. A book tells no float but numbers, and these all have one.
func hex(x float64) string {
	s, _ := text.Hex(x)
	return s
}

// dayText is that of a day, as the days of all flows are.
func dayText(n int) string {
	s, _ := date.Print(n)
	return s
}
