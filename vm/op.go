package vm

import (
	"tenor/api"
	"tenor/flow"
)

// kinds is what is done for an op, by its kind. The methods are bound to this machine: a copy makes its own table.
func (m *Machine) kinds() []func(api.Op) api.Errno {
	return []func(api.Op) api.Errno{
		api.OMark:   m.mark,
		api.OPay:    m.pay,
		api.OFixed:  m.fixed,
		api.OGive:   m.give,
		api.OScale:  m.scale,
		api.OWindow: m.window,
		api.ORepeat: m.repeat,
	}
}

// do does one op, and takes back what it had begun if it fails. An op that can fail writes over no flow and no mark ahead of its end, so both lists are still there as they were.
func (m *Machine) do(kind func(api.Op) api.Errno, o api.Op) (e api.Errno) {
	flows, marks := m.flows, m.marks
	defer func() {
		if e != api.OK {
			m.flows, m.marks = flows, marks
		}
	}()
	return kind(o)
}

func (m *Machine) mark(api.Op) api.Errno {
	m.marks = append(m.marks, len(m.flows))
	return api.OK
}

func (m *Machine) pay(o api.Op) api.Errno {
	return m.add(api.Flow{Day: o.Day, Amount: o.X, Cur: o.Cur})
}

func (m *Machine) fixed(o api.Op) api.Errno {
	l, e := flow.Fixed(legOf(o))
	if e != api.OK {
		return e
	}
	return m.add(l...)
}

func (m *Machine) give(api.Op) api.Errno {
	from := m.take()
	m.put(from, flow.Give(m.flows[from:]))
	return api.OK
}

func (m *Machine) scale(o api.Op) api.Errno {
	from := m.take()
	l, e := flow.Scale(o.X, m.flows[from:])
	if e != api.OK {
		return e
	}
	m.put(from, l)
	return api.OK
}

func (m *Machine) window(o api.Op) api.Errno {
	from := m.take()
	m.put(from, flow.Window(m.flows[from:], o.Day, o.To))
	return api.OK
}

func (m *Machine) repeat(o api.Op) api.Errno {
	once := m.flows[m.take():]
	for k := range o.N - 1 {
		if e := m.again(once, (k+1)*o.Months); e != api.OK {
			return e
		}
	}
	return api.OK
}

// again adds the flows so many months later. They are shifted one by one, for whether there is room for one is asked ahead of its shift.
func (m *Machine) again(l []api.Flow, months int) api.Errno {
	for _, f := range l {
		if e := m.room(); e != api.OK {
			return e
		}
		shifted, e := flow.Shift([]api.Flow{f}, months)
		if e != api.OK {
			return e
		}
		m.flows = append(m.flows, shifted...)
	}
	return api.OK
}

// take takes the last mark away, and tells where the flows behind it begin.
func (m *Machine) take() int {
	last := len(m.marks) - 1
	from := m.marks[last]
	m.marks = m.marks[:last]
	return from
}

// put sets flows in the stead of those from that place on.
func (m *Machine) put(from int, l []api.Flow) {
	m.flows = append(m.flows[:from], l...)
}

// add is each flow, one by one, as long as there is room.
func (m *Machine) add(l ...api.Flow) api.Errno {
	for _, f := range l {
		if e := m.room(); e != api.OK {
			return e
		}
		m.flows = append(m.flows, f)
	}
	return api.OK
}

// room tells whether there may be one flow more.
func (m *Machine) room() api.Errno {
	if len(m.flows) >= api.MaxFlows {
		return api.ErrMany
	}
	return api.OK
}

// legOf is the leg of an OFixed: without a roll, a lag, or a day that is not open.
func legOf(o api.Op) api.Leg {
	return api.Leg{Kind: api.LFixed, Count: o.Count, Cur: o.Cur, Notional: o.X, Rate: o.Y,
		Spec: api.Spec{Start: o.Day, End: o.To, N: o.N, Unit: api.UMonth, Stub: api.SShortFirst, Roll: api.RNone, Conv: api.CNone}}
}
