package deal

import (
	"tenor/api"
	"tenor/flow"
)

// meaning is the flows of the terms that were gone through.
type meaning struct {
	flows  []api.Flow
	starts []int // where the flows of each term begin that is no part of another one yet
}

// start begins the flows of a term without parts.
func (m *meaning) start() {
	m.starts = append(m.starts, len(m.flows))
}

// last is where the flows of the last term begin.
func (m *meaning) last() int {
	return m.starts[len(m.starts)-1]
}

// put sets flows in the stead of those of the last term.
func (m *meaning) put(l []api.Flow) {
	m.flows = append(m.flows[:m.last()], l...)
}

// room tells whether there may be one flow more.
func (m *meaning) room() api.Errno {
	if len(m.flows) >= api.MaxFlows {
		return api.ErrMany
	}
	return api.OK
}

// add is each flow, one by one, as long as there is room.
func (m *meaning) add(l ...api.Flow) api.Errno {
	for _, f := range l {
		if e := m.room(); e != api.OK {
			return e
		}
		m.flows = append(m.flows, f)
	}
	return api.OK
}

func (m *meaning) zero(api.Term) api.Errno {
	m.start()
	return api.OK
}

func (m *meaning) pay(t api.Term) api.Errno {
	m.start()
	return m.add(api.Flow{Day: t.Day, Amount: t.X, Cur: t.Cur})
}

func (m *meaning) fixed(t api.Term) api.Errno {
	m.start()
	l, e := flow.Fixed(legOf(t))
	if e != api.OK {
		return e
	}
	return m.add(l...)
}

func (m *meaning) give(api.Term) api.Errno {
	m.put(flow.Give(m.flows[m.last():]))
	return api.OK
}

// both leaves the flows where they are: those of B stand behind those of A already.
func (m *meaning) both(api.Term) api.Errno {
	m.starts = m.starts[:len(m.starts)-1]
	return api.OK
}

func (m *meaning) scale(t api.Term) api.Errno {
	l, e := flow.Scale(t.X, m.flows[m.last():])
	if e != api.OK {
		return e
	}
	m.put(l)
	return api.OK
}

func (m *meaning) window(t api.Term) api.Errno {
	m.put(flow.Window(m.flows[m.last():], t.Day, t.To))
	return api.OK
}

func (m *meaning) repeat(t api.Term) api.Errno {
	once := m.flows[m.last():]
	for k := range t.N - 1 {
		if e := m.again(once, (k+1)*t.Months); e != api.OK {
			return e
		}
	}
	return api.OK
}

// again adds the flows so many months later. They are shifted one by one, for whether there is room for one is asked ahead of its shift.
func (m *meaning) again(l []api.Flow, months int) api.Errno {
	for _, f := range l {
		if e := m.room(); e != api.OK {
			return e
		}
		shifted, e := flow.Shift([]api.Flow{f}, months)
		if e != api.OK {
			return e
		}
		m.flows = append(m.flows, shifted...)
	}
	return api.OK
}

// legOf is the leg of fixed: without a roll, a lag, or a day that is not open.
func legOf(t api.Term) api.Leg {
	return api.Leg{Kind: api.LFixed, Count: t.Count, Cur: t.Cur, Notional: t.X, Rate: t.Y,
		Spec: api.Spec{Start: t.Day, End: t.To, N: t.N, Unit: api.UMonth, Stub: api.SShortFirst, Roll: api.RNone, Conv: api.CNone}}
}
