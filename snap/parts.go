package snap

import "backfill/api"

// mark says what the bytes are, and by which form.
const mark = "backfill1"

// The numbers of a part have their order here alone: what writes them and what reads them goes by these places. The last one tells how many they are.

const (
	headNodes = iota
	headQueue
	headLimit
	headAge
	headFair
	headSize
	headPeriod
	headHalf
	headNow
	headHolder
	headNumbers
)

// Of an account, behind its name.
const (
	accountParent = iota
	accountShares
	accountClosed
	accountUsage
	accountNumbers
)

// Of a job, ahead of its Set.
const (
	jobAccount = iota
	jobNodes
	jobLimit
	jobSubmit
	jobState
	jobStart
	jobEnd
	jobNumbers
)

// How many bytes an account and a job have, whose name and whose Set have nothing in them. What is counted there is one number more.
const (
	leastAccount = (1 + accountNumbers) * numberBytes
	leastJob     = (jobNumbers + 1) * numberBytes
)

// written are the bytes of any state, whatever audit says of it.
func written(s api.State) []byte {
	b := make([]byte, sizeOf(s))
	w := writer{b}
	w.text(mark)
	w.head(s)
	w.number(len(s.Accounts))
	for _, a := range s.Accounts {
		w.account(a)
	}
	w.number(len(s.Jobs))
	for _, j := range s.Jobs {
		w.job(j)
	}
	return b
}

// read tells the state whose bytes these are, and whether they are any state's.
func read(b []byte) (api.State, bool) {
	r := reader{left: b}
	r.need(string(r.bytes(len(mark))) == mark)
	s := r.head()
	s.Accounts = make([]api.Account, r.count(leastAccount))
	for n := range s.Accounts {
		s.Accounts[n] = r.account()
	}
	s.Jobs = make([]api.Job, r.count(leastJob))
	for n := range s.Jobs {
		s.Jobs[n] = r.job()
	}
	r.need(len(r.left) == 0)
	return s, !r.spoilt
}

func sizeOf(s api.State) int {
	// Beside the parts' own: how many accounts and how many jobs there are.
	size := len(mark) + (headNumbers+2)*numberBytes
	for _, a := range s.Accounts {
		size += leastAccount + len(a.Name)
	}
	for _, j := range s.Jobs {
		size += leastJob + len(j.Set)*numberBytes
	}
	return size
}

func (w *writer) head(s api.State) {
	n := [headNumbers]int{
		headNodes:  s.Config.Nodes,
		headQueue:  s.Config.Queue,
		headLimit:  s.Config.Limit,
		headAge:    s.Config.Age,
		headFair:   s.Config.Fair,
		headSize:   s.Config.Size,
		headPeriod: s.Config.Period,
		headHalf:   s.Config.Half,
		headNow:    s.Now,
		headHolder: s.Holder,
	}
	w.numbers(n[:])
}

func (r *reader) head() api.State {
	n := r.numbers(headNumbers)
	c := api.Config{
		Nodes:  n[headNodes],
		Queue:  n[headQueue],
		Limit:  n[headLimit],
		Age:    n[headAge],
		Fair:   n[headFair],
		Size:   n[headSize],
		Period: n[headPeriod],
		Half:   n[headHalf],
	}
	return api.State{Config: c, Now: n[headNow], Holder: n[headHolder]}
}

func (w *writer) account(a api.Account) {
	closed := 0
	if a.Closed {
		closed = 1
	}
	n := [accountNumbers]int{
		accountParent: a.Parent,
		accountShares: a.Shares,
		accountClosed: closed,
		// It may be above the greatest int: its bits are all that is written.
		accountUsage: int(a.Usage),
	}
	w.number(len(a.Name))
	w.text(a.Name)
	w.numbers(n[:])
}

func (r *reader) account() api.Account {
	name := string(r.bytes(r.count(1)))
	n := r.numbers(accountNumbers)
	closed := n[accountClosed]
	// Else two texts of bytes were one state's.
	r.need(closed == 0 || closed == 1)
	return api.Account{
		Name:   name,
		Parent: n[accountParent],
		Shares: n[accountShares],
		Closed: closed == 1,
		Usage:  uint64(n[accountUsage]),
	}
}

func (w *writer) job(j api.Job) {
	n := [jobNumbers]int{
		jobAccount: j.Account,
		jobNodes:   j.Nodes,
		jobLimit:   j.Limit,
		jobSubmit:  j.Submit,
		jobState:   j.State,
		jobStart:   j.Start,
		jobEnd:     j.End,
	}
	w.numbers(n[:])
	w.number(len(j.Set))
	w.numbers(j.Set)
}

func (r *reader) job() api.Job {
	n := r.numbers(jobNumbers)
	return api.Job{
		Account: n[jobAccount],
		Nodes:   n[jobNodes],
		Limit:   n[jobLimit],
		Submit:  n[jobSubmit],
		State:   n[jobState],
		Start:   n[jobStart],
		End:     n[jobEnd],
		Set:     r.numbers(r.count(numberBytes)),
	}
}
