package script

import (
	"iter"

	"cryptex/api"
	"cryptex/client"
	"cryptex/host"
	"cryptex/model"
	"cryptex/orac"
)

// The harms.
const (
	loseRequest = 1
	loseReply   = 2
	die         = 3
	lie         = 4
	repeat      = 5
	goBack      = 6
)

// world is a client, and a server, on their way through a script.
type world struct {
	Trace
	h     orac.Handle
	c     *client.Client
	hosts []host.Host // ahead of each step
	now   Step
	req   string // what the client asks for; nothing, if it asks for nothing more
	told  model.Answer
}

// lost is that the client gets no reply.
func (w *world) lost() { w.req, w.told = "", w.c.Lost() }

// hand hands the client a reply.
func (w *world) hand(reply string) {
	w.Replies = append(w.Replies, reply)
	w.req, w.told = w.c.Next(reply)
}

// served lets the server do the request; where it dies there is no reply, and it is started again.
func (w *world) served() (string, bool) {
	x, reply, err := host.Do(w.h, w.Host, w.req)
	w.Host = x
	if err == api.OK {
		return reply, true
	}
	if again, err := host.Recover(x, rest(w.now.N, 3), noFuse); err == api.OK {
		w.Host = again
	}
	return "", false
}

// serve is a request without harm.
func (w *world) serve() {
	reply, ok := w.served()
	if !ok {
		w.lost()
		return
	}
	w.hand(reply)
}

// loseReply is a request that is done, but not replied to.
func (w *world) loseReply() {
	w.served()
	w.lost()
}

// die is a request, and those behind it, to a machine that dies at some step.
func (w *world) die() {
	w.Host.Disk.Fuse = rest(w.now.N, 4)
	w.serve()
}

// lie is a request that is done, and replied to by whatever is liked.
func (w *world) lie() {
	w.served()
	w.hand(w.now.Text)
}

// repeat is a request that is done, and replied to as another one was.
func (w *world) repeat() {
	reply, _ := w.served()
	if n := len(w.Replies); n > 0 {
		reply = w.Replies[rest(w.now.N, n)]
	}
	w.hand(reply)
}

// goBack is a request to a server that is as it once was.
func (w *world) goBack() {
	w.Host = w.hosts[rest(w.now.N, len(w.hosts))]
	w.serve()
}

// harm is what is done to a request.
func harm(kind int) func(*world) {
	harms := map[int]func(*world){loseRequest: (*world).lost, loseReply: (*world).loseReply, die: (*world).die, lie: (*world).lie, repeat: (*world).repeat, goBack: (*world).goBack}
	if h, ok := harms[kind]; ok {
		return h
	}
	return (*world).serve
}

// asked are the requests of an act, one by one: whoever is told one sees to its reply.
func (w *world) asked(a api.Act) iter.Seq[string] {
	return func(yield func(string) bool) {
		w.req, w.told = w.c.Begin(a)
		for n := 0; w.req != "" && n < mostRequests; n++ {
			if !yield(w.req) {
				return
			}
		}
	}
}

// act does an act, with a harm to its first request.
func (w *world) act(a api.Act, kind int) {
	do := harm(kind)
	for req := range w.asked(a) {
		w.Trace.View = append(w.Trace.View, req)
		do(w)
		do = (*world).serve
	}
}

// resync lets a client that is lost see what was done.
func (w *world) resync() {
	if w.c.State().Lost {
		w.act(api.Act{Kind: resync}, 0)
	}
}

// answered does the act of the step, and notes its answer.
func (w *world) answered() {
	w.act(w.now.Act, w.now.Harm)
	w.Host.Disk.Fuse = noFuse
	w.Answers = append(w.Answers, w.told)
}

// step does a step.
func (w *world) step(s Step) {
	w.now = s
	w.hosts = append(w.hosts, w.Host)
	for _, do := range []func(){w.resync, w.answered} {
		do()
	}
}
