package check

import (
	"errors"

	"usufruct/api"
	"usufruct/fault"
	"usufruct/types"
)

// checker goes through the body of one function, and gives up at the first thing that is wrong.
type checker struct {
	*book
	lives  []string
	result api.RType
	gives  bool
	locals map[string]spot
	lets   []string // those that are there, in order
	at     int      // where the statement is that is asked
}

// ask answers what a checker gave up by, if it did.
func (b *book) ask(f api.Func) (err error) {
	defer func() { err = found(recover()) }()
	b.newChecker(f).body(f)
	return nil
}

// found goes by errors.As, so that nothing but a checker's own giving up is told as an error.
func found(stopped any) error {
	if err, is := stopped.(error); is {
		var f *api.Fault
		if errors.As(err, &f) {
			return f
		}
	}
	if stopped != nil {
		panic(stopped)
	}
	return nil
}

func (c *checker) giveUp(code api.Errno) { panic(fault.New(code, c.at)) }

func (c *checker) need(right bool, code api.Errno) {
	if !right {
		c.giveUp(code)
	}
}

func (c *checker) needSame(a, b api.RType) { c.need(types.Same(a, b), api.ErrType) }

func (b *book) newChecker(f api.Func) *checker {
	c := &checker{
		book:   b,
		result: b.lifted(f.Result),
		gives:  f.Result.Kind != api.KindUnit,
		locals: map[string]spot{},
	}
	for _, l := range f.Lives {
		c.lives = append(c.lives, l.Name)
	}
	for _, p := range f.Params {
		if _, is := c.locals[p.Name]; !is {
			c.locals[p.Name] = spot{typ: b.lifted(p.Type), mut: p.Mut}
		}
	}
	return c
}

func (c *checker) body(f api.Func) {
	end := c.block(f.Body, false)
	c.at = f.At
	c.need(!c.gives || !end.on, api.ErrFlow)
}

// block tells how its statements run as it goes through them, so that none is gone through again for that.
func (c *checker) block(l []api.Stmt, looped bool) course {
	ahead := len(c.lets)
	all := course{on: true}
	for i := range l {
		c.at = l[i].At
		c.need(all.on, api.ErrFlow)
		all = all.then(c.one(&l[i], looped))
	}
	c.forget(ahead)
	return all
}

// forget leaves the lets that were there ahead of a block.
func (c *checker) forget(ahead int) {
	for _, name := range c.lets[ahead:] {
		delete(c.locals, name)
	}
	c.lets = c.lets[:ahead]
}

// one goes through a statement; looped tells whether it stands within a while or loop.
func (c *checker) one(x *api.Stmt, looped bool) course {
	var then, other course
	switch x.Kind {
	case api.StmtLet:
		c.let(x)
	case api.StmtSet:
		c.set(x)
	case api.StmtCall:
		c.value(&x.Value)
	case api.StmtIf, api.StmtWhile:
		c.needSame(c.oper(&x.Cond), boolean())
		fallthrough
	case api.StmtLoop, api.StmtBlock:
		looped = looped || x.Kind == api.StmtWhile || x.Kind == api.StmtLoop
		then = c.block(x.Then, looped)
		other = c.block(elseOf(x), looped)
	case api.StmtBreak, api.StmtContinue:
		c.need(looped, api.ErrFlow)
	case api.StmtReturn:
		c.giveBack(x)
	case api.StmtDrop:
		c.drop(x)
	}
	return courseOfOne(x, then, other)
}

func (c *checker) let(x *api.Stmt) {
	_, is := c.locals[x.Name]
	c.need(!is, api.ErrTwice)
	code := fault.Code(c.scope.Type(x.Type, c.lives, true))
	c.need(code == api.OK, code)
	c.need(x.Has || x.Mut, api.ErrMut)
	typ := c.lifted(x.Type)
	if x.Has {
		c.needValue(&x.Value, typ)
	}
	c.locals[x.Name] = spot{typ: typ, mut: x.Mut}
	c.lets = append(c.lets, x.Name)
}

func (c *checker) set(x *api.Stmt) {
	to := c.place(&x.Place)
	c.need(to.mut, api.ErrMut)
	c.needValue(&x.Value, to.typ)
}

func (c *checker) giveBack(x *api.Stmt) {
	c.need(x.Has == c.gives, api.ErrType)
	if x.Has {
		c.needValue(&x.Value, c.result)
	}
}

func (c *checker) drop(x *api.Stmt) {
	p := c.place(&x.Place)
	c.need(!types.Copy(p.typ), api.ErrType)
	c.need(!p.behind, api.ErrBehind)
}
