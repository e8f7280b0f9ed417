package check

import "usufruct/api"

// course is how statements run: whether what stands behind them may be come to, and whether a break is in them that ends a loop around them.
type course struct {
	on     bool
	breaks bool
}

// courseOf tells both in one pass, so that loops within loops are not gone through again and again.
func courseOf(l []api.Stmt) course {
	all := course{on: true}
	for i := range l {
		x := &l[i]
		all = all.then(courseOfOne(x, courseOf(x.Then), courseOf(elseOf(x))))
	}
	return all
}

func (c course) then(next course) course {
	return course{on: c.on && next.on, breaks: c.breaks || next.breaks}
}

// courseOfOne is handed the courses of a statement's own lists. Where an else lacks, its empty list goes on.
func courseOfOne(x *api.Stmt, then, other course) course {
	switch x.Kind {
	case api.StmtBreak:
		return course{breaks: true}
	case api.StmtContinue, api.StmtReturn:
		return course{}
	case api.StmtIf:
		return course{on: then.on || other.on, breaks: then.breaks || other.breaks}
	case api.StmtLoop:
		return course{on: then.breaks}
	case api.StmtBlock:
		return then
	}
	return course{on: true}
}

func elseOf(x *api.Stmt) []api.Stmt {
	if x.Kind == api.StmtIf && x.Has {
		return x.Else
	}
	return nil
}
