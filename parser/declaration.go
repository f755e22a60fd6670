package parser

import "trickle/api"

func (p *parser) program() api.Program {
	var r api.Program
	for {
		switch {
		case p.accept("const"):
			r.Consts = append(r.Consts, p.constant())
		case p.accept("var"):
			r.Globals = append(r.Globals, p.variable())
		case p.accept("sensor"):
			r.Sensors = append(r.Sensors, p.port())
		case p.accept("output"):
			r.Outputs = append(r.Outputs, p.port())
		case p.accept("channel"):
			r.Channels = append(r.Channels, p.channel())
		case p.accept("task"):
			r.Tasks = append(r.Tasks, p.task())
		default:
			return r
		}
	}
}

// The rules of declarations begin behind the keyword.

func (p *parser) constant() api.Const {
	c := api.Const{Pos: p.rest[0].Pos}
	c.Name = p.name()
	p.expect("=")
	c.Value = p.signed()
	p.expect(";")
	return c
}

func (p *parser) variable() api.Global {
	g := api.Global{Pos: p.rest[0].Pos}
	g.Name = p.name()
	switch {
	case p.accept("["):
		g.Len = int(p.number(1))
		p.expect("]")
	case p.accept("="):
		g.Init = p.signed()
	}
	p.expect(";")
	return g
}

// port takes what declares a sensor or an output.
func (p *parser) port() string {
	name := p.name()
	p.expect(";")
	return name
}

func (p *parser) channel() api.Channel {
	c := api.Channel{Pos: p.rest[0].Pos}
	c.Name = p.name()
	p.expect("[")
	c.Cap = int(p.number(0))
	p.expect("]")
	p.expect(";")
	return c
}

func (p *parser) task() api.Task {
	t := api.Task{Pos: p.rest[0].Pos}
	t.Name = p.name()
	if p.accept("every") {
		t.Period = int(p.number(1))
	} else {
		p.expect("on")
		t.Channel = p.name()
		p.expect("(")
		t.Param = p.name()
		p.expect(")")
		t.Within = p.option("within")
	}
	t.Deadline = p.option("deadline")
	t.Body = p.block()
	return t
}

func (p *parser) signed() int16 {
	if p.accept("-") {
		return -p.number(0)
	}
	return p.number(0)
}

// option takes the number behind a keyword; without the keyword it is 0.
func (p *parser) option(keyword string) int {
	if p.accept(keyword) {
		return int(p.number(0))
	}
	return 0
}
