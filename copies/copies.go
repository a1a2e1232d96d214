// Package copies: values of package api that share no memory with those that they were made from.
package copies

import (
	"slices"

	"groupcontrol/api"
)

// Tree returns a copy of a tree.
func Tree(t api.Tree) api.Tree {
	t.Nodes = slices.Clone(t.Nodes)
	return t
}

// Hierarchy returns a copy of a hierarchy.
func Hierarchy(h api.Hierarchy) api.Hierarchy {
	h.Tree = Tree(h.Tree)
	h.Tasks = slices.Clone(h.Tasks)
	return h
}

// Settings returns a copy of settings.
func Settings(s api.Settings) api.Settings {
	s.Cpus = slices.Clone(s.Cpus)
	s.Mems = slices.Clone(s.Mems)
	s.Devices = slices.Clone(s.Devices)
	return s
}

// Configs returns a copy of the settings of groups.
func Configs(l []api.Config) []api.Config {
	l = slices.Clone(l)
	for i := range l {
		l[i].Settings = Settings(l[i].Settings)
	}
	return l
}

// Branches returns a copy of the queues of groups.
func Branches(l []api.Branch) []api.Branch {
	l = slices.Clone(l)
	for i := range l {
		l[i].Queue.Items = slices.Clone(l[i].Queue.Items)
	}
	return l
}

// Pool returns a copy of a pool.
func Pool(p api.Pool) api.Pool {
	p.Local = slices.Clone(p.Local)
	return p
}

// Pools returns a copy of the pools of groups.
func Pools(l []api.Pool) []api.Pool {
	l = slices.Clone(l)
	for i := range l {
		l[i] = Pool(l[i])
	}
	return l
}

// Machine returns a copy of a machine.
func Machine(m api.Machine) api.Machine {
	m.Domains = slices.Clone(m.Domains)
	return m
}

// Processors returns a copy of the state of the processor controller.
func Processors(p api.Processors) api.Processors {
	p.Machine = Machine(p.Machine)
	p.Branches = Branches(p.Branches)
	p.Pools = Pools(p.Pools)
	p.Last = slices.Clone(p.Last)
	return p
}

// Stock returns a copy of the memory of groups.
func Stock(s api.Stock) api.Stock {
	s.Holdings = slices.Clone(s.Holdings)
	return s
}

// Objects returns a copy of shared objects.
func Objects(l []api.Object) []api.Object {
	l = slices.Clone(l)
	for i := range l {
		l[i].Parts = slices.Clone(l[i].Parts)
	}
	return l
}

// Device returns a copy of the state of a device.
func Device(d api.Device) api.Device {
	d.Weights = slices.Clone(d.Weights)
	d.Buckets = slices.Clone(d.Buckets)
	d.Depths = slices.Clone(d.Depths)
	d.V = slices.Clone(d.V)
	d.Queue = slices.Clone(d.Queue)
	d.Flights = slices.Clone(d.Flights)
	return d
}

// Freezer returns a copy of a freezer.
func Freezer(f api.Freezer) api.Freezer {
	f.Frosts = slices.Clone(f.Frosts)
	f.Stopped = slices.Clone(f.Stopped)
	return f
}

// Devices returns a copy of the states of devices.
func Devices(l []api.Device) []api.Device {
	l = slices.Clone(l)
	for i := range l {
		l[i] = Device(l[i])
	}
	return l
}

// Setup returns a copy of a setup.
func Setup(s api.Setup) api.Setup {
	s.Machine = Machine(s.Machine)
	s.Online = slices.Clone(s.Online)
	s.Devices = slices.Clone(s.Devices)
	return s
}

// System returns a copy of a system.
func System(y api.System) api.System {
	y.Setup = Setup(y.Setup)
	y.Hierarchy = Hierarchy(y.Hierarchy)
	y.Configs = Configs(y.Configs)
	y.Counts = slices.Clone(y.Counts)
	y.Stock = Stock(y.Stock)
	y.Objects = Objects(y.Objects)
	y.Residents = slices.Clone(y.Residents)
	y.Adjusts = slices.Clone(y.Adjusts)
	y.Freezer = Freezer(y.Freezer)
	y.Tallies = slices.Clone(y.Tallies)
	y.Gauge.Values = slices.Clone(y.Gauge.Values)
	y.Devices = Devices(y.Devices)
	y.Processors = Processors(y.Processors)
	return y
}

// Programs returns a copy of programs.
func Programs(l []api.Program) []api.Program {
	l = slices.Clone(l)
	for i := range l {
		l[i].Steps = slices.Clone(l[i].Steps)
	}
	return l
}

// World returns a copy of a world.
func World(w api.World) api.World {
	w.System = System(w.System)
	w.Programs = Programs(w.Programs)
	w.Runners = slices.Clone(w.Runners)
	return w
}
