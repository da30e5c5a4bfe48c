import PyProof.Rows.All
import Wide.All
import OpenK.AllK
import Wide.FinOn
import KE.DataEq
import HandS.ForExc
import HandS.ForMost
import HandS.IsInst
import HandS.TupAny
import HandS.TupMul
import KE.KExcStr
import HandS.ExcCtx
import HandS.HotCalls
import HandS.ExcIs
import HandS.ExcValue
import HandS.SetFor
import HandS.RaiseMore
import KE.DataCmp
import HandS.Walk
import HandS.Zip
import HandS.IterVal
import KE.KeyNested
import KE.KDictKeyed
import KE.SortData
import HandS.TupSets
import PySem.Challenge.RW_corrigenda_k02_values_and_weights
set_option Elab.async false
set_option linter.all false
set_option maxRecDepth 100000
/-! Cg: what a def does, told as a tree of draws over plain data. -/
namespace Cg
open PySem L2

/-- the four errors, and the one above them -/
inductive Ek where | kind | value | patch | unfit | base
  deriving DecidableEq

/-- what a run comes to: an answer, an error, nothing that is told, or a number below n that is drawn -/
inductive Tr (α : Type) where
  | ret (a : α)
  | exc (c : Ek)
  | bad
  | draw (n : Nat) (k : Nat → Tr α)
namespace Tr
variable {α β γ : Type}
def bind : Tr α → (α → Tr β) → Tr β
  | .ret a, f => f a
  | .exc c, _ => .exc c
  | .bad, _ => .bad
  | .draw n k, f => .draw n fun i => (k i).bind f
def wp (Q : α → Prop) (E : Ek → Prop) : Tr α → Prop
  | .ret a => Q a
  | .exc c => E c
  | .bad => False
  | .draw n k => ∀ i, i < n → (k i).wp Q E
theorem wp_bind {f : α → Tr β} {Q : β → Prop} {E : Ek → Prop} : ∀ {t : Tr α}, (t.bind f).wp Q E ↔ t.wp (fun a => (f a).wp Q E) E
  | .ret _ => Iff.rfl
  | .exc _ => Iff.rfl
  | .bad => Iff.rfl
  | .draw n k => by
    show (∀ i, i < n → ((k i).bind f).wp Q E) ↔ ∀ i, i < n → (k i).wp (fun a => (f a).wp Q E) E
    exact ⟨fun h i hi => wp_bind.mp (h i hi), fun h i hi => wp_bind.mpr (h i hi)⟩
theorem wp_mono {Q Q' : α → Prop} {E E' : Ek → Prop} (hq : ∀ a, Q a → Q' a) (he : ∀ c, E c → E' c) : ∀ {t : Tr α}, t.wp Q E → t.wp Q' E'
  | .ret a, h => hq a h
  | .exc c, h => he c h
  | .bad, h => h.elim
  | .draw n k, h => fun i hi => wp_mono hq he (h i hi)
@[simp] theorem ret_bind (a : α) (f : α → Tr β) : (Tr.ret a).bind f = f a := rfl
@[simp] theorem exc_bind (c : Ek) (f : α → Tr β) : (Tr.exc c : Tr α).bind f = .exc c := rfl
@[simp] theorem bad_bind (f : α → Tr β) : (Tr.bad : Tr α).bind f = .bad := rfl
@[simp] theorem draw_bind (n : Nat) (k : Nat → Tr α) (f : α → Tr β) : (Tr.draw n k).bind f = .draw n fun i => (k i).bind f := rfl
@[simp] theorem bind_ret : ∀ t : Tr α, t.bind Tr.ret = t
  | .ret _ => rfl
  | .exc _ => rfl
  | .bad => rfl
  | .draw n k => by
    show Tr.draw n (fun i => (k i).bind Tr.ret) = _
    congr
    funext i
    exact bind_ret (k i)
theorem bind_assoc (f : α → Tr β) (g : β → Tr γ) : ∀ t : Tr α, (t.bind f).bind g = t.bind fun a => (f a).bind g
  | .ret _ => rfl
  | .exc _ => rfl
  | .bad => rfl
  | .draw n k => by
    show Tr.draw n (fun i => ((k i).bind f).bind g) = Tr.draw n fun i => (k i).bind fun a => (f a).bind g
    congr
    funext i
    exact bind_assoc f g (k i)
end Tr

/-! ### heaps -/
def Ex (H H' : Hp) : Prop := ∀ a o, H a = some o → H' a = some o
theorem Ex.refl (H : Hp) : Ex H H := fun _ _ h => h
theorem Ex.trans {H H1 H2 : Hp} (a : Ex H H1) (b : Ex H1 H2) : Ex H H2 := fun x o h => b x o (a x o h)
theorem Ex.new {H : Hp} {p : Addr} {o : HO} (h : H p = none) : Ex H (upd H p o) := fun a u e => by
  rw [upd_ne (ne_of_none e h)]
  exact e
theorem Ex.rd {H H' : Hp} {a : Addr} {u : HO} (e : Ex H H') (h : Rd H a u) : Rd H' a u := by
  rcases h with h | ⟨o, h⟩
  · exact Or.inl (e a _ h)
  · exact Or.inr ⟨o, e a _ h⟩
theorem Ex.l {K : PySem.W.Frag} {H H' : Hp} {a : Addr} {xs : List V} (e : Ex H H') (h : SqL K H a xs) : SqL K H' a xs := by
  rcases h with h | h
  · exact Or.inl (e.rd h)
  · exact Or.inr h
theorem Ex.t {K : PySem.W.Frag} {H H' : Hp} {a : Addr} {xs : List V} (e : Ex H H') (h : SqT K H a xs) : SqT K H' a xs := by
  rcases h with h | h
  · exact Or.inl (e.rd h)
  · exact Or.inr h
theorem Ex.back {H H' : Hp} {p : Addr} (e : Ex H H') (h : H' p = none) : H p = none := by
  cases h1 : H p with
  | none => rfl
  | some o =>
    rw [e p o h1] at h
    cases h

/-! ### values that stand for data -/
mutual
inductive Rp (K : PySem.W.Frag) (G : Hp) : V → PyData → Prop
  | non : Rp K G .non .none
  | bl (b : Bool) : Rp K G (.bl b) (.bool b)
  | int (i : Int) : Rp K G (.int i) (.int i)
  | str (x : Str) : Rp K G (.str x) (.str x)
  | lst {a : Addr} {xs : List V} {ds : List PyData} : SqL K G a xs → ds.length ≤ sizeLine → RpAll K G xs ds → Rp K G (.ref a) (.list ds)
  | tup {a : Addr} {xs : List V} {ds : List PyData} : SqT K G a xs → ds.length ≤ sizeLine → RpAll K G xs ds → Rp K G (.ref a) (.tuple ds)
inductive RpAll (K : PySem.W.Frag) (G : Hp) : List V → List PyData → Prop
  | nil : RpAll K G [] []
  | cons {v : V} {vs : List V} {d : PyData} {ds : List PyData} : Rp K G v d → RpAll K G vs ds → RpAll K G (v :: vs) (d :: ds)
end
section
variable {K : PySem.W.Frag} {G G' : Hp}
mutual
theorem Rp.mono (e : Ex G G') : ∀ {v : V} {d : PyData}, Rp K G v d → Rp K G' v d
  | _, _, .non => .non
  | _, _, .bl b => .bl b
  | _, _, .int i => .int i
  | _, _, .str x => .str x
  | _, _, .lst h l a => .lst (e.l h) l (RpAll.mono e a)
  | _, _, .tup h l a => .tup (e.t h) l (RpAll.mono e a)
theorem RpAll.mono (e : Ex G G') : ∀ {vs : List V} {ds : List PyData}, RpAll K G vs ds → RpAll K G' vs ds
  | _, _, .nil => .nil
  | _, _, .cons h t => .cons (Rp.mono e h) (RpAll.mono e t)
end
mutual
theorem Rp.dp : ∀ {v : V} {d : PyData}, Rp K G v d → Dp K G v d
  | _, _, .non => .non
  | _, _, .bl b => .bl b
  | _, _, .int i => .int i
  | _, _, .str x => .str x
  | _, _, .lst h l a => .lst h (RpAll.dp a)
  | _, _, .tup h l a => .tup h (RpAll.dp a)
theorem RpAll.dp : ∀ {vs : List V} {ds : List PyData}, RpAll K G vs ds → DpAll K G vs ds
  | _, _, .nil => .nil
  | _, _, .cons h t => .cons (Rp.dp h) (RpAll.dp t)
end
mutual
theorem Rp.plain : ∀ {v : V} {d : PyData}, Rp K G v d → d.plain = true
  | _, _, .non => rfl
  | _, _, .bl b => rfl
  | _, _, .int i => rfl
  | _, _, .str x => rfl
  | _, .list ds, .lst h l a => by
    show PyData.plainAll ds = true
    exact RpAll.plain a
  | _, .tuple ds, .tup h l a => by
    show PyData.plainAll ds = true
    exact RpAll.plain a
theorem RpAll.plain : ∀ {vs : List V} {ds : List PyData}, RpAll K G vs ds → PyData.plainAll ds = true
  | _, _, .nil => rfl
  | _, d :: ds, .cons h t => by
    show (PyData.plain d && PyData.plainAll ds) = true
    rw [Rp.plain h, RpAll.plain t]
    rfl
end
theorem RpAll.len : ∀ {vs : List V} {ds : List PyData}, RpAll K G vs ds → vs.length = ds.length
  | _, _, .nil => rfl
  | _, _, .cons h t => congrArg (· + 1) (RpAll.len t)
theorem RpAll.get : ∀ {vs : List V} {ds : List PyData} {i : Nat} {d : PyData}, RpAll K G vs ds → ds[i]? = some d → ∃ v, vs[i]? = some v ∧ Rp K G v d
  | _, _, _, _, .nil, e => by simp at e
  | _, _, 0, _, .cons h _, e => by
    simp at e
    subst e
    exact ⟨_, rfl, h⟩
  | _, _, i + 1, d, .cons _ t, e => by
    obtain ⟨v, h1, h2⟩ := RpAll.get (i := i) (d := d) t (by simpa using e)
    exact ⟨v, by simpa using h1, h2⟩
theorem RpAll.getV : ∀ {vs : List V} {ds : List PyData} {i : Nat} {v : V}, RpAll K G vs ds → vs[i]? = some v → ∃ d, ds[i]? = some d ∧ Rp K G v d
  | _, _, _, _, .nil, e => by simp at e
  | _, _, 0, _, .cons h _, e => by
    simp at e
    subst e
    exact ⟨_, rfl, h⟩
  | _, _, i + 1, v, .cons _ t, e => by
    obtain ⟨d, h1, h2⟩ := RpAll.getV (i := i) (v := v) t (by simpa using e)
    exact ⟨d, by simpa using h1, h2⟩
theorem RpAll.append : ∀ {vs : List V} {ds : List PyData} {ws : List V} {es : List PyData}, RpAll K G vs ds → RpAll K G ws es → RpAll K G (vs ++ ws) (ds ++ es)
  | _, _, _, _, .nil, s => s
  | _, _, _, _, .cons h t, s => .cons h (RpAll.append t s)
theorem RpAll.take : ∀ {vs : List V} {ds : List PyData} (n : Nat), RpAll K G vs ds → RpAll K G (vs.take n) (ds.take n)
  | _, _, 0, _ => .nil
  | _, _, _ + 1, .nil => .nil
  | _, _, n + 1, .cons h t => .cons h (RpAll.take n t)
theorem RpAll.drop : ∀ {vs : List V} {ds : List PyData} (n : Nat), RpAll K G vs ds → RpAll K G (vs.drop n) (ds.drop n)
  | _, _, 0, r => r
  | _, _, _ + 1, .nil => .nil
  | _, _, n + 1, .cons _ t => RpAll.drop n t
theorem RpAll.ints : ∀ {vs : List V} {ns : List Int}, RpAll K G vs (ns.map PyData.int) → vs = ns.map V.int
  | _, [], .nil => rfl
  | _, n :: ns, .cons h t => by
    cases h
    rw [RpAll.ints t]
    rfl
theorem RpAll.ofInts : ∀ (ns : List Int), RpAll K G (ns.map V.int) (ns.map PyData.int)
  | [] => .nil
  | n :: ns => .cons (.int n) (RpAll.ofInts ns)
theorem RpAll.rep : ∀ {vs : List V} {ds : List PyData} (n : Nat), RpAll K G vs ds → RpAll K G (List.replicate n vs).flatten (List.replicate n ds).flatten
  | _, _, 0, _ => .nil
  | vs, ds, n + 1, h => by
    rw [List.replicate_succ, List.replicate_succ, List.flatten_cons, List.flatten_cons]
    exact RpAll.append h (RpAll.rep n h)
end

/-! ### slots, what is owned -/
/-- what a slot holds: data; a list of the def's own; the box; a value as it is; anything -/
inductive Sl where
  | dat (d : PyData)
  | acc (ds : List PyData)
  | box
  | val (v : V)
  | any
/-- the box that is drawn from: a cell, a count, a place, the script -/
def BoxOk (K : PySem.W.Frag) (G H : Hp) (b : Addr) : Prop :=
  G b = none ∧ ∃ (cell k at' : Int) (c : Addr) (ns : List Int), H b = some (.lst [.int cell, .int k, .int at', .ref c]) ∧ SqL K G c (ns.map V.int) ∧ 0 ≤ at'
def owning : Sl → Bool
  | .acc _ => true
  | .box => true
  | _ => false
def SlOk (K : PySem.W.Frag) (G H : Hp) : Sl → Option V → Prop
  | .dat d, o => ∃ v, o = some v ∧ Rp K G v d
  | .acc ds, o => ∃ a xs, o = some (.ref a) ∧ H a = some (.lst xs) ∧ ds.length ≤ sizeLine ∧ RpAll K G xs ds ∧ G a = none
  | .box, o => ∃ a, o = some (.ref a) ∧ BoxOk K G H a
  | .val v, o => o = some v
  | .any, _ => True
structure Sta (K : PySem.W.Frag) (G H : Hp) (ρ : List Sl) (σ : L2.St) : Prop where
  len : ρ.length = σ.length
  sub : Ex G H
  ok : ∀ (i : Nat) (s : Sl) (o : Option V), ρ[i]? = some s → σ[i]? = some o → SlOk K G H s o
  dis : ∀ (i j : Nat) (si sj : Sl) (a : Addr), ρ[i]? = some si → ρ[j]? = some sj → owning si = true → owning sj = true → σ[i]? = some (some (.ref a)) → σ[j]? = some (some (.ref a)) → i = j
def Owns (ρ : List Sl) (σ : L2.St) (a : Addr) : Prop := ∃ (i : Nat) (s : Sl), ρ[i]? = some s ∧ owning s = true ∧ σ[i]? = some (some (V.ref a))
/-- how the heap grows while O is ours -/
structure Gr (O : Addr → Prop) (G H G' H' : Hp) : Prop where
  ex : Ex G G'
  new : ∀ a, ¬ O a → H a ≠ none → G a = none → G' a = none
  fr : ∀ a o, ¬ O a → H a = some o → H' a = some o
  keep : ∀ a, H a ≠ none → H' a ≠ none
section
variable {K : PySem.W.Frag} {O O' : Addr → Prop} {G H G1 H1 G2 H2 : Hp}
theorem Gr.refl : Gr O G H G H := ⟨Ex.refl G, fun _ _ _ h => h, fun _ _ _ h => h, fun _ h => h⟩
/-- what is ours later was ours or is new -/
theorem Gr.trans (a : Gr O G H G1 H1) (b : Gr O' G1 H1 G2 H2) (s : ∀ x, O' x → O x ∨ H x = none) : Gr O G H G2 H2 := by
  have no : ∀ x, ¬ O x → H x ≠ none → ¬ O' x := fun x hx hn ho => by
    rcases s x ho with z | z
    · exact hx z
    · exact hn z
  refine ⟨a.ex.trans b.ex, fun x hx hn hg => ?_, fun x o hx ho => ?_, fun x hn => b.keep x (a.keep x hn)⟩
  · exact b.new x (no x hx hn) (a.keep x hn) (a.new x hx hn hg)
  · exact b.fr x o (no x hx (by rw [ho]; exact fun z => nomatch z)) (a.fr x o hx ho)
theorem Gr.trans' (a : Gr O G H G1 H1) (b : Gr O G1 H1 G2 H2) : Gr O G H G2 H2 := a.trans b fun _ h => .inl h
theorem Gr.less (a : Gr O G H G1 H1) (s : ∀ x, O x → O' x) : Gr O' G H G1 H1 :=
  ⟨a.ex, fun x hx => a.new x fun z => hx (s x z), fun x o hx => a.fr x o fun z => hx (s x z), a.keep⟩
/-- a new thing that never changes -/
theorem Gr.lay {p : Addr} {o : HO} (h : H p = none) (e : Ex G H) : Gr O G H (upd G p o) (upd H p o) := by
  refine ⟨Ex.new (e.back h), fun a _ hn hg => ?_, fun a u _ ha => ?_, fun a hn => ?_⟩
  · rw [upd_ne (fun z => hn (by rw [z]; exact h))]
    exact hg
  · rw [upd_ne (ne_of_none ha h)]
    exact ha
  · rw [upd_ne (fun z => hn (by rw [z]; exact h))]
    exact hn
theorem BoxOk.grow {b : Addr} (h : BoxOk K G H b) (e : Ex G G1) (n : G1 b = none) (k : ∀ o, H b = some o → H1 b = some o) : BoxOk K G1 H1 b := by
  obtain ⟨_, cell, q, at', c, ns, h1, h2, r⟩ := h
  exact ⟨n, cell, q, at', c, ns, k _ h1, e.l h2, r⟩
theorem BoxOk.there {b : Addr} (h : BoxOk K G H b) : H b ≠ none := by
  obtain ⟨_, cell, q, at', c, ns, h1, r⟩ := h
  rw [h1]
  exact fun z => nomatch z
/-- a slot's word stays while the heap grows by things that are not ours -/
theorem SlOk.grow {s : Sl} {o : Option V} (h : SlOk K G H s o) (e : Ex G G1) (n : ∀ a, owning s = true → o = some (.ref a) → G a = none → H a ≠ none → G1 a = none) (k : ∀ a u, owning s = true → o = some (.ref a) → H a = some u → H1 a = some u) : SlOk K G1 H1 s o := by
  cases s with
  | dat d =>
    obtain ⟨v, ev, r⟩ := h
    exact ⟨v, ev, r.mono e⟩
  | acc ds =>
    obtain ⟨a, xs, ev, ha, hl, r, hg⟩ := h
    exact ⟨a, xs, ev, k a _ rfl ev ha, hl, r.mono e, n a rfl ev hg (by rw [ha]; exact fun z => nomatch z)⟩
  | box =>
    obtain ⟨a, ev, b⟩ := h
    exact ⟨a, ev, b.grow e (n a rfl ev b.1 b.there) fun u q => k a u rfl ev q⟩
  | val v => exact h
  | any => trivial
variable {ρ : List Sl} {σ : L2.St}
theorem Sta.own (S : Sta K G H ρ σ) {a : Addr} (h : Owns ρ σ a) : G a = none ∧ H a ≠ none := by
  obtain ⟨i, s, h1, h2, h3⟩ := h
  have q := S.ok i s _ h1 h3
  cases s with
  | acc ds =>
    obtain ⟨b, xs, ev, hb, _, _, hg⟩ := q
    cases ev
    exact ⟨hg, by rw [hb]; exact fun z => nomatch z⟩
  | box =>
    obtain ⟨b, ev, hb⟩ := q
    cases ev
    exact ⟨hb.1, hb.there⟩
  | dat _ => cases h2
  | val _ => cases h2
  | any => cases h2
/-- nothing of ours is touched -/
theorem Sta.grow (S : Sta K G H ρ σ) (g : Gr (fun _ => False) G H G1 H1) (e : Ex G1 H1) : Sta K G1 H1 ρ σ :=
  ⟨S.len, e, fun i s o h1 h2 => (S.ok i s o h1 h2).grow g.ex (fun a _ _ hg hn => g.new a id hn hg) fun a u _ _ h => g.fr a u id h, S.dis⟩
theorem Ex.lay {p : Addr} {o : HO} (e : Ex G H) (h : H p = none) : Ex (upd G p o) (upd H p o) := fun a u q => by
  by_cases z : a = p
  · rw [z, upd_same] at q
    rw [z, upd_same]
    exact q
  · rw [upd_ne z] at q
    rw [upd_ne z]
    exact e a u q
theorem Sta.lay (S : Sta K G H ρ σ) {p : Addr} {o : HO} (h : H p = none) : Sta K (upd G p o) (upd H p o) ρ σ := S.grow (Gr.lay h S.sub) (S.sub.lay h)
end

/-! ### what a reading does -/
variable {W α β : Type}
/-- what is wanted of an answer -/
def Po (K : PySem.W.Frag) (ρ : List Sl) (σ : L2.St) (Rel : Hp → W → α → Prop) (G H : Hp) (Q : W → Hp → Prop) (d : α) : Prop :=
  ∀ v G' H', Gr (Owns ρ σ) G H G' H' → Sta K G' H' ρ σ → Rel G' v d → Q v H'
/-- what is wanted of an error -/
def Xo (cl : Ek → Addr) (E : Option XK) (O : Addr → Prop) (H : Hp) (c : Ek) : Prop := match E with
  | none => False
  | some E => ∀ H', (∀ a o, ¬ O a → H a = some o → H' a = some o) → ∀ t, H' t = some (.tup []) → E (.ref (cl c)) (some t) H'
def EvG (K : PySem.W.Frag) (cl : Ek → Addr) (E : L2.St → Option XK) (Rel : Hp → W → α → Prop) (te : L2.St → Hp → (W → Hp → Prop) → Prop) (ρ : List Sl) (t : Tr α) : Prop :=
  ∀ G H σ, Sta K G H ρ σ → ∀ Q, t.wp (Po K ρ σ Rel G H Q) (Xo cl (E σ) (Owns ρ σ) H) → te σ H Q
abbrev Ev (K : PySem.W.Frag) (cl : Ek → Addr) (E : L2.St → Option XK) (te : TE) (ρ : List Sl) (t : Tr PyData) : Prop := EvG K cl E (Rp K) te ρ t
abbrev EvT (K : PySem.W.Frag) (cl : Ek → Addr) (E : L2.St → Option XK) (te : TT) (ρ : List Sl) (t : Tr Bool) : Prop := EvG K cl E (fun _ v d => v = d) te ρ t
section
variable {W' : Type} {K : PySem.W.Frag} {cl : Ek → Addr} {E : L2.St → Option XK} {ρ : List Sl} {σ : L2.St} {G H G1 H1 : Hp} {Rel : Hp → W → α → Prop} {Rel' : Hp → W' → β → Prop}
theorem Po.up (g : Gr (Owns ρ σ) G H G1 H1) {Q : W → Hp → Prop} {d : α} (h : Po K ρ σ Rel G H Q d) : Po K ρ σ Rel G1 H1 Q d := fun v G' H' g' => h v G' H' (g.trans' g')
theorem Xo.up {O : Addr → Prop} {E : Option XK} (g : Gr O G H G1 H1) {c : Ek} (h : Xo cl E O H c) : Xo cl E O H1 c := by
  cases E with
  | none => exact h
  | some E => exact fun H' k => h H' fun a o hn ha => k a o hn (g.fr a o hn ha)
theorem up (g : Gr (Owns ρ σ) G H G1 H1) {Q : W → Hp → Prop} {t : Tr α} (h : t.wp (Po K ρ σ Rel G H Q) (Xo cl (E σ) (Owns ρ σ) H)) : t.wp (Po K ρ σ Rel G1 H1 Q) (Xo cl (E σ) (Owns ρ σ) H1) :=
  Tr.wp_mono (fun _ => Po.up g) (fun _ => Xo.up g) h
/-- one after another -/
theorem EvG.seq {te : L2.St → Hp → (W → Hp → Prop) → Prop} {t : Tr α} {f : α → Tr β} (h : EvG K cl E Rel te ρ t) (S : Sta K G H ρ σ) {Q : W' → Hp → Prop} {R : W → Hp → Prop}
    (hw : (t.bind f).wp (Po K ρ σ Rel' G H Q) (Xo cl (E σ) (Owns ρ σ) H))
    (k : ∀ d v G1 H1, Gr (Owns ρ σ) G H G1 H1 → Sta K G1 H1 ρ σ → Rel G1 v d → (f d).wp (Po K ρ σ Rel' G1 H1 Q) (Xo cl (E σ) (Owns ρ σ) H1) → R v H1) : te σ H R :=
  h G H σ S R (Tr.wp_mono (fun d hd v G' H' g S' r => k d v G' H' g S' r (up g hd)) (fun _ x => x) (Tr.wp_bind.mp hw))
theorem Po.now {Q : W → Hp → Prop} {d : α} {v : W} (h : Po K ρ σ Rel G H Q d) (S : Sta K G H ρ σ) (r : Rel G v d) : Q v H := h v G H Gr.refl S r
theorem Po.lay {Q : V → Hp → Prop} {d : PyData} {p : Addr} {o : HO} (h : Po K ρ σ (Rp K) G H Q d) (S : Sta K G H ρ σ) (hp : H p = none) (r : Rp K (upd G p o) (.ref p) d) : Q (.ref p) (upd H p o) :=
  h (.ref p) _ _ (Gr.lay hp S.sub) (S.lay hp) r
end
end Cg
namespace Cg
open PySem L2

/-! ### data -/
def asB : PyData → Tr Bool
  | .bool b => .ret b
  | _ => .bad
def asI : PyData → Tr Int
  | .int i => .ret i
  | _ => .bad
@[simp] theorem asB_bool (b : Bool) : asB (.bool b) = .ret b := rfl
@[simp] theorem asI_int (i : Int) : asI (.int i) = .ret i := rfl
/-- tests by words of the language -/
def isTup : PyData → Bool
  | .tuple _ => true
  | _ => false
def isLst : PyData → Bool
  | .list _ => true
  | _ => false
def isInt : PyData → Bool
  | .int _ => true
  | .bool _ => true
  | _ => false
def isBool : PyData → Bool
  | .bool _ => true
  | _ => false
def isStr : PyData → Bool
  | .str _ => true
  | _ => false
def isNon : PyData → Bool
  | .none => true
  | _ => false
def cEq (a b : PyData) : Tr Bool := if min a.depth b.depth ≤ 64 then .ret (PyData.eqv a b) else .bad
def cNe (a b : PyData) : Tr Bool := if min a.depth b.depth ≤ 64 then .ret (!PyData.eqv a b) else .bad
def memD (a : PyData) (xs : List PyData) : Bool := xs.any fun y => PyData.eqv y a
def cIn (a b : PyData) : Tr Bool := match b with
  | .tuple xs => if min (PyData.depthAll xs) a.depth ≤ 64 then .ret (memD a xs) else .bad
  | .list xs => if min (PyData.depthAll xs) a.depth ≤ 64 then .ret (memD a xs) else .bad
  | _ => .bad
def cNotIn (a b : PyData) : Tr Bool := (cIn a b).bind fun k => .ret (!k)
def cLt : PyData → PyData → Tr Bool
  | .int i, .int j => .ret (decide (i < j))
  | _, _ => .bad
def cLe : PyData → PyData → Tr Bool
  | .int i, .int j => .ret (decide (i ≤ j))
  | _, _ => .bad
def cGt : PyData → PyData → Tr Bool
  | .int i, .int j => .ret (decide (j < i))
  | _, _ => .bad
def cGe : PyData → PyData → Tr Bool
  | .int i, .int j => .ret (decide (j ≤ i))
  | _, _ => .bad
def cIsN (a _b : PyData) : Tr Bool := .ret (isNon a)
def cNotN (a _b : PyData) : Tr Bool := .ret (!isNon a)
def dAdd : PyData → PyData → Tr PyData
  | .int i, .int j => .ret (.int (i + j))
  | .tuple xs, .tuple ys => if xs.length + ys.length ≤ 1000000 then .ret (.tuple (xs ++ ys)) else .bad
  | .list xs, .list ys => if xs.length + ys.length ≤ 1000000 then .ret (.list (xs ++ ys)) else .bad
  | _, _ => .bad
def dSub : PyData → PyData → Tr PyData
  | .int i, .int j => .ret (.int (i - j))
  | _, _ => .bad
def dMul : PyData → PyData → Tr PyData
  | .int i, .int j => if (-(2 ^ 64) < i ∧ i < 2 ^ 64) ∨ (-(2 ^ 64) < j ∧ j < 2 ^ 64) then .ret (.int (i * j)) else .bad
  | .tuple xs, .int k => if 0 < xs.length ∧ xs.length ≤ 1000 ∧ 0 ≤ k ∧ k ≤ 1000 then .ret (.tuple (List.replicate k.toNat xs).flatten) else .bad
  | .list xs, .int k => if xs.length ≤ 100 ∧ -10000 ≤ k ∧ k ≤ 10000 then .ret (.list (List.replicate k.toNat xs).flatten) else .bad
  | _, _ => .bad
def dIx : PyData → PyData → Tr PyData
  | .tuple xs, .int i => match atI xs i with
    | some d => .ret d
    | none => .bad
  | .list xs, .int i => match atI xs i with
    | some d => .ret d
    | none => .bad
  | _, _ => .bad
def dLen : PyData → Tr PyData
  | .tuple xs => .ret (.int xs.length)
  | .list xs => .ret (.int xs.length)
  | _ => .bad
def cutD (xs : List PyData) (lo hi : Option Int) : List PyData := (xs.drop (HT.sIx xs.length 0 lo)).take (HT.sIx xs.length xs.length hi - HT.sIx xs.length 0 lo)
def dSl (a : PyData) (lo hi : Option Int) : Tr PyData := match a with
  | .tuple xs => .ret (.tuple (cutD xs lo hi))
  | .list xs => .ret (.list (cutD xs lo hi))
  | _ => .bad
def items : PyData → Tr (List PyData)
  | .tuple xs => .ret xs
  | .list xs => .ret xs
  | _ => .bad
def dTuple : PyData → Tr PyData
  | .tuple xs => .ret (.tuple xs)
  | .list xs => .ret (.tuple xs)
  | _ => .bad
def dList : PyData → Tr PyData
  | .tuple xs => .ret (.list xs)
  | .list xs => .ret (.list xs)
  | _ => .bad
def asInts : List PyData → Option (List Int)
  | [] => some []
  | .int i :: r => (asInts r).map (i :: ·)
  | _ => none
def dSum : PyData → Tr PyData
  | .list xs => match asInts xs with
    | some ns => .ret (.int ns.sum)
    | none => .bad
  | _ => .bad
def dAbs : PyData → Tr PyData
  | .int i => .ret (.int (if i < 0 then -i else i))
  | _ => .bad

section
variable {K : PySem.W.Frag} {cl : Ek → Addr} {E : L2.St → Option XK} {ρ : List Sl}

/-! ### names, constants -/
theorem Sta.var {G H : Hp} {σ : L2.St} (S : Sta K G H ρ σ) {i : Nat} {s : Sl} (h : ρ[i]? = some s) : ∃ o, σ[i]? = some o ∧ SlOk K G H s o := by
  have hi : i < σ.length := by
    rw [← S.len]
    exact (List.getElem?_eq_some_iff.mp h).1
  exact ⟨σ[i], List.getElem?_eq_getElem hi, S.ok i s _ h (List.getElem?_eq_getElem hi)⟩
theorem ev_var {i : Nat} {d : PyData} (h : ρ[i]? = some (.dat d)) : Ev K cl E (tVar i) ρ (.ret d) := fun G H σ S Q q => by
  obtain ⟨o, h1, v, e, r⟩ := S.var h
  rw [e] at h1
  exact ⟨v, h1, Po.now q S r⟩
theorem ev_int {i : Int} : Ev K cl E (tC (.int i)) ρ (.ret (.int i)) := fun G H σ S Q q => Po.now q S (.int i)
theorem ev_bl {b : Bool} : Ev K cl E (tC (.bl b)) ρ (.ret (.bool b)) := fun G H σ S Q q => Po.now q S (.bl b)
theorem ev_str {x : Str} : Ev K cl E (tC (.str x)) ρ (.ret (.str x)) := fun G H σ S Q q => Po.now q S (.str x)
theorem ev_non : Ev K cl E (tC .non) ρ (.ret .none) := fun G H σ S Q q => Po.now q S .non

/-! ### operators -/
def RR (K : PySem.W.Frag) (r : R2) (f : PyData → PyData → Tr PyData) : Prop :=
  ∀ (cl : Ek → Addr) (E : L2.St → Option XK) (ρ : List Sl) (σ : L2.St) (G H : Hp) (x y : V) (a b : PyData), Sta K G H ρ σ → Rp K G x a → Rp K G y b → ∀ Q : VK, (f a b).wp (Po K ρ σ (Rp K) G H Q) (Xo cl (E σ) (Owns ρ σ) H) → r x y H Q
def RC (K : PySem.W.Frag) (r : R2) (c : PyData → PyData → Tr Bool) : Prop :=
  ∀ (G H : Hp) (x y : V) (a b : PyData) (E : Ek → Prop), Ex G H → Rp K G x a → Rp K G y b → ∀ Q : VK, (c a b).wp (fun k => Q (.bl k) H) E → r x y H Q
theorem ev_op {r : R2} {f : PyData → PyData → Tr PyData} {ta tb : TE} {fa fb : Tr PyData} (hr : RR K r f) (ha : Ev K cl E ta ρ fa) (hb : Ev K cl E tb ρ fb) : Ev K cl E (tOp r ta tb) ρ (fa.bind fun a => fb.bind fun b => f a b) :=
  fun G H σ S Q h => ha.seq S h fun a x G1 H1 g1 S1 rx h1 => hb.seq S1 h1 fun b y G2 H2 g2 S2 ry h2 => hr cl E ρ σ G2 H2 x y a b S2 (rx.mono g2.ex) ry Q h2
theorem ev_cmp {r : R2} {c : PyData → PyData → Tr Bool} {ta tb : TE} {fa fb : Tr PyData} (hr : RC K r c) (ha : Ev K cl E ta ρ fa) (hb : Ev K cl E tb ρ fb) : Ev K cl E (tOp r ta tb) ρ (fa.bind fun a => fb.bind fun b => (c a b).bind fun k => .ret (.bool k)) :=
  fun G H σ S Q h => ha.seq S h fun a x G1 H1 g1 S1 rx h1 => hb.seq S1 h1 fun b y G2 H2 g2 S2 ry h2 => by
    refine hr G2 H2 x y a b _ S2.sub (rx.mono g2.ex) ry Q (Tr.wp_mono (fun k hk => ?_) (fun _ z => z) (Tr.wp_bind.mp h2))
    exact Po.now hk S2 (.bl k)
theorem et_cmp {r : R2} {c : PyData → PyData → Tr Bool} {ta tb : TE} {fa fb : Tr PyData} (hr : RC K r c) (ha : Ev K cl E ta ρ fa) (hb : Ev K cl E tb ρ fb) : EvT K cl E (tTest (tOp r ta tb)) ρ (fa.bind fun a => fb.bind fun b => c a b) :=
  fun G H σ S Q h => ha.seq S h fun a x G1 H1 g1 S1 rx h1 => hb.seq S1 h1 fun b y G2 H2 g2 S2 ry h2 => by
    refine hr G2 H2 x y a b _ S2.sub (rx.mono g2.ex) ry _ (Tr.wp_mono (fun k hk => ?_) (fun _ z => z) h2)
    exact ⟨k, rfl, Po.now hk S2 rfl⟩
/-- a chained comparison -/
theorem et_chain {r r' : R2} {c c' : PyData → PyData → Tr Bool} {ta tb tc : TE} {fa fb fc : Tr PyData} (hr : RC K r c) (hr' : RC K r' c') (ha : Ev K cl E ta ρ fa) (hb : Ev K cl E tb ρ fb) (hc : Ev K cl E tc ρ fc) :
    EvT K cl E (tTest (tChain r r' ta tb tc)) ρ (fa.bind fun a => fb.bind fun b => (c a b).bind fun k => if k then fc.bind fun z => c' b z else .ret false) :=
  fun G H σ S Q h => ha.seq S h fun a x G1 H1 g1 S1 rx h1 => hb.seq S1 h1 fun b y G2 H2 g2 S2 ry h2 => by
    refine hr G2 H2 x y a b _ S2.sub (rx.mono g2.ex) ry _ (Tr.wp_mono (fun k hk => ?_) (fun _ z => z) (Tr.wp_bind.mp h2))
    refine ⟨k, rfl, ?_⟩
    cases k with
    | true =>
      refine hc.seq (f := fun z => c' b z) (Rel' := fun _ (v : Bool) d => v = d) S2 hk fun z w G3 H3 g3 S3 rz h3 => ?_
      refine hr' G3 H3 y w b z _ S3.sub (ry.mono g3.ex) rz _ (Tr.wp_mono (fun k hk => ?_) (fun _ z => z) h3)
      exact ⟨k, rfl, Po.now hk S3 rfl⟩
    | false => exact ⟨false, rfl, Po.now hk S2 rfl⟩
theorem ev_chain {r r' : R2} {c c' : PyData → PyData → Tr Bool} {ta tb tc : TE} {fa fb fc : Tr PyData} (hr : RC K r c) (hr' : RC K r' c') (ha : Ev K cl E ta ρ fa) (hb : Ev K cl E tb ρ fb) (hc : Ev K cl E tc ρ fc) :
    Ev K cl E (tChain r r' ta tb tc) ρ (fa.bind fun a => fb.bind fun b => (c a b).bind fun k => if k then fc.bind fun z => (c' b z).bind fun k => .ret (.bool k) else .ret (.bool false)) :=
  fun G H σ S Q h => ha.seq S h fun a x G1 H1 g1 S1 rx h1 => hb.seq S1 h1 fun b y G2 H2 g2 S2 ry h2 => by
    refine hr G2 H2 x y a b _ S2.sub (rx.mono g2.ex) ry _ (Tr.wp_mono (fun k hk => ?_) (fun _ z => z) (Tr.wp_bind.mp h2))
    refine ⟨k, rfl, ?_⟩
    cases k with
    | true =>
      refine hc.seq (f := fun z => (c' b z).bind fun k => .ret (.bool k)) (Rel' := Rp K) S2 hk fun z w G3 H3 g3 S3 rz h3 => ?_
      refine hr' G3 H3 y w b z _ S3.sub (ry.mono g3.ex) rz _ (Tr.wp_mono (fun k hk => ?_) (fun _ z => z) (Tr.wp_bind.mp h3))
      exact Po.now hk S3 (.bl k)
    | false => exact Po.now hk S2 (.bl false)

/-! ### tests -/
theorem et_B {te : TE} {f : Tr PyData} (h : Ev K cl E te ρ f) : EvT K cl E (tB te) ρ (f.bind asB) := fun G H σ S Q q => h.seq S q fun a x G1 H1 g1 S1 rx h1 => by
  cases rx with
  | bl b => exact ⟨b, rfl, Po.now h1 S1 rfl⟩
  | _ => exact h1.elim
theorem et_yes : EvT K cl E tYes ρ (.ret true) := fun G H σ S Q q => Po.now q S rfl
theorem et_and {t u : TT} {f g : Tr Bool} (h1 : EvT K cl E t ρ f) (h2 : EvT K cl E u ρ g) : EvT K cl E (tAnd t u) ρ (f.bind fun a => if a then g else .ret false) := fun G H σ S Q q => h1.seq S q fun a x G1 H1 g1 S1 rx q1 => by
  cases rx
  cases a with
  | true => exact h2 G1 H1 σ S1 Q q1
  | false => exact Po.now q1 S1 rfl
theorem et_or {t u : TT} {f g : Tr Bool} (h1 : EvT K cl E t ρ f) (h2 : EvT K cl E u ρ g) : EvT K cl E (tOr t u) ρ (f.bind fun a => if a then .ret true else g) := fun G H σ S Q q => h1.seq S q fun a x G1 H1 g1 S1 rx q1 => by
  cases rx
  cases a with
  | true => exact Po.now q1 S1 rfl
  | false => exact h2 G1 H1 σ S1 Q q1
theorem et_not {t : TT} {f : Tr Bool} (h1 : EvT K cl E t ρ f) : EvT K cl E (tNot t) ρ (f.bind fun a => .ret (!a)) := fun G H σ S Q q => h1.seq S q fun a x G1 H1 g1 S1 rx q1 => by
  cases rx
  exact Po.now q1 S1 rfl
theorem ev_andV {ta tb : TE} {fa fb : Tr PyData} (h1 : Ev K cl E ta ρ fa) (h2 : Ev K cl E tb ρ fb) : Ev K cl E (tAndV ta tb) ρ (fa.bind fun a => (asB a).bind fun c => if c then fb else .ret (.bool false)) := fun G H σ S Q q => h1.seq S q fun a x G1 H1 g1 S1 rx q1 => by
  cases rx with
  | bl b =>
    refine ⟨b, rfl, ?_⟩
    cases b with
    | true => exact h2 G1 H1 σ S1 Q q1
    | false => exact Po.now q1 S1 (.bl false)
  | _ => exact q1.elim
theorem ev_orV {ta tb : TE} {fa fb : Tr PyData} (h1 : Ev K cl E ta ρ fa) (h2 : Ev K cl E tb ρ fb) : Ev K cl E (tOrV ta tb) ρ (fa.bind fun a => (asB a).bind fun c => if c then .ret (.bool true) else fb) := fun G H σ S Q q => h1.seq S q fun a x G1 H1 g1 S1 rx q1 => by
  cases rx with
  | bl b =>
    refine ⟨b, rfl, ?_⟩
    cases b with
    | true => exact Po.now q1 S1 (.bl true)
    | false => exact h2 G1 H1 σ S1 Q q1
  | _ => exact q1.elim
theorem ev_notV {ta : TE} {fa : Tr PyData} (h1 : Ev K cl E ta ρ fa) : Ev K cl E (tNotV ta) ρ (fa.bind fun a => (asB a).bind fun c => .ret (.bool (!c))) := fun G H σ S Q q => h1.seq S q fun a x G1 H1 g1 S1 rx q1 => by
  cases rx with
  | bl b => exact ⟨b, rfl, Po.now q1 S1 (.bl (!b))⟩
  | _ => exact q1.elim
theorem ev_if {t : TT} {ta tb : TE} {ft : Tr Bool} {fa fb : Tr PyData} (h : EvT K cl E t ρ ft) (h1 : Ev K cl E ta ρ fa) (h2 : Ev K cl E tb ρ fb) : Ev K cl E (tIf t ta tb) ρ (ft.bind fun b => if b then fa else fb) := fun G H σ S Q q => h.seq S q fun a x G1 H1 g1 S1 rx q1 => by
  cases rx
  cases a with
  | true => exact h1 G1 H1 σ S1 Q q1
  | false => exact h2 G1 H1 σ S1 Q q1

/-! ### arguments, displays -/
/-- arguments, ahead of anything that goes on with them -/
def EvA (K : PySem.W.Frag) (cl : Ek → Addr) (E : L2.St → Option XK) (te : TA) (ρ : List Sl) (n : Nat) (F : ∀ β : Type, (List PyData → Tr β) → Tr β) : Prop :=
  ∀ (G H : Hp) (σ : L2.St), Sta K G H ρ σ → ∀ {W β : Type} (Rel : Hp → W → β → Prop) (k : List PyData → Tr β) (Q : W → Hp → Prop) (R : List V → Hp → Prop), (F β k).wp (Po K ρ σ Rel G H Q) (Xo cl (E σ) (Owns ρ σ) H) →
    (∀ ds vs G1 H1, Gr (Owns ρ σ) G H G1 H1 → Sta K G1 H1 ρ σ → RpAll K G1 vs ds → ds.length = n → (k ds).wp (Po K ρ σ Rel G1 H1 Q) (Xo cl (E σ) (Owns ρ σ) H1) → R vs H1) → te σ H R
theorem ea_nil : EvA K cl E tNil ρ 0 fun _ k => k [] := fun G H σ S _ _ _ _ _ _ q h => h [] [] G H Gr.refl S .nil rfl q
theorem ea_cons {ta : TE} {tr : TA} {fa : Tr PyData} {n : Nat} {F : ∀ β : Type, (List PyData → Tr β) → Tr β} (h : Ev K cl E ta ρ fa) (hr : EvA K cl E tr ρ n F) : EvA K cl E (tCons ta tr) ρ (n + 1) fun β k => fa.bind fun a => F β fun r => k (a :: r) :=
  fun G H σ S _ _ Rel k Q R q c => h.seq S q fun a x G1 H1 g1 S1 rx q1 => hr G1 H1 σ S1 Rel (fun r => k (a :: r)) Q _ q1 fun ds vs G2 H2 g2 S2 rs hl q2 =>
    c (a :: ds) (x :: vs) G2 H2 (g1.trans' g2) S2 (.cons (rx.mono g2.ex) rs) (congrArg (· + 1) hl) q2
theorem ev_tup {ta : TA} {n : Nat} {F : ∀ β : Type, (List PyData → Tr β) → Tr β} (h : EvA K cl E ta ρ n F) (hn : n ≤ 1000 := by decide) : Ev K cl E (tTup ta) ρ (F _ fun ds => .ret (.tuple ds)) :=
  fun G H σ S Q q => h G H σ S (Rp K) _ Q _ q fun ds vs G1 H1 g1 S1 rs hl q1 => by
    have hs : ds.length ≤ sizeLine := by rw [hl, sizeLine_eq]; omega
    exact ⟨by rw [rs.len]; exact hs, fun p hp => Po.lay q1 S1 hp (.tup (SqT.of upd_same) hs (rs.mono (Ex.new (S1.sub.back hp))))⟩
theorem ev_lst {ta : TA} {n : Nat} {F : ∀ β : Type, (List PyData → Tr β) → Tr β} (h : EvA K cl E ta ρ n F) (hn : n ≤ 1000 := by decide) : Ev K cl E (tLst ta) ρ (F _ fun ds => .ret (.list ds)) :=
  fun G H σ S Q q => h G H σ S (Rp K) _ Q _ q fun ds vs G1 H1 g1 S1 rs hl q1 => by
    have hs : ds.length ≤ sizeLine := by rw [hl, sizeLine_eq]; omega
    exact ⟨by rw [rs.len]; exact hs, fun p hp => Po.lay q1 S1 hp (.lst (SqL.of upd_same) hs (rs.mono (Ex.new (S1.sub.back hp))))⟩

/-! ### calls of built-ins by values -/
def RK (K : PySem.W.Frag) (r : List V → Hp → VK → Prop) (f : List PyData → Tr PyData) : Prop :=
  ∀ (cl : Ek → Addr) (E : L2.St → Option XK) (ρ : List Sl) (σ : L2.St) (G H : Hp) (vs : List V) (ds : List PyData), Sta K G H ρ σ → RpAll K G vs ds → ∀ Q : VK, (f ds).wp (Po K ρ σ (Rp K) G H Q) (Xo cl (E σ) (Owns ρ σ) H) → r vs H Q
theorem ev_cb {r : List V → Hp → VK → Prop} {f : List PyData → Tr PyData} {ta : TA} {n : Nat} {F : ∀ β : Type, (List PyData → Tr β) → Tr β} (hr : RK K r f) (h : EvA K cl E ta ρ n F) : Ev K cl E (tCB r ta) ρ (F _ f) :=
  fun G H σ S Q q => h G H σ S (Rp K) f Q _ q fun ds vs G1 H1 g1 S1 rs hl q1 => hr cl E ρ σ G1 H1 vs ds S1 rs Q q1
/-- of one argument -/
def on1 (f : PyData → Tr PyData) : List PyData → Tr PyData
  | [a] => f a
  | _ => .bad
def on2 (f : PyData → PyData → Tr PyData) : List PyData → Tr PyData
  | [a, b] => f a b
  | _ => .bad
def RK1 (K : PySem.W.Frag) (r : List V → Hp → VK → Prop) (f : PyData → Tr PyData) : Prop :=
  ∀ (cl : Ek → Addr) (E : L2.St → Option XK) (ρ : List Sl) (σ : L2.St) (G H : Hp) (x : V) (a : PyData), Sta K G H ρ σ → Rp K G x a → ∀ Q : VK, (f a).wp (Po K ρ σ (Rp K) G H Q) (Xo cl (E σ) (Owns ρ σ) H) → r [x] H Q
theorem ev_cb1 {r : List V → Hp → VK → Prop} {f : PyData → Tr PyData} {ta : TE} {fa : Tr PyData} (hr : RK1 K r f) (h : Ev K cl E ta ρ fa) : Ev K cl E (tCB r (tCons ta tNil)) ρ (fa.bind f) :=
  fun G H σ S Q q => h.seq S q fun a x G1 H1 g1 S1 rx q1 => hr cl E ρ σ G1 H1 x a S1 rx Q q1

/-! ### subscripts, slices -/
theorem eo_none : EvG K cl E (fun _ (v : Option Int) d => v = d) tNoPart ρ (.ret none) := fun G H σ S Q q => Po.now q S rfl
theorem eo_some {te : TE} {f : Tr PyData} (h : Ev K cl E te ρ f) : EvG K cl E (fun _ (v : Option Int) d => v = d) (tPart te) ρ (f.bind fun a => (asI a).bind fun i => .ret (some i)) := fun G H σ S Q q => h.seq S q fun a x G1 H1 g1 S1 rx q1 => by
  cases rx with
  | int i => exact ⟨i, rfl, Po.now q1 S1 rfl⟩
  | _ => exact q1.elim
def RS (K : PySem.W.Frag) (r : V → Option Int → Option Int → Hp → VK → Prop) : Prop :=
  ∀ (cl : Ek → Addr) (E : L2.St → Option XK) (ρ : List Sl) (σ : L2.St) (G H : Hp) (x : V) (a : PyData) (lo hi : Option Int), Sta K G H ρ σ → Rp K G x a → ∀ Q : VK, (dSl a lo hi).wp (Po K ρ σ (Rp K) G H Q) (Xo cl (E σ) (Owns ρ σ) H) → r x lo hi H Q
theorem ev_sl {r : V → Option Int → Option Int → Hp → VK → Prop} {te : TE} {tl th : TO} {f : Tr PyData} {fl fh : Tr (Option Int)} (hr : RS K r) (h : Ev K cl E te ρ f) (h1 : EvG K cl E (fun _ (v : Option Int) d => v = d) tl ρ fl) (h2 : EvG K cl E (fun _ (v : Option Int) d => v = d) th ρ fh) :
    Ev K cl E (tSl r te tl th) ρ (f.bind fun a => fl.bind fun lo => fh.bind fun hi => dSl a lo hi) :=
  fun G H σ S Q q => h.seq S q fun a x G1 H1 g1 S1 rx q1 => h1.seq S1 q1 fun lo lo' G2 H2 g2 S2 e2 q2 => h2.seq S2 q2 fun hi hi' G3 H3 g3 S3 e3 q3 => by
    cases e2
    cases e3
    exact hr cl E ρ σ G3 H3 x a lo hi S3 (rx.mono (g2.ex.trans g3.ex)) Q q3
end
end Cg
namespace L2
open PySem PySem.Spec PyProof.Rows
section
variable {X : Cx}
/-! ### ==, !=, in, not in of data without dicts, one side of which is not deep -/
def rEqP (K : PySem.W.Frag) : R2 := fun x y H Q => ∃ d e, Dp K H x d ∧ Dp K H y e ∧ d.plain = true ∧ e.plain = true ∧ min d.depth e.depth ≤ 64 ∧ Q (.bl (PyData.eqv d e)) H
def rNeP (K : PySem.W.Frag) : R2 := fun x y H Q => ∃ d e, Dp K H x d ∧ Dp K H y e ∧ d.plain = true ∧ e.plain = true ∧ min d.depth e.depth ≤ 64 ∧ Q (.bl (!PyData.eqv d e)) H
theorem op_eqP (hu : X.A.units + 64 < cLine) : OpR X (compareOp .Eq) (rEqP X.K) := by
  intro pins s σ H x y v u Q I rx ry h
  obtain ⟨d, e, hd, he, sd, se, hm, q⟩ := h
  obtain ⟨as, r1⟩ := Dp.reads I d x v hd rx
  obtain ⟨bs, r2⟩ := Dp.reads I e y u he ry
  exact SeqAt.eq_plain r1 r2 sd se (by omega) ⟨.bl _, H, I, rfl, q⟩
theorem op_neP (hu : X.A.units + 64 < cLine) : OpR X (compareOp .NotEq) (rNeP X.K) := by
  intro pins s σ H x y v u Q I rx ry h
  obtain ⟨d, e, hd, he, sd, se, hm, q⟩ := h
  obtain ⟨as, r1⟩ := Dp.reads I d x v hd rx
  obtain ⟨bs, r2⟩ := Dp.reads I e y u he ry
  exact SeqAt.ne_plain r1 r2 sd se (by omega) ⟨.bl _, H, I, rfl, q⟩
def rInP (K : PySem.W.Frag) : R2 := fun x y H Q => ∃ d es, Dp K H x d ∧ (Dp K H y (.tuple es) ∨ Dp K H y (.list es)) ∧ d.plain = true ∧ PyData.plainAll es = true ∧ min (PyData.depthAll es) d.depth ≤ 64 ∧ Q (.bl (es.any fun z => PyData.eqv z d)) H
def rNotInP (K : PySem.W.Frag) : R2 := fun x y H Q => ∃ d es, Dp K H x d ∧ (Dp K H y (.tuple es) ∨ Dp K H y (.list es)) ∧ d.plain = true ∧ PyData.plainAll es = true ∧ min (PyData.depthAll es) d.depth ≤ 64 ∧ Q (.bl (!es.any fun z => PyData.eqv z d)) H
theorem op_inP (hu : X.A.units + 65 < cLine) : OpR X (compareOp .In) (rInP X.K) := by
  intro pins s σ H x y v u Q I rx ry h
  obtain ⟨d, es, hd, he, sd, se, hm, q⟩ := h
  obtain ⟨as, r1⟩ := Dp.reads I d x v hd rx
  rcases he with he | he
  · obtain ⟨bs, r2⟩ := Dp.reads I (.tuple es) y u he ry
    exact SeqAt.in_tuple_data r2 r1 se sd (by omega) ⟨.bl _, H, I, rfl, q⟩
  · obtain ⟨bs, r2⟩ := Dp.reads I (.list es) y u he ry
    exact SeqAt.in_list_data r2 r1 se sd (by omega) ⟨.bl _, H, I, rfl, q⟩
theorem op_notInP (hu : X.A.units + 65 < cLine) : OpR X (compareOp .NotIn) (rNotInP X.K) := by
  intro pins s σ H x y v u Q I rx ry h
  obtain ⟨d, es, hd, he, sd, se, hm, q⟩ := h
  obtain ⟨as, r1⟩ := Dp.reads I d x v hd rx
  rcases he with he | he
  · obtain ⟨bs, r2⟩ := Dp.reads I (.tuple es) y u he ry
    exact SeqAt.notIn_tuple_data r2 r1 se sd (by omega) ⟨.bl _, H, I, rfl, q⟩
  · obtain ⟨bs, r2⟩ := Dp.reads I (.list es) y u he ry
    exact SeqAt.notIn_list_data r2 r1 se sd (by omega) ⟨.bl _, H, I, rfl, q⟩
/-! ### tuple * 1 is the tuple -/
theorem tuple_mul1 (l : Addr) (items : Array Value) (n : Nat) (dd : Option Addr) (sl : Array (Option Value)) (u : Tok) :
    Meets (Builtin.«tuple.__mul__» ⟨[.ref l, .int 1 u], []⟩) (fun _ R s => s.heap.get? l = some { cls := .type "tuple", dict := dd, data := .seq items n, slots := sl } ∧ R (.ok (.ret (Value.ref l))) s) :=
  .of_wp fun prog w A R s h => by
    obtain ⟨hp, g, d, tk, os⟩ := s
    obtain ⟨hl, h⟩ := h
    have f1 := AutoSeq1.idx_int
    have c0 : (decide ((1 : Int) < -(2 ^ 63)) || decide ((1 : Int) ≥ 2 ^ 63)) = false := by decide
    have c1 : (items.isEmpty || (1 : Int) == 1) = true := by rw [show ((1 : Int) == 1) = true from rfl, Bool.or_true]
    wp_walk using wpAny_loadPart' hl
    repeat (first
      | (refine wpAny_ite_false (decide_eq_false (by rw [c0]; exact Bool.false_ne_true)) ?_; wp_walk using wpAny_loadPart' hl)
      | (refine wpAny_ite_true (decide_eq_true c1) ?_; wp_walk using wpAny_loadPart' hl))
    all_goals first
      | exact ⟨_, rfl, h⟩
      | skip
def rRepT1 (K : PySem.W.Frag) : R2 := fun x y H Q => ∃ l xs, x = .ref l ∧ y = .int 1 ∧ SqT K H l xs ∧ Q (.ref l) H
theorem op_repT1 : OpR X (binaryOp .Mult) (rRepT1 X.K) := by
  intro pins s σ H x y v u Q I rx ry h
  obtain ⟨l, xs, rfl, rfl, hT, q⟩ := h
  cases rx
  obtain ⟨t, rfl⟩ := ry
  obtain ⟨its, r, ⟨⟨cls, dd, data, sl⟩, ho, hc, n, hd⟩, hs⟩ := I.tuple hT
  simp only at hc hd
  subst hc hd
  refine wpAny_binaryOp_repeat_ref (T := "tuple") (U := "int") (by decide) ⟨_, ho, rfl⟩ (fun s' => typeIs_int s' 1 t) noFill_tuple_mul F.fills_int_mul F.slot_int_rmul repeat_tuple F.slot_int_index.lookup
    (call_meets F.slot_int_rmul (typeIs_int s 1 t) F.entry_int_rmul (F.args_int_rmul_2 _ _) (int_rmul_tuple 1 t l its.toArray n dd sl)
      ⟨ho, rfl, ⟨_, ho, rfl⟩, call_meets F.slot_tuple_mul ⟨_, ho, rfl⟩ F.entry_tuple_mul (F.args_tuple_mul_2 _ _) (tuple_mul1 l its.toArray n dd sl t) ⟨ho, ?_⟩⟩)
  exact ⟨.ref l, H, I, rfl, q⟩
/-! ### tuple * 0 is a new empty tuple -/
theorem tuple_mul0 (l : Addr) (items : Array Value) (n : Nat) (dd : Option Addr) (sl : Array (Option Value)) (u : Tok) (c1 : (items.isEmpty || (0 : Int) == 1) = false) :
    Meets (Builtin.«tuple.__mul__» ⟨[.ref l, .int 0 u], []⟩) (fun _ R s => s.heap.get? l = some { cls := .type "tuple", dict := dd, data := .seq items n, slots := sl } ∧ R (.ok (.ret (Value.ref s.heap.objs.size))) { s with heap := s.heap.push { cls := Value.type "tuple", data := Data.seq #[] }, toks := s.toks }) :=
  .of_wp fun prog w A R s h => by
    obtain ⟨hp, g, d, tk, os⟩ := s
    obtain ⟨hl, h⟩ := h
    have f1 := AutoSeq1.idx_int
    have c0 : (decide ((0 : Int) < -(2 ^ 63)) || decide ((0 : Int) ≥ 2 ^ 63)) = false := by decide
    have c2 : (decide ((0 : Int) ≤ 0) || items.isEmpty) = true := by rfl
    wp_walk using wpAny_loadPart' hl
    repeat (first
      | (refine wpAny_ite_false (decide_eq_false (by rw [c0]; exact Bool.false_ne_true)) ?_; wp_walk using wpAny_loadPart' hl)
      | (refine wpAny_ite_false (decide_eq_false (by rw [c1]; exact Bool.false_ne_true)) ?_; wp_walk using wpAny_loadPart' hl)
      | (refine wpAny_ite_true (decide_eq_true c2) ?_; wp_walk using wpAny_loadPart' hl))
    exact ⟨_, rfl, h⟩
def rRepT0 (K : PySem.W.Frag) : R2 := fun x y H Q => ∃ l xs, x = .ref l ∧ y = .int 0 ∧ SqT K H l xs ∧ xs ≠ [] ∧ ∀ p, H p = none → Q (.ref p) (upd H p (.tup []))
theorem op_repT0 : OpR X (binaryOp .Mult) (rRepT0 X.K) := by
  intro pins s σ H x y v u Q I rx ry h
  obtain ⟨l, xs, rfl, rfl, hT, hne, q⟩ := h
  cases rx
  obtain ⟨t, rfl⟩ := ry
  obtain ⟨its, r, ⟨⟨cls, dd, data, sl⟩, ho, hc, n, hd⟩, hs⟩ := I.tuple hT
  simp only at hc hd
  subst hc hd
  have hle : its.length = xs.length := r.length.symm
  have hn : its ≠ [] := fun e => hne (by
    rw [e] at hle
    exact List.eq_nil_of_length_eq_zero hle.symm)
  have c1 : (its.toArray.isEmpty || (0 : Int) == 1) = false := by
    cases its with
    | nil => exact absurd rfl hn
    | cons a b => rfl
  refine wpAny_binaryOp_repeat_ref (T := "tuple") (U := "int") (by decide) ⟨_, ho, rfl⟩ (fun s' => typeIs_int s' 0 t) noFill_tuple_mul F.fills_int_mul F.slot_int_rmul repeat_tuple F.slot_int_index.lookup
    (call_meets F.slot_int_rmul (typeIs_int s 0 t) F.entry_int_rmul (F.args_int_rmul_2 _ _) (int_rmul_tuple 0 t l its.toArray n dd sl)
      ⟨ho, rfl, ⟨_, ho, rfl⟩, call_meets F.slot_tuple_mul ⟨_, ho, rfl⟩ F.entry_tuple_mul (F.args_tuple_mul_2 _ _) (tuple_mul0 l its.toArray n dd sl t c1) ⟨ho, ?_⟩⟩)
  refine ⟨.ref s.heap.objs.size, _, I.laid (t' := s.toks) (o := .tup []) (fun b ob q => Heap.get?_push_of_some _ q) (Nat.le_refl _) ?_, rfl, q _ (I.hok.fresh (Nat.le_refl _))⟩
  exact ⟨Nat.zero_le _, [], .nil, IsTup.new _ _⟩
end
end L2
namespace Cg
open PySem L2
section
variable {K : PySem.W.Frag}

/-! ### comparisons -/
theorem rc_eq : RC K (rEqP K) cEq := fun G H x y a b Er e rx ry Q h => by
  unfold cEq at h
  split at h
  · exact ⟨a, b, (rx.mono e).dp, (ry.mono e).dp, rx.plain, ry.plain, by assumption, h⟩
  · exact h.elim
theorem rc_ne : RC K (rNeP K) cNe := fun G H x y a b Er e rx ry Q h => by
  unfold cNe at h
  split at h
  · exact ⟨a, b, (rx.mono e).dp, (ry.mono e).dp, rx.plain, ry.plain, by assumption, h⟩
  · exact h.elim
theorem rc_in : RC K (rInP K) cIn := fun G H x y a b Er e rx ry Q h => by
  cases ry with
  | @tup t xs es hs hl ha =>
    have h' : (if min (PyData.depthAll es) a.depth ≤ 64 then Tr.ret (memD a es) else .bad).wp (fun k => Q (.bl k) H) Er := h
    split at h'
    · exact ⟨a, es, (rx.mono e).dp, .inl ((Rp.tup hs hl ha).mono e).dp, rx.plain, ha.plain, by assumption, h'⟩
    · exact h'.elim
  | @lst t xs es hs hl ha =>
    have h' : (if min (PyData.depthAll es) a.depth ≤ 64 then Tr.ret (memD a es) else .bad).wp (fun k => Q (.bl k) H) Er := h
    split at h'
    · exact ⟨a, es, (rx.mono e).dp, .inr ((Rp.lst hs hl ha).mono e).dp, rx.plain, ha.plain, by assumption, h'⟩
    · exact h'.elim
  | _ => exact h.elim
theorem rc_notIn : RC K (rNotInP K) cNotIn := fun G H x y a b Er e rx ry Q h => by
  cases ry with
  | @tup t xs es hs hl ha =>
    have h' : ((if min (PyData.depthAll es) a.depth ≤ 64 then Tr.ret (memD a es) else .bad).bind fun k => Tr.ret (!k)).wp (fun k => Q (.bl k) H) Er := h
    split at h'
    · exact ⟨a, es, (rx.mono e).dp, .inl ((Rp.tup hs hl ha).mono e).dp, rx.plain, ha.plain, by assumption, h'⟩
    · exact h'.elim
  | @lst t xs es hs hl ha =>
    have h' : ((if min (PyData.depthAll es) a.depth ≤ 64 then Tr.ret (memD a es) else .bad).bind fun k => Tr.ret (!k)).wp (fun k => Q (.bl k) H) Er := h
    split at h'
    · exact ⟨a, es, (rx.mono e).dp, .inr ((Rp.lst hs hl ha).mono e).dp, rx.plain, ha.plain, by assumption, h'⟩
    · exact h'.elim
  | _ => exact h.elim
theorem rc_lt : RC K (rI0 fun i j => .bl (decide (i < j))) cLt := fun G H x y a b Er e rx ry Q h => by
  cases rx <;> cases ry <;> first
    | exact ⟨_, _, rfl, rfl, h⟩
    | exact h.elim
theorem rc_le : RC K (rI0 fun i j => .bl (decide (i ≤ j))) cLe := fun G H x y a b Er e rx ry Q h => by
  cases rx <;> cases ry <;> first
    | exact ⟨_, _, rfl, rfl, h⟩
    | exact h.elim
theorem rc_gt : RC K (rI0 fun i j => .bl (decide (j < i))) cGt := fun G H x y a b Er e rx ry Q h => by
  cases rx <;> cases ry <;> first
    | exact ⟨_, _, rfl, rfl, h⟩
    | exact h.elim
theorem rc_ge : RC K (rI0 fun i j => .bl (decide (j ≤ i))) cGe := fun G H x y a b Er e rx ry Q h => by
  cases rx <;> cases ry <;> first
    | exact ⟨_, _, rfl, rfl, h⟩
    | exact h.elim
theorem isNon_rp {G : Hp} {x : V} {a : PyData} (r : Rp K G x a) : decide (x = .non) = isNon a := by
  cases r <;> first
    | rfl
    | exact decide_eq_false (fun z => nomatch z)
/-- x is None -/
theorem ev_isN {cl : Ek → Addr} {E : L2.St → Option XK} {ρ : List Sl} {ta : TE} {fa : Tr PyData} (ha : Ev K cl E ta ρ fa) : Ev K cl E (tOp (fun x y H Q => y = .non ∧ Q (.bl (decide (x = .non))) H) ta (tC .non)) ρ (fa.bind fun a => .ret (.bool (isNon a))) :=
  fun G H σ S Q h => ha.seq S h fun a x G1 H1 g1 S1 rx h1 => ⟨rfl, by
    rw [isNon_rp rx]
    exact Po.now h1 S1 (.bl _)⟩
theorem et_isN {cl : Ek → Addr} {E : L2.St → Option XK} {ρ : List Sl} {ta : TE} {fa : Tr PyData} (ha : Ev K cl E ta ρ fa) : EvT K cl E (tTest (tOp (fun x y H Q => y = .non ∧ Q (.bl (decide (x = .non))) H) ta (tC .non))) ρ (fa.bind fun a => .ret (isNon a)) :=
  fun G H σ S Q h => ha.seq S h fun a x G1 H1 g1 S1 rx h1 => ⟨rfl, isNon a, by rw [isNon_rp rx], Po.now h1 S1 rfl⟩
theorem ev_notN {cl : Ek → Addr} {E : L2.St → Option XK} {ρ : List Sl} {ta : TE} {fa : Tr PyData} (ha : Ev K cl E ta ρ fa) : Ev K cl E (tOp (fun x y H Q => y = .non ∧ Q (.bl (!decide (x = .non))) H) ta (tC .non)) ρ (fa.bind fun a => .ret (.bool (!isNon a))) :=
  fun G H σ S Q h => ha.seq S h fun a x G1 H1 g1 S1 rx h1 => ⟨rfl, by
    rw [isNon_rp rx]
    exact Po.now h1 S1 (.bl _)⟩
theorem et_notN {cl : Ek → Addr} {E : L2.St → Option XK} {ρ : List Sl} {ta : TE} {fa : Tr PyData} (ha : Ev K cl E ta ρ fa) : EvT K cl E (tTest (tOp (fun x y H Q => y = .non ∧ Q (.bl (!decide (x = .non))) H) ta (tC .non))) ρ (fa.bind fun a => .ret (!isNon a)) :=
  fun G H σ S Q h => ha.seq S h fun a x G1 H1 g1 S1 rx h1 => ⟨rfl, !isNon a, by rw [isNon_rp rx], Po.now h1 S1 rfl⟩

/-! ### operators -/
theorem add_any (l : Addr) (us : Array Value) (n : Nat) (sl : Array (Option Value)) (b : Addr) (vs : Array Value) (m : Nat) (sk : Array (Option Value)) (hz : us.size + vs.size ≤ sizeLine) :
    Meets (Builtin.«list.__add__» ⟨[.ref l, .ref b], []⟩) (fun _ R s => s.heap.get? l = some ⟨.type "list", none, .seq us n, sl⟩ ∧ s.heap.get? b = some ⟨.type "list", none, .seq vs m, sk⟩ ∧
      R (.ok (.ret (Value.ref s.heap.objs.size))) { s with heap := s.heap.push { cls := Value.type "list", data := Data.seq (us ++ vs) }, toks := s.toks }) := by
  refine .of_wp fun prog w A R s h => ?_
  obtain ⟨hp, g, d, tk, os⟩ := s
  obtain ⟨h1, h2, h⟩ := h
  have q1 := AutoSeq1.idx_int
  have q2 := AutoSeq1.sub_list_list
  have q3 := AutoSeq1.sub_list_tuple
  have q4 := AutoSeq1.sub_tuple_list
  have q5 := AutoSeq1.sub_tuple_tuple
  wp_walk using AutoSeq1.wpAny_loadPart' h1, AutoSeq1.wpAny_loadPart' h2
  exact ⟨_, rfl, h⟩
theorem mul_any (l : Addr) (us : Array Value) (n : Nat) (sl : Array (Option Value)) (x : Int) (u : Tok) (hc0 : ¬(!Builtin.List.listFitsIndex x) = true) (hc1 : ¬us.size * x.toNat > (2 ^ 63 - 1) / 8) (hc2 : ¬Builtin.List.listTooLong (us.size * x.toNat) = true) :
    Meets (Builtin.«list.__mul__» ⟨[.ref l, .int x u], []⟩) (fun _ R s => s.heap.get? l = some ⟨.type "list", none, .seq us n, sl⟩ ∧
      R (.ok (.ret (Value.ref s.heap.objs.size))) { s with heap := s.heap.push { cls := Value.type "list", data := Data.seq (List.foldl (fun x1 x2 => x1 ++ x2) #[] (List.replicate (if us.isEmpty = true then 0 else x.toNat) us)) }, toks := s.toks }) := by
  refine .of_wp fun prog w A R s h => ?_
  obtain ⟨hp, g, d, tk, os⟩ := s
  obtain ⟨hl, h⟩ := h
  have hz := AutoListH.joined_fits hc2
  wp_walk
  refine wpAny_ite_false (decide_eq_false (Nat.not_lt.mpr hz)) ?_
  wp_walk
  exact ⟨_, rfl, h⟩
theorem rmul_any (a : Int) (t : Tok) (l : Addr) (us : Array Value) (n : Nat) (sl : Array (Option Value)) :
    Meets (Builtin.«int.__rmul__» ⟨[.int a t, .ref l], []⟩) (fun _ R s => s.heap.get? l = some ⟨.type "list", none, .seq us n, sl⟩ ∧ R (.ok (.ret Value.notImplemented)) s) := by
  refine .of_wp fun prog w A R s h => ?_
  obtain ⟨hp, g, d, tk, os⟩ := s
  obtain ⟨hl, h⟩ := h
  wp_walk
  exact ⟨_, rfl, h⟩
/-- lists, also such as were there before -/
def rCatL (K : PySem.W.Frag) : R2 := fun x y H Q => ∃ a b xs ys, x = .ref a ∧ y = .ref b ∧ SqL K H a xs ∧ SqL K H b ys ∧ xs.length + ys.length ≤ sizeLine ∧ ∀ p, H p = none → Q (.ref p) (upd H p (.lst (xs ++ ys)))
theorem op_catL {X : Cx} : OpR X (binaryOp .Add) (rCatL X.K) := by
  intro pins s σ H x y v u Q I rx ry h
  obtain ⟨a, b, xs, ys, rfl, rfl, ha, hb, hz, q⟩ := h
  cases rx
  cases ry
  obtain ⟨its, r, ⟨⟨cls, dd, data, sl⟩, n, e, h1, h2, h3⟩, z⟩ := I.list ha
  obtain ⟨its2, r2, ⟨⟨cls2, dd2, data2, sl2⟩, n2, e2, h1', h2', h3'⟩, z2⟩ := I.list hb
  simp only at h1 h2 h3 h1' h2' h3'
  subst h1 h2 h3 h1' h2' h3'
  have l1 := r.length
  have l2 := r2.length
  refine PySem.concat_meets ⟨_, e, rfl⟩ ⟨_, e2, rfl⟩ PySem.noFill_list_add PySem.seq_list_add F.slot_list_add F.entry_list_add (F.args_list_add_2 _ _) (add_any a its.toArray n sl b its2.toArray n2 sl2 (by rw [List.size_toArray, List.size_toArray]; omega)) ⟨e, e2, ?_⟩
  have ea : its.toArray ++ its2.toArray = (its ++ its2).toArray := by simp
  rw [ea]
  exact ⟨.ref _, _, I.lnew (t' := s.toks) (r.append r2) (by rw [List.length_append]; omega), rfl, q _ I.fresh⟩
def rRepL (K : PySem.W.Frag) : R2 := fun x y H Q => ∃ l k xs, x = .ref l ∧ y = .int k ∧ SqL K H l xs ∧ -(2 ^ 63) ≤ k ∧ k < 2 ^ 63 ∧ xs.length * k.toNat ≤ sizeLine ∧ ∀ p, H p = none → Q (.ref p) (upd H p (.lst (List.replicate k.toNat xs).flatten))
theorem op_repL {X : Cx} : OpR X (binaryOp .Mult) (rRepL X.K) := by
  intro pins s σ H x y v u Q I rx ry h
  obtain ⟨l, k, xs, rfl, rfl, hH, h1, h2, hz, q⟩ := h
  cases rx
  obtain ⟨t, rfl⟩ := ry
  obtain ⟨its, r, ⟨⟨cls, dd, data, sl⟩, n, e, g1, g2, g3⟩, z⟩ := I.list hH
  simp only at g1 g2 g3
  subst g1 g2 g3
  have l1 := r.length
  have hlen : its.toArray.size * k.toNat ≤ sizeLine := by rw [List.size_toArray, ← l1]; exact hz
  have hcap : ¬ its.toArray.size * k.toNat > (2 ^ 63 - 1) / 8 := by
    have : (sizeLine : Nat) ≤ (2 ^ 63 - 1) / 8 := by decide
    omega
  have hfit : ¬ (!Builtin.List.listFitsIndex k) = true := by
    rw [fitsIndex_both h1 h2]
    exact Bool.false_ne_true
  have hlong : ¬ Builtin.List.listTooLong (its.toArray.size * k.toNat) = true := by
    rw [notLongL hlen]
    exact Bool.false_ne_true
  have hnew : List.foldl (fun x1 x2 => x1 ++ x2) #[] (List.replicate (if its.toArray.isEmpty = true then 0 else k.toNat) its.toArray) = (List.replicate k.toNat its).flatten.toArray := by
    have f0 : ∀ m : Nat, List.foldl (fun x1 x2 => x1 ++ x2) #[] (List.replicate m its.toArray) = (List.replicate m its).flatten.toArray := fun m => size_rep its m
    rw [f0]
    cases its with
    | nil => simp
    | cons a r' => rw [if_neg (by simp)]
  refine wpAny_binaryOp_repeat_ref (T := "list") (U := "int") (by decide) ⟨_, e, rfl⟩ (fun s' => typeIs_int s' k t) PySem.noFill_list_mul F.fills_int_mul F.slot_int_rmul PySem.repeat_list F.slot_int_index.lookup
    (PySem.call_meets F.slot_int_rmul (typeIs_int s k t) F.entry_int_rmul (F.args_int_rmul_2 _ _) (rmul_any k t l its.toArray n sl)
      ⟨e, rfl, ⟨_, e, rfl⟩, PySem.call_meets F.slot_list_mul ⟨_, e, rfl⟩ F.entry_list_mul (F.args_list_mul_2 _ _) (mul_any l its.toArray n sl k t hfit hcap hlong) ⟨e, ?_⟩⟩)
  rw [hnew]
  exact ⟨.ref _, _, I.lnew (t' := s.toks) (r.rep k.toNat) (by rw [PyProof.Rows.lm_len_rep_flat, Nat.mul_comm]; exact hz), rfl, q _ I.fresh⟩
def rAddA (K : PySem.W.Frag) : R2 := fun x y H Q => rI0 (fun i j => .int (i + j)) x y H Q ∨ rCatA K x y H Q ∨ rCatL K x y H Q
theorem op_addA {X : Cx} : OpR X (binaryOp .Add) (rAddA X.K) := op_add.or (op_catA.or op_catL)
theorem rr_add : RR K (rAddA K) dAdd := fun cl E ρ σ G H x y a b S rx ry Q h => by
  cases rx with
  | int i =>
    cases ry with
    | int j => exact .inl ⟨i, j, rfl, rfl, Po.now h S (.int _)⟩
    | _ => exact h.elim
  | @tup p xs ds hs hl ha =>
    cases ry with
    | @tup q ys es hs' hl' ha' =>
      have h' : (if ds.length + es.length ≤ 1000000 then Tr.ret (PyData.tuple (ds ++ es)) else .bad).wp (Po K ρ σ (Rp K) G H Q) (Xo cl (E σ) (Owns ρ σ) H) := h
      split at h'
      · rename_i hz
        have hz' : (ds ++ es).length ≤ sizeLine := by rw [List.length_append, sizeLine_eq]; omega
        refine .inr (.inl ⟨p, q, xs, ys, rfl, rfl, S.sub.t hs, S.sub.t hs', by rw [ha.len, ha'.len]; rw [List.length_append] at hz'; exact hz', fun e => ?_, fun e1 e2 => ?_, fun e1 e2 t ht => ?_⟩)
        · subst e
          cases ha
          exact Po.now h' S (.tup hs' hl' ha')
        · subst e2
          cases ha'
          rw [List.append_nil] at h'
          exact Po.now h' S (.tup hs hl ha)
        · exact Po.lay h' S ht (.tup (SqT.of upd_same) hz' ((ha.append ha').mono (Ex.new (S.sub.back ht))))
      · exact h'.elim
    | _ => exact h.elim
  | @lst p xs ds hs hl ha =>
    cases ry with
    | @lst q ys es hs' hl' ha' =>
      have h' : (if ds.length + es.length ≤ 1000000 then Tr.ret (PyData.list (ds ++ es)) else .bad).wp (Po K ρ σ (Rp K) G H Q) (Xo cl (E σ) (Owns ρ σ) H) := h
      split at h'
      · rename_i hz
        have hz' : (ds ++ es).length ≤ sizeLine := by rw [List.length_append, sizeLine_eq]; omega
        refine .inr (.inr ⟨p, q, xs, ys, rfl, rfl, S.sub.l hs, S.sub.l hs', by rw [ha.len, ha'.len]; rw [List.length_append] at hz'; exact hz', fun t ht => ?_⟩)
        exact Po.lay h' S ht (.lst (SqL.of upd_same) hz' ((ha.append ha').mono (Ex.new (S.sub.back ht))))
      · exact h'.elim
    | _ => exact h.elim
  | _ => exact h.elim
theorem rr_sub : RR K (rI0 fun i j => .int (i - j)) dSub := fun cl E ρ σ G H x y a b S rx ry Q h => by
  cases rx with
  | int i =>
    cases ry with
    | int j => exact ⟨i, j, rfl, rfl, Po.now h S (.int _)⟩
    | _ => exact h.elim
  | _ => exact h.elim
def rMulA (K : PySem.W.Frag) : R2 := fun x y H Q => rI CMul (fun i j => .int (i * j)) x y H Q ∨ rRepT K x y H Q ∨ rRepT1 K x y H Q ∨ rRepL K x y H Q ∨ rRepT0 K x y H Q
theorem op_mulA {X : Cx} : OpR X (binaryOp .Mult) (rMulA X.K) := op_mul.or (op_repT.or (op_repT1.or (op_repL.or op_repT0)))
theorem rr_mul : RR K (rMulA K) dMul := fun cl E ρ σ G H x y a b S rx ry Q h => by
  cases rx with
  | int i =>
    cases ry with
    | int j =>
      have h' : (if (-(2 ^ 64) < i ∧ i < 2 ^ 64) ∨ (-(2 ^ 64) < j ∧ j < 2 ^ 64) then Tr.ret (PyData.int (i * j)) else .bad).wp (Po K ρ σ (Rp K) G H Q) (Xo cl (E σ) (Owns ρ σ) H) := h
      split at h'
      · exact .inl ⟨i, j, rfl, rfl, by assumption, Po.now h' S (.int _)⟩
      · exact h'.elim
    | _ => exact h.elim
  | @tup p xs ds hs hl ha =>
    cases ry with
    | int k =>
      have h' : (if 0 < ds.length ∧ ds.length ≤ 1000 ∧ 0 ≤ k ∧ k ≤ 1000 then Tr.ret (PyData.tuple (List.replicate k.toNat ds).flatten) else .bad).wp (Po K ρ σ (Rp K) G H Q) (Xo cl (E σ) (Owns ρ σ) H) := h
      split at h'
      · rename_i hz
        by_cases h1 : k = 1
        · subst h1
          refine .inr (.inr (.inl ⟨p, xs, rfl, rfl, S.sub.t hs, ?_⟩))
          have e1 : (List.replicate (1 : Int).toNat ds).flatten = ds := by
            show (List.replicate 1 ds).flatten = ds
            simp
          rw [e1] at h'
          exact Po.now h' S (.tup hs hl ha)
        · by_cases h0 : k = 0
          · subst h0
            refine .inr (.inr (.inr (.inr ⟨p, xs, rfl, rfl, S.sub.t hs, fun z => ?_, fun t ht => ?_⟩)))
            · have e := ha.len
              rw [z] at e
              have : ds.length = 0 := e.symm
              omega
            · exact Po.lay h' S ht (.tup (SqT.of upd_same) (Nat.zero_le _) .nil)
          refine .inr (.inl ⟨p, k, xs, rfl, rfl, S.sub.t hs, fun z => ?_, by omega, by omega, by rw [ha.len]; omega, fun t ht => ?_⟩)
          · have e := ha.len
            rw [z] at e
            have : ds.length = 0 := e.symm
            omega
          · refine Po.lay h' S ht (.tup (SqT.of upd_same) ?_ ((ha.rep k.toNat).mono (Ex.new (S.sub.back ht))))
            rw [PyProof.Rows.lm_len_rep_flat, sizeLine_eq]
            have a1 : k.toNat * ds.length ≤ 1000 * 1000 := Nat.mul_le_mul (by omega) (by omega)
            omega
      · exact h'.elim
    | _ => exact h.elim
  | @lst p xs ds hs hl ha =>
    cases ry with
    | int k =>
      have h' : (if ds.length ≤ 100 ∧ -10000 ≤ k ∧ k ≤ 10000 then Tr.ret (PyData.list (List.replicate k.toNat ds).flatten) else .bad).wp (Po K ρ σ (Rp K) G H Q) (Xo cl (E σ) (Owns ρ σ) H) := h
      split at h'
      · rename_i hz
        have a1 : k.toNat * ds.length ≤ 10000 * 100 := Nat.mul_le_mul (by omega) (by omega)
        have a2 : ds.length * k.toNat ≤ 1000000 := by
          rw [Nat.mul_comm]
          exact a1
        refine .inr (.inr (.inr (.inl ⟨p, k, xs, rfl, rfl, S.sub.l hs, by omega, by omega, by rw [ha.len, sizeLine_eq]; omega, fun t ht => ?_⟩)))
        refine Po.lay h' S ht (.lst (SqL.of upd_same) ?_ ((ha.rep k.toNat).mono (Ex.new (S.sub.back ht))))
        rw [PyProof.Rows.lm_len_rep_flat, sizeLine_eq]
        omega
      · exact h'.elim
    | _ => exact h.elim
  | _ => exact h.elim

/-! ### items, slices -/
theorem ixN_len {α β : Type} {xs : List α} {ys : List β} (h : xs.length = ys.length) {i : Int} {v : β} (e : atI ys i = some v) : ∃ j : Nat, ys[j]? = some v ∧ ∀ x, xs[j]? = some x → atI xs i = some x := by
  unfold atI at e ⊢
  rw [h]
  cases hi : ixN ys.length i with
  | none =>
    rw [hi] at e
    cases e
  | some j =>
    rw [hi] at e
    exact ⟨j, e, fun x hx => hx⟩
theorem rr_ix : RR K (rIx K) dIx := fun cl E ρ σ G H x y a b S rx ry Q h => by
  cases rx with
  | @tup p xs ds hs hl ha =>
    cases ry with
    | int i =>
      have h' : (match atI ds i with | some d => Tr.ret d | none => .bad).wp (Po K ρ σ (Rp K) G H Q) (Xo cl (E σ) (Owns ρ σ) H) := h
      cases hd : atI ds i with
      | none =>
        rw [hd] at h'
        exact h'.elim
      | some d =>
        rw [hd] at h'
        obtain ⟨j, e1, e2⟩ := ixN_len ha.len hd
        obtain ⟨v, hv, rv⟩ := ha.get e1
        exact .inr (.inl ⟨p, xs, i, v, rfl, rfl, S.sub.t hs, e2 v hv, Po.now h' S rv⟩)
    | _ => exact h.elim
  | @lst p xs ds hs hl ha =>
    cases ry with
    | int i =>
      have h' : (match atI ds i with | some d => Tr.ret d | none => .bad).wp (Po K ρ σ (Rp K) G H Q) (Xo cl (E σ) (Owns ρ σ) H) := h
      cases hd : atI ds i with
      | none =>
        rw [hd] at h'
        exact h'.elim
      | some d =>
        rw [hd] at h'
        obtain ⟨j, e1, e2⟩ := ixN_len ha.len hd
        obtain ⟨v, hv, rv⟩ := ha.get e1
        exact .inl ⟨p, xs, i, v, rfl, rfl, S.sub.l hs, e2 v hv, Po.now h' S rv⟩
    | _ => exact h.elim
  | _ => exact h.elim
def rSlP (K : PySem.W.Frag) : V → Option Int → Option Int → Hp → VK → Prop := fun x lo hi H Q => rSlA K x lo hi H Q ∨ rSlL K x lo hi H Q
theorem sl_P {X : Cx} : SlR X (rSlP X.K) := sl_tupA.or sl_list
theorem RpAll.cut {G : Hp} {xs : List V} {ds : List PyData} (h : RpAll K G xs ds) (lo hi : Option Int) : RpAll K G (cutV xs lo hi) (cutD ds lo hi) := by
  unfold cutV cutD
  rw [h.len]
  exact (h.drop _).take _
theorem cutD_len (ds : List PyData) (lo hi : Option Int) : (cutD ds lo hi).length ≤ ds.length := by
  unfold cutD
  rw [List.length_take, List.length_drop]
  omega
theorem rs_P : RS K (rSlP K) := fun cl E ρ σ G H x a lo hi S rx Q h => by
  cases rx with
  | @tup p xs ds hs hl ha =>
    have hz : (cutD ds lo hi).length ≤ sizeLine := Nat.le_trans (cutD_len ds lo hi) hl
    refine .inl ⟨p, xs, rfl, S.sub.t hs, fun ⟨e1, e2⟩ => ?_, fun _ t ht => ?_⟩
    · rw [ha.len] at e1 e2
      have e3 : cutD ds lo hi = ds := by
        unfold cutD
        rw [e1, e2, List.drop_zero, Nat.sub_zero, List.take_length]
      have h' : (Tr.ret (PyData.tuple (cutD ds lo hi))).wp (Po K ρ σ (Rp K) G H Q) (Xo cl (E σ) (Owns ρ σ) H) := h
      rw [e3] at h'
      exact Po.now h' S (.tup hs hl ha)
    · exact Po.lay h S ht (.tup (SqT.of upd_same) hz ((ha.cut lo hi).mono (Ex.new (S.sub.back ht))))
  | @lst p xs ds hs hl ha =>
    have hz : (cutD ds lo hi).length ≤ sizeLine := Nat.le_trans (cutD_len ds lo hi) hl
    exact .inr ⟨p, xs, rfl, S.sub.l hs, fun t ht => Po.lay h S ht (.lst (SqL.of upd_same) hz ((ha.cut lo hi).mono (Ex.new (S.sub.back ht))))⟩
  | _ => exact h.elim

/-! ### built-ins -/
theorem rk_len : RK1 K (fun xs H Q => ∃ p ys, xs = [.ref p] ∧ (SqL K H p ys ∨ SqT K H p ys) ∧ Q (.int ys.length) H) dLen := fun cl E ρ σ G H x a S rx Q h => by
  cases rx with
  | @tup p xs ds hs hl ha =>
    refine ⟨p, xs, rfl, .inr (S.sub.t hs), ?_⟩
    rw [ha.len]
    exact Po.now h S (.int _)
  | @lst p xs ds hs hl ha =>
    refine ⟨p, xs, rfl, .inl (S.sub.l hs), ?_⟩
    rw [ha.len]
    exact Po.now h S (.int _)
  | _ => exact h.elim
theorem rk_tuple : RK1 K (fun xs H Q => ∃ p ys, xs = [.ref p] ∧ ((SqL K H p ys ∧ ∀ l, H l = none → Q (.ref l) (upd H l (.tup ys))) ∨ (SqT K H p ys ∧ Q (.ref p) H))) dTuple := fun cl E ρ σ G H x a S rx Q h => by
  cases rx with
  | @tup p xs ds hs hl ha => exact ⟨p, xs, rfl, .inr ⟨S.sub.t hs, Po.now h S (.tup hs hl ha)⟩⟩
  | @lst p xs ds hs hl ha => exact ⟨p, xs, rfl, .inl ⟨S.sub.l hs, fun t ht => Po.lay h S ht (.tup (SqT.of upd_same) hl (ha.mono (Ex.new (S.sub.back ht))))⟩⟩
  | _ => exact h.elim
theorem rk_list : RK1 K (fun xs H Q => ∃ p ys, xs = [.ref p] ∧ (SqL K H p ys ∨ SqT K H p ys) ∧ ∀ l, H l = none → Q (.ref l) (upd H l (.lst ys))) dList := fun cl E ρ σ G H x a S rx Q h => by
  cases rx with
  | @tup p xs ds hs hl ha => exact ⟨p, xs, rfl, .inr (S.sub.t hs), fun t ht => Po.lay h S ht (.lst (SqL.of upd_same) hl (ha.mono (Ex.new (S.sub.back ht))))⟩
  | @lst p xs ds hs hl ha => exact ⟨p, xs, rfl, .inl (S.sub.l hs), fun t ht => Po.lay h S ht (.lst (SqL.of upd_same) hl (ha.mono (Ex.new (S.sub.back ht))))⟩
  | _ => exact h.elim
theorem asInts_map : ∀ {ds : List PyData} {ns : List Int}, asInts ds = some ns → ds = ns.map PyData.int
  | [], ns, h => by
    cases h
    rfl
  | .int i :: r, ns, h => by
    unfold asInts at h
    cases e : asInts r with
    | none =>
      rw [e] at h
      cases h
    | some ms =>
      rw [e] at h
      cases h
      rw [asInts_map e]
      rfl
  | .none :: _, _, h => nomatch h
  | .bool _ :: _, _, h => nomatch h
  | .str _ :: _, _, h => nomatch h
  | .list _ :: _, _, h => nomatch h
  | .tuple _ :: _, _, h => nomatch h
  | .dict _ :: _, _, h => nomatch h
theorem rk_sum : RK1 K (rSum K) dSum := fun cl E ρ σ G H x a S rx Q h => by
  cases rx with
  | @lst p xs ds hs hl ha =>
    have h' : (match asInts ds with | some ns => Tr.ret (PyData.int ns.sum) | none => .bad).wp (Po K ρ σ (Rp K) G H Q) (Xo cl (E σ) (Owns ρ σ) H) := h
    cases hd : asInts ds with
    | none =>
      rw [hd] at h'
      exact h'.elim
    | some ns =>
      rw [hd] at h'
      have e := asInts_map hd
      subst e
      have e2 := ha.ints
      subst e2
      exact ⟨p, ns, rfl, S.sub.l hs, Po.now h' S (.int _)⟩
  | _ => exact h.elim
theorem rk_abs : RK1 K (fun xs H Q => ∃ i, xs = [.int i] ∧ Q (.int (if i < 0 then -i else i)) H) dAbs := fun cl E ρ σ G H x a S rx Q h => by
  cases rx with
  | int i => exact ⟨i, rfl, Po.now h S (.int _)⟩
  | _ => exact h.elim

/-! ### isinstance(x, T) -/
def tyN : PyData → String
  | .none => "NoneType"
  | .bool _ => "bool"
  | .int _ => "int"
  | .str _ => "str"
  | .list _ => "list"
  | .tuple _ => "tuple"
  | .dict _ => "dict"
theorem rd_tyT {G : Hp} {p : Addr} {xs : List V} (h : SqT K G p xs) : TyX K G (.ref p) (.type "tuple") := by
  rcases h with (h | ⟨o, h⟩) | ⟨o, its, n, h, c, _⟩
  · exact .base (.tup h)
  · exact .fTuple h
  · exact .kTuple h c
theorem rd_tyL {G : Hp} {p : Addr} {xs : List V} (h : SqL K G p xs) : TyX K G (.ref p) (.type "list") := by
  rcases h with (h | ⟨o, h⟩) | ⟨o, its, n, h, c, _⟩
  · exact .base (.lst h)
  · exact .base (.frz h)
  · exact .kList h c
theorem rp_ty {G H : Hp} (e : Ex G H) {x : V} {a : PyData} (r : Rp K G x a) : TyX K H x (.type (tyN a)) := by
  cases r with
  | non => exact .base .non
  | bl b => exact .base (.bl b)
  | int i => exact .base (.int i)
  | str z => exact .base (.str z)
  | lst h l ha => exact rd_tyL (e.l h)
  | tup h l ha => exact rd_tyT (e.t h)
def isTy (T : String) (f : PyData → Bool) : Prop := ∀ a : PyData, a.plain = true → kitB (tyN a) T = some (f a)
theorem isTy_tuple : isTy "tuple" isTup := fun a h => by
  cases a with
  | none => exact (show kitB "NoneType" "tuple" = some false by decide +kernel)
  | bool _ => exact (show kitB "bool" "tuple" = some false by decide +kernel)
  | int _ => exact (show kitB "int" "tuple" = some false by decide +kernel)
  | str _ => exact (show kitB "str" "tuple" = some false by decide +kernel)
  | list _ => exact (show kitB "list" "tuple" = some false by decide +kernel)
  | tuple _ => exact (show kitB "tuple" "tuple" = some true by decide +kernel)
  | dict _ => exact nomatch h
theorem isTy_list : isTy "list" isLst := fun a h => by
  cases a with
  | none => exact (show kitB "NoneType" "list" = some false by decide +kernel)
  | bool _ => exact (show kitB "bool" "list" = some false by decide +kernel)
  | int _ => exact (show kitB "int" "list" = some false by decide +kernel)
  | str _ => exact (show kitB "str" "list" = some false by decide +kernel)
  | list _ => exact (show kitB "list" "list" = some true by decide +kernel)
  | tuple _ => exact (show kitB "tuple" "list" = some false by decide +kernel)
  | dict _ => exact nomatch h
theorem isTy_int : isTy "int" isInt := fun a h => by
  cases a with
  | none => exact (show kitB "NoneType" "int" = some false by decide +kernel)
  | bool _ => exact (show kitB "bool" "int" = some true by decide +kernel)
  | int _ => exact (show kitB "int" "int" = some true by decide +kernel)
  | str _ => exact (show kitB "str" "int" = some false by decide +kernel)
  | list _ => exact (show kitB "list" "int" = some false by decide +kernel)
  | tuple _ => exact (show kitB "tuple" "int" = some false by decide +kernel)
  | dict _ => exact nomatch h
theorem isTy_bool : isTy "bool" isBool := fun a h => by
  cases a with
  | none => exact (show kitB "NoneType" "bool" = some false by decide +kernel)
  | bool _ => exact (show kitB "bool" "bool" = some true by decide +kernel)
  | int _ => exact (show kitB "int" "bool" = some false by decide +kernel)
  | str _ => exact (show kitB "str" "bool" = some false by decide +kernel)
  | list _ => exact (show kitB "list" "bool" = some false by decide +kernel)
  | tuple _ => exact (show kitB "tuple" "bool" = some false by decide +kernel)
  | dict _ => exact nomatch h
theorem isTy_str : isTy "str" isStr := fun a h => by
  cases a with
  | none => exact (show kitB "NoneType" "str" = some false by decide +kernel)
  | bool _ => exact (show kitB "bool" "str" = some false by decide +kernel)
  | int _ => exact (show kitB "int" "str" = some false by decide +kernel)
  | str _ => exact (show kitB "str" "str" = some true by decide +kernel)
  | list _ => exact (show kitB "list" "str" = some false by decide +kernel)
  | tuple _ => exact (show kitB "tuple" "str" = some false by decide +kernel)
  | dict _ => exact nomatch h
theorem ev_isi {T : String} {f : PyData → Bool} (hT : isTy T f) {cl : Ek → Addr} {E : L2.St → Option XK} {ρ : List Sl} {ta : TE} {fa : Tr PyData} (ha : Ev K cl E ta ρ fa) : Ev K cl E (tCB (rIsi K) (tCons ta (tCons (tC (.ty T)) tNil))) ρ (fa.bind fun a => .ret (.bool (f a))) :=
  fun G H σ S Q h => ha.seq S h fun a x G1 H1 g1 S1 rx h1 =>
    ⟨x, .ty T, .type (tyN a), .type T, f a, rfl, .ty T, rp_ty S1.sub rx, kit_ty (hT a rx.plain), Po.now h1 S1 (.bl _)⟩
end
end Cg
namespace L2
open PySem PySem.Spec PyProof.Rows
/-! ### a walk over a list or a tuple -/
section
variable {X : Cx} {tg : Expr}
def iSeq (K : PySem.W.Frag) (tl : TE) : TI := fun σ H R => tl σ H fun x H1 => ∃ a, x = .ref a ∧ (((∃ xs, SqL K H1 a xs) ∧ R (Itl K a) H1) ∨ ((∃ xs, SqT K H1 a xs) ∧ R (Itt K a) H1))
theorem pi_seq {l : Expr} {tl : TE} (hl : PE X l tl) : PI X tg l (iSeq X.K tl) := by
  refine ⟨fun pins s σ H R I h => ?_⟩
  refine thn (hl.run pins s σ H _ I h) fun v s1 ⟨x, H1, I1, r1, q1⟩ => ?_
  obtain ⟨a, e, q1⟩ := q1
  subst e
  cases r1
  rcases q1 with ⟨⟨xs, hq⟩, q⟩ | ⟨⟨xs, hq⟩, q⟩
  · obtain ⟨its, rv, p, hz⟩ := I1.list hq
    refine wpAny_pyIter_list p.isList ?_
    refine ⟨s1.heap.objs.size, [s1.heap.objs.size], _, _, H1, rfl, I1.kept (t' := s1.toks) fun b o e => Heap.get?_push_of_some _ e, turn_list a _, ⟨_, Heap.get?_push_size _ rfl, rfl, rfl⟩, fun b hb => ?_, q⟩
    have e : b = s1.heap.objs.size := by simpa using hb
    subst e
    exact I1.fpOk (Nat.le_refl _) (I1.hok.fresh (Nat.le_refl _))
  · obtain ⟨its, rv, p, hz⟩ := I1.tuple hq
    refine wpAny_pyIter_tuple (show s1.heap.IsTuple a its.toArray from p) ?_
    refine ⟨s1.heap.objs.size, [s1.heap.objs.size], _, _, H1, rfl, I1.kept (t' := s1.toks) fun b o e => Heap.get?_push_of_some _ e, turn_tuple a _, ⟨_, Heap.get?_push_size _ rfl, rfl, rfl⟩, fun b hb => ?_, q⟩
    have e : b = s1.heap.objs.size := by simpa using hb
    subst e
    exact I1.fpOk (Nat.le_refl _) (I1.hok.fresh (Nat.le_refl _))
end
end L2
namespace Cg
open PySem L2

/-! ### what a def promises -/
/-- on data; nothing of the caller's is touched -/
def SpP (K : PySem.W.Frag) (cl : Ek → Addr) (n : Nat) (m : List PyData → Tr PyData) : Sp := fun vs H Q E => ∃ (ds : List PyData) (G : Hp), RpAll K G vs ds ∧ ds.length = n ∧ Ex G H ∧
  (m ds).wp (fun d => ∀ v G' H', Gr (fun _ => False) G H G' H' → Ex G' H' → Rp K G' v d → Q v H') (Xo cl (some E) (fun _ => False) H)
/-- where nothing is raised -/
def SpN (K : PySem.W.Frag) (n : Nat) (m : List PyData → Tr PyData) : Sp := fun vs H Q _ => ∃ (ds : List PyData) (G : Hp), RpAll K G vs ds ∧ ds.length = n ∧ Ex G H ∧
  (m ds).wp (fun d => ∀ v G' H', Gr (fun _ => False) G H G' H' → Ex G' H' → Rp K G' v d → Q v H') (fun _ => False)
/-- with the box ahead -/
def SpB (K : PySem.W.Frag) (n : Nat) (m : List PyData → Tr PyData) : Sp := fun ws H Q _ => ∃ (b : Addr) (vs : List V) (ds : List PyData) (G : Hp), ws = .ref b :: vs ∧ BoxOk K G H b ∧ RpAll K G vs ds ∧ ds.length = n ∧ Ex G H ∧
  (m ds).wp (fun d => ∀ v G' H', Gr (fun a => a = b) G H G' H' → Ex G' H' → BoxOk K G' H' b → Rp K G' v d → Q v H') (fun _ => False)
/-- an error that may not be -/
def Tr.noX {α : Type} : Tr α → Tr α
  | .ret a => .ret a
  | .exc _ => .bad
  | .bad => .bad
  | .draw n k => .draw n fun i => (k i).noX
@[simp] theorem Tr.noX_ret {α : Type} (a : α) : (Tr.ret a).noX = .ret a := rfl
theorem Tr.wp_noX {α : Type} {Q : α → Prop} {E E' : Ek → Prop} : ∀ {t : Tr α}, t.noX.wp Q E → t.wp Q E'
  | .ret _, h => h
  | .exc _, h => h.elim
  | .bad, h => h.elim
  | .draw n k, h => fun i hi => Tr.wp_noX (h i hi)
section
variable {K : PySem.W.Frag} {cl : Ek → Addr} {E : L2.St → Option XK} {ρ : List Sl} {σ : L2.St} {G H G1 H1 : Hp}
theorem Sta.box (S : Sta K G H ρ σ) {i : Nat} (h : ρ[i]? = some .box) : ∃ b, σ[i]? = some (some (.ref b)) ∧ BoxOk K G H b ∧ Owns ρ σ b := by
  obtain ⟨o, h1, b, e, hb⟩ := S.var h
  subst e
  exact ⟨b, h1, hb, i, .box, h, rfl, h1⟩
/-- behind a callee that had the box at b -/
theorem Sta.boxed (S : Sta K G H ρ σ) {b : Addr} (ob : ∀ (i : Nat) (s : Sl), ρ[i]? = some s → owning s = true → σ[i]? = some (some (.ref b)) → s = .box) (g : Gr (fun a => a = b) G H G1 H1) (e : Ex G1 H1) (hb : BoxOk K G1 H1 b) : Sta K G1 H1 ρ σ := by
  refine ⟨S.len, e, fun i s o h1 h2 => ?_, S.dis⟩
  by_cases hs : owning s = true ∧ o = some (.ref b)
  · obtain ⟨hs, rfl⟩ := hs
    have z := ob i s h1 hs h2
    subst z
    exact ⟨b, rfl, hb⟩
  · refine (S.ok i s o h1 h2).grow g.ex (fun a ho ha hg hn => g.new a (fun z => ?_) hn hg) fun a u ho ha h => g.fr a u (fun z => ?_) h
    · subst z
      exact hs ⟨ho, ha⟩
    · subst z
      exact hs ⟨ho, ha⟩
theorem Sta.onlyBox (S : Sta K G H ρ σ) {i : Nat} {b : Addr} (h : ρ[i]? = some .box) (hb : σ[i]? = some (some (.ref b))) (j : Nat) (s : Sl) (h1 : ρ[j]? = some s) (h2 : owning s = true) (h3 : σ[j]? = some (some (.ref b))) : s = .box := by
  have e := S.dis i j .box s b h h1 rfl h2 hb h3
  subst e
  rw [h] at h1
  exact (Option.some.inj h1).symm

/-! ### calls of defs -/
theorem call_core {m : Tr PyData} {X : Ek → Prop} {G1 H1 : Hp} {Q : VK} (S : Sta K G1 H1 ρ σ) (h : m.wp (Po K ρ σ (Rp K) G1 H1 Q) X) :
    m.wp (fun d => ∀ v G' H', Gr (fun _ => False) G1 H1 G' H' → Ex G' H' → Rp K G' v d → Q v H') X :=
  Tr.wp_mono (fun d hd v G' H' g e r => hd v G' H' (g.less fun _ z => z.elim) (S.grow g e) r) (fun _ z => z) h
theorem xo_all {E : XK} {O : Addr → Prop} {c : Ek} (h : Xo cl (some E) O H c) : Xo cl (some E) (fun _ => False) H c := fun H' k => h H' fun a o _ ha => k a o id ha
theorem ev_call {E : XK} {ta : TA} {n : Nat} {F : ∀ β : Type, (List PyData → Tr β) → Tr β} {m : List PyData → Tr PyData} (ha : EvA K cl (fun _ => some E) ta ρ n F) : Ev K cl (fun _ => some E) (tCall (SpP K cl n m) [] E ta) ρ (F _ m) :=
  fun G H σ S Q h => ha G H σ S (Rp K) m Q _ h fun ds vs G1 H1 g1 S1 rs hl h1 => ⟨ds, G1, by rw [List.append_nil]; exact rs, hl, S1.sub, call_core S1 (Tr.wp_mono (fun _ z => z) (fun _ => xo_all) h1)⟩
theorem ev_callS {E : L2.St → XK} {ta : TA} {n : Nat} {F : ∀ β : Type, (List PyData → Tr β) → Tr β} {m : List PyData → Tr PyData} (ha : EvA K cl (fun σ => some (E σ)) ta ρ n F) : Ev K cl (fun σ => some (E σ)) (tCallS (SpP K cl n m) E ta) ρ (F _ m) :=
  fun G H σ S Q h => ha G H σ S (Rp K) m Q _ h fun ds vs G1 H1 g1 S1 rs hl h1 => ⟨ds, G1, rs, hl, S1.sub, call_core S1 (Tr.wp_mono (fun _ z => z) (fun _ => xo_all) h1)⟩
/-- of a def that may raise, where nothing may be raised -/
theorem ev_callP {ta : TA} {n : Nat} {F : ∀ β : Type, (List PyData → Tr β) → Tr β} {m : List PyData → Tr PyData} (ha : EvA K cl E ta ρ n F) : Ev K cl E (tCall (SpP K cl n m) [] E0 ta) ρ (F _ fun ds => (m ds).noX) :=
  fun G H σ S Q h => ha G H σ S (Rp K) (fun ds => (m ds).noX) Q _ h fun ds vs G1 H1 g1 S1 rs hl h1 => ⟨ds, G1, by rw [List.append_nil]; exact rs, hl, S1.sub, call_core S1 (Tr.wp_noX h1)⟩
/-- of a def that raises nothing -/
theorem ev_callN {ta : TA} {n : Nat} {F : ∀ β : Type, (List PyData → Tr β) → Tr β} {m : List PyData → Tr PyData} (ha : EvA K cl (fun _ => none) ta ρ n F) : Ev K cl (fun _ => none) (tCall (SpN K n m) [] E0 ta) ρ (F _ m) :=
  fun G H σ S Q h => ha G H σ S (Rp K) m Q _ h fun ds vs G1 H1 g1 S1 rs hl h1 => ⟨ds, G1, by rw [List.append_nil]; exact rs, hl, S1.sub, call_core S1 h1⟩
/-- .. where something may be raised -/
theorem ev_callX {ta : TA} {n : Nat} {F : ∀ β : Type, (List PyData → Tr β) → Tr β} {m : List PyData → Tr PyData} (ha : EvA K cl E ta ρ n F) : Ev K cl E (tCall (SpN K n m) [] E0 ta) ρ (F _ fun ds => (m ds).noX) :=
  fun G H σ S Q h => ha G H σ S (Rp K) (fun ds => (m ds).noX) Q _ h fun ds vs G1 H1 g1 S1 rs hl h1 => ⟨ds, G1, by rw [List.append_nil]; exact rs, hl, S1.sub, call_core S1 (Tr.wp_noX h1)⟩
theorem ev_callB {ta : TA} {n i : Nat} {F : ∀ β : Type, (List PyData → Tr β) → Tr β} {m : List PyData → Tr PyData} (hi : ρ[i]? = some .box) (ha : EvA K cl (fun _ => none) ta ρ n F) : Ev K cl (fun _ => none) (tCall (SpB K n m) [] E0 (tCons (tVar i) ta)) ρ (F _ m) :=
  fun G H σ S Q h => by
    obtain ⟨b, e, _, ow⟩ := S.box hi
    refine ⟨.ref b, e, ha G H σ S (Rp K) m Q _ h fun ds vs G1 H1 g1 S1 rs hl h1 => ?_⟩
    obtain ⟨b', e', hb, _⟩ := S1.box hi
    obtain rfl : b = b' := V.ref.inj (Option.some.inj (Option.some.inj (e.symm.trans e')))
    exact ⟨b, vs, ds, G1, by rw [List.append_nil], hb, rs, hl, S1.sub, Tr.wp_mono (fun d hd v G' H' g e2 hb' r => hd v G' H' (g.less fun x z => by rw [z]; exact ow) (S1.boxed (S1.onlyBox hi e) g e2 hb') r) (fun _ z => z) h1⟩

/-! ### comprehensions -/
def mapT {α β : Type} (f : α → Tr β) : List α → Tr (List β)
  | [] => .ret []
  | x :: xs => (f x).bind fun y => (mapT f xs).bind fun ys => .ret (y :: ys)
def mapIf {α β : Type} (c : α → Tr Bool) (f : α → Tr β) : List α → Tr (List β)
  | [] => .ret []
  | x :: xs => (c x).bind fun b => if b then (f x).bind fun y => (mapIf c f xs).bind fun ys => .ret (y :: ys) else mapIf c f xs
/-- what comes of the rest of the turns, behind acc -/
def lcT (c : PyData → Tr Bool) (f : PyData → Tr PyData) : List PyData → List PyData → Tr (List PyData)
  | acc, [] => .ret acc
  | acc, x :: xs => (c x).bind fun b => if b then (f x).bind fun y => lcT c f (acc ++ [y]) xs else lcT c f acc xs
theorem lcT_if (c : PyData → Tr Bool) (f : PyData → Tr PyData) : ∀ (xs acc : List PyData), lcT c f acc xs = (mapIf c f xs).bind fun ys => .ret (acc ++ ys)
  | [], acc => by
    show Tr.ret acc = Tr.ret (acc ++ [])
    rw [List.append_nil]
  | x :: xs, acc => by
    show ((c x).bind fun b => if b then (f x).bind fun y => lcT c f (acc ++ [y]) xs else lcT c f acc xs) = ((c x).bind fun b => if b then (f x).bind fun y => (mapIf c f xs).bind fun ys => .ret (y :: ys) else mapIf c f xs).bind fun ys => .ret (acc ++ ys)
    rw [Tr.bind_assoc]
    congr
    funext b
    cases b with
    | true =>
      show ((f x).bind fun y => lcT c f (acc ++ [y]) xs) = ((f x).bind fun y => (mapIf c f xs).bind fun ys => .ret (y :: ys)).bind fun ys => .ret (acc ++ ys)
      rw [Tr.bind_assoc]
      congr
      funext y
      rw [lcT_if c f xs, Tr.bind_assoc]
      congr
      funext ys
      show Tr.ret (acc ++ [y] ++ ys) = Tr.ret (acc ++ (y :: ys))
      rw [List.append_assoc]
      rfl
    | false => exact lcT_if c f xs acc
theorem mapIf_true {f : PyData → Tr PyData} : ∀ xs : List PyData, mapIf (fun _ => .ret true) f xs = mapT f xs
  | [] => rfl
  | x :: xs => by
    show ((f x).bind fun y => (mapIf (fun _ => .ret true) f xs).bind fun ys => .ret (y :: ys)) = (f x).bind fun y => (mapT f xs).bind fun ys => .ret (y :: ys)
    rw [mapIf_true xs]
/-- the new list at Dl, behind some turns -/
structure Lc (K : PySem.W.Frag) (ρ : List Sl) (σ : L2.St) (G H : Hp) (Dl : Addr) (acc : List PyData) (n : Nat) (G' H' : Hp) : Prop where
  gr : Gr (Owns ρ σ) G H G' H'
  st : Sta K G' H' ρ σ
  old : H Dl = none
  out : G' Dl = none
  at' : ∃ xs, H' Dl = some (.lst xs) ∧ RpAll K G' xs acc
  len : acc.length ≤ n
theorem Lc.own {Dl : Addr} {acc : List PyData} {n : Nat} {G' H' : Hp} (L : Lc K ρ σ G H Dl acc n G' H') (S : Sta K G H ρ σ) : ¬ Owns ρ σ Dl := fun z => (S.own z).2 L.old
theorem lc_start {Dl : Addr} (S : Sta K G H ρ σ) (hD : H Dl = none) : Lc K ρ σ G H Dl [] 0 G (upd H Dl (.lst [])) := by
  have g : Gr (Owns ρ σ) G H G (upd H Dl (.lst [])) := ⟨Ex.refl G, fun _ _ _ h => h, fun a o _ ha => by rw [upd_ne (ne_of_none ha hD)]; exact ha, fun a hn => by rw [upd_ne (fun z => hn (by rw [z]; exact hD))]; exact hn⟩
  refine ⟨g, ?_, hD, S.sub.back hD, ⟨[], upd_same, .nil⟩, Nat.le_refl _⟩
  refine ⟨S.len, fun a o ha => by rw [upd_ne (ne_of_none (S.sub a o ha) hD)]; exact S.sub a o ha, fun i s o h1 h2 => ?_, S.dis⟩
  exact (S.ok i s o h1 h2).grow (Ex.refl G) (fun _ _ _ hg _ => hg) fun a u _ _ ha => by rw [upd_ne (ne_of_none ha hD)]; exact ha
/-- one more item -/
theorem Lc.add {Dl : Addr} {acc : List PyData} {n : Nat} {G1 H1 : Hp} (L : Lc K ρ σ G H Dl acc n G1 H1) (S : Sta K G H ρ σ) {v : V} {d : PyData} (r : Rp K G1 v d) {xs : List V} (hx : H1 Dl = some (.lst xs)) (ha : RpAll K G1 xs acc) :
    Lc K ρ σ G H Dl (acc ++ [d]) (n + 1) G1 (upd H1 Dl (.lst (xs ++ [v]))) := by
  have no := L.own S
  have e : Ex G1 (upd H1 Dl (.lst (xs ++ [v]))) := fun a o h => by rw [upd_ne (ne_of_none h L.out)]; exact L.st.sub a o h
  refine ⟨⟨L.gr.ex, L.gr.new, fun a o hn h => ?_, fun a hn => ?_⟩, ⟨L.st.len, e, fun i s o h1 h2 => ?_, L.st.dis⟩, L.old, L.out, ⟨_, upd_same, ha.append (.cons r .nil)⟩, ?_⟩
  · rw [upd_ne (ne_of_none h L.old)]
    exact L.gr.fr a o hn h
  · by_cases z : a = Dl
    · rw [z, upd_same]
      exact fun q => nomatch q
    · rw [upd_ne z]
      exact L.gr.keep a hn
  · refine (L.st.ok i s o h1 h2).grow (Ex.refl G1) (fun _ _ _ hg _ => hg) fun a u ho hv h => ?_
    rw [upd_ne (fun z => no ?_)]
    · exact h
    · subst z
      subst hv
      exact ⟨i, s, h1, ho, h2⟩
  · rw [List.length_append]
    have := L.len
    show acc.length + 1 ≤ n + 1
    omega
/-- the list is handed out -/
theorem Lc.done {Dl : Addr} {acc : List PyData} {n : Nat} {G1 H1 : Hp} (L : Lc K ρ σ G H Dl acc n G1 H1) (S : Sta K G H ρ σ) (hn : n ≤ sizeLine) : ∃ G2, Gr (Owns ρ σ) G H G2 H1 ∧ Sta K G2 H1 ρ σ ∧ Rp K G2 (.ref Dl) (.list acc) := by
  obtain ⟨xs, hx, ha⟩ := L.at'
  have no := L.own S
  have e1 : Ex G1 (upd G1 Dl (.lst xs)) := Ex.new L.out
  refine ⟨upd G1 Dl (.lst xs), ⟨L.gr.ex.trans e1, fun a h1 h2 h3 => ?_, L.gr.fr, L.gr.keep⟩, ⟨L.st.len, fun a o h => ?_, fun i s o h1 h2 => ?_, L.st.dis⟩, .lst (SqL.of upd_same) (Nat.le_trans L.len hn) (ha.mono e1)⟩
  · rw [upd_ne (fun z => h2 (by rw [z]; exact L.old))]
    exact L.gr.new a h1 h2 h3
  · by_cases z : a = Dl
    · rw [z, upd_same] at h
      rw [z, hx, ← h]
    · rw [upd_ne z] at h
      exact L.st.sub a o h
  · refine (L.st.ok i s o h1 h2).grow e1 (fun a ho hv hg _ => ?_) fun _ _ _ _ h => h
    rw [upd_ne (fun z => no ?_)]
    · exact hg
    · subst z
      subst hv
      exact ⟨i, s, h1, ho, h2⟩
/-- what is ours under (ρ, σ) is ours under (ρ2, σ2), at its place -/
structure Kp (ρ : List Sl) (σ : L2.St) (ρ2 : List Sl) (σ2 : L2.St) : Prop where
  fwd : ∀ (i : Nat) (s : Sl), ρ[i]? = some s → owning s = true → ρ2[i]? = some s ∧ σ2[i]? = σ[i]?
  bwd : ∀ a, Owns ρ2 σ2 a → Owns ρ σ a
theorem Kp.refl : Kp ρ σ ρ σ := ⟨fun _ _ h _ => ⟨h, rfl⟩, fun _ h => h⟩
theorem Kp.trans {ρ1 ρ2 : List Sl} {σ1 σ2 : L2.St} (a : Kp ρ σ ρ1 σ1) (b : Kp ρ1 σ1 ρ2 σ2) : Kp ρ σ ρ2 σ2 :=
  ⟨fun i s h o => ⟨(b.fwd i s (a.fwd i s h o).1 o).1, (b.fwd i s (a.fwd i s h o).1 o).2.trans (a.fwd i s h o).2⟩, fun x h => a.bwd x (b.bwd x h)⟩
theorem Kp.own {ρ2 : List Sl} {σ2 : L2.St} (k : Kp ρ σ ρ2 σ2) {a : Addr} (h : Owns ρ σ a) : Owns ρ2 σ2 a := by
  obtain ⟨i, s, h1, h2, h3⟩ := h
  obtain ⟨q1, q2⟩ := k.fwd i s h1 h2
  exact ⟨i, s, q1, h2, q2.trans h3⟩
theorem Sta.back {ρ2 : List Sl} {σ2 : L2.St} (S : Sta K G H ρ σ) (k : Kp ρ σ ρ2 σ2) (e : Ex G G1) (S2 : Sta K G1 H1 ρ2 σ2) : Sta K G1 H1 ρ σ := by
  refine ⟨S.len, S2.sub, fun i s o h1 h2 => ?_, S.dis⟩
  by_cases ho : owning s = true
  · obtain ⟨q1, q2⟩ := k.fwd i s h1 ho
    exact S2.ok i s o q1 (q2.trans h2)
  · have q := S.ok i s o h1 h2
    cases s with
    | dat d =>
      obtain ⟨v, ev, r⟩ := q
      exact ⟨v, ev, r.mono e⟩
    | acc ds => exact absurd rfl ho
    | box => exact absurd rfl ho
    | val v => exact q
    | any => trivial
theorem wipe_get {σ : L2.St} : ∀ (vs : List Nat) (k : Nat), (wipe σ vs)[k]? = if k ∈ vs ∧ k < σ.length then some none else σ[k]?
  | [], k => by
    rw [if_neg (fun z => nomatch z.1)]
    rfl
  | v :: vs, k => by
    show ((wipe σ vs).set v none)[k]? = _
    by_cases z : v = k
    · subst z
      by_cases hl : v < σ.length
      · rw [List.getElem?_set_self (by rw [wipe_length]; exact hl), if_pos ⟨List.mem_cons_self, hl⟩]
      · rw [if_neg (fun q => hl q.2), List.getElem?_eq_none_iff.mpr (by rw [List.length_set, wipe_length]; omega), List.getElem?_eq_none_iff.mpr (by omega)]
    · rw [List.getElem?_set_ne z, wipe_get vs k]
      by_cases hk : k ∈ vs ∧ k < σ.length
      · rw [if_pos hk, if_pos ⟨List.mem_cons_of_mem _ hk.1, hk.2⟩]
      · rw [if_neg hk, if_neg]
        rintro ⟨q1, q2⟩
        rcases List.mem_cons.mp q1 with q | q
        · exact z q.symm
        · exact hk ⟨q, q2⟩
theorem wipe_set {σ : L2.St} {i : Nat} {x : Option V} {vs : List Nat} (h : i ∈ vs) : wipe (σ.set i x) vs = wipe σ vs := by
  apply List.ext_getElem?
  intro k
  rw [wipe_get, wipe_get, List.length_set]
  by_cases hk : k ∈ vs ∧ k < σ.length
  · rw [if_pos hk, if_pos hk]
  · rw [if_neg hk, if_neg hk]
    by_cases z : i = k
    · subst z
      have hl : ¬ i < σ.length := fun q => hk ⟨h, q⟩
      rw [List.getElem?_eq_none_iff.mpr (by rw [List.length_set]; omega), List.getElem?_eq_none_iff.mpr (by omega)]
    · rw [List.getElem?_set_ne z]
theorem wipe_wipe {σ : L2.St} {vs : List Nat} : wipe (wipe σ vs) vs = wipe σ vs := by
  apply List.ext_getElem?
  intro k
  rw [wipe_get, wipe_length]
  by_cases hk : k ∈ vs ∧ k < σ.length
  · rw [if_pos hk, wipe_get, if_pos hk]
  · rw [if_neg hk]
theorem Sta.wiped (S : Sta K G H ρ σ) {vs : List Nat} (h : ∀ i ∈ vs, ρ[i]? = some .any) : Sta K G H ρ (wipe σ vs) ∧ Kp ρ σ ρ (wipe σ vs) := by
  have oth : ∀ (i : Nat) (s : Sl), ρ[i]? = some s → owning s = true → (wipe σ vs)[i]? = σ[i]? := fun i s h1 h2 => by
    rw [wipe_get, if_neg]
    rintro ⟨q, _⟩
    rw [h i q] at h1
    cases h1
    cases h2
  refine ⟨⟨by rw [wipe_length]; exact S.len, S.sub, fun i s o h1 h2 => ?_, fun i j si sj a h1 h2 h3 h4 h5 h6 => ?_⟩, ⟨fun i s h1 h2 => ⟨h1, oth i s h1 h2⟩, fun a q => ?_⟩⟩
  · rw [wipe_get] at h2
    by_cases hk : i ∈ vs ∧ i < σ.length
    · rw [h i hk.1] at h1
      cases h1
      trivial
    · rw [if_neg hk] at h2
      exact S.ok i s o h1 h2
  · rw [oth i si h1 h3] at h5
    rw [oth j sj h2 h4] at h6
    exact S.dis i j si sj a h1 h2 h3 h4 h5 h6
  · obtain ⟨i, s, h1, h2, h3⟩ := q
    rw [oth i s h1 h2] at h3
    exact ⟨i, s, h1, h2, h3⟩
/-- a slot that owns nothing takes data -/
theorem Sta.put (S : Sta K G H ρ σ) {i : Nat} {v : V} {d : PyData} (r : Rp K G v d) : Sta K G H (ρ.set i (.dat d)) (σ.set i (some v)) := by
  refine ⟨by rw [List.length_set, List.length_set]; exact S.len, S.sub, fun j s o h1 h2 => ?_, fun j k sj sk a h1 h2 h3 h4 h5 h6 => ?_⟩
  · by_cases z : i = j
    · subst z
      have hl : i < σ.length := by
        have := (List.getElem?_eq_some_iff.mp h2).1
        rwa [List.length_set] at this
      rw [List.getElem?_set_self (by rw [S.len]; exact hl)] at h1
      rw [List.getElem?_set_self hl] at h2
      cases h1
      cases h2
      exact ⟨v, rfl, r⟩
    · rw [List.getElem?_set_ne z] at h1 h2
      exact S.ok j s o h1 h2
  · have ne : ∀ (m : Nat) (t : Sl), (ρ.set i (.dat d))[m]? = some t → owning t = true → i ≠ m := fun m t q1 q2 z => by
      subst z
      have hl : i < ρ.length := by
        have := (List.getElem?_eq_some_iff.mp q1).1
        rwa [List.length_set] at this
      rw [List.getElem?_set_self hl] at q1
      cases q1
      cases q2
    have n1 := ne j sj h1 h3
    have n2 := ne k sk h2 h4
    rw [List.getElem?_set_ne n1] at h1 h5
    rw [List.getElem?_set_ne n2] at h2 h6
    exact S.dis j k sj sk a h1 h2 h3 h4 h5 h6
theorem owns_put {i : Nat} {v : V} {d : PyData} {a : Addr} (h : Owns (ρ.set i (.dat d)) (σ.set i (some v)) a) : Owns ρ σ a := by
  obtain ⟨j, s, h1, h2, h3⟩ := h
  by_cases z : i = j
  · subst z
    have hl : i < ρ.length := by
      have := (List.getElem?_eq_some_iff.mp h1).1
      rwa [List.length_set] at this
    rw [List.getElem?_set_self hl] at h1
    cases h1
    cases h2
  · rw [List.getElem?_set_ne z] at h1 h3
    exact ⟨j, s, h1, h2, h3⟩
theorem owns_put' {i : Nat} {v : V} {d : PyData} {a : Addr} (n : ∀ s, ρ[i]? = some s → owning s = false) (h : Owns ρ σ a) : Owns (ρ.set i (.dat d)) (σ.set i (some v)) a := by
  obtain ⟨j, s, h1, h2, h3⟩ := h
  have z : i ≠ j := fun z => by
    subst z
    rw [n s h1] at h2
    cases h2
  exact ⟨j, s, by rw [List.getElem?_set_ne z]; exact h1, h2, by rw [List.getElem?_set_ne z]; exact h3⟩
/-- a slot that owns nothing -/
def nown (ρ : List Sl) (i : Nat) : Bool := match ρ[i]? with
  | some s => !owning s
  | none => true
theorem nown_of {i : Nat} (h : nown ρ i = true) : ∀ s, ρ[i]? = some s → owning s = false := fun s hs => by
  unfold nown at h
  rw [hs] at h
  simpa using h
theorem kp_put {i : Nat} {v : V} {d : PyData} (n : nown ρ i = true) : Kp ρ σ (ρ.set i (.dat d)) (σ.set i (some v)) := by
  refine ⟨fun j s h1 h2 => ?_, fun a => owns_put⟩
  have z : i ≠ j := fun z => by
    subst z
    rw [nown_of n s h1] at h2
    cases h2
  exact ⟨by rw [List.getElem?_set_ne z]; exact h1, List.getElem?_set_ne z⟩
/-- a target that takes data d, from ρ to ρ' d; its slots are vs -/
def Tg (K : PySem.W.Frag) (g : TG) (vs : List Nat) (ρ : List Sl) (ρ' : PyData → List Sl) (ok : PyData → Bool) : Prop :=
  ∀ (G H : Hp) (σ : L2.St) (x : V) (d : PyData) (N : L2.St → Hp → Prop), Sta K G H ρ σ → Rp K G x d → ok d = true → (∀ σ2, Sta K G H (ρ' d) σ2 → Kp ρ σ (ρ' d) σ2 → wipe σ2 vs = wipe σ vs → N σ2 H) → g x σ H N
theorem tg_name {i : Nat} (hi : nown ρ i = true := by rfl) : Tg K (gName i) [i] ρ (fun d => ρ.set i (.dat d)) (fun _ => true) := fun G H σ x d N S r _ k =>
  k _ (S.put r) (kp_put hi) (wipe_set List.mem_cons_self)
def pair? : PyData → Option (PyData × PyData)
  | .tuple [a, b] => some (a, b)
  | _ => none
def trip? : PyData → Option (PyData × PyData × PyData)
  | .tuple [a, b, c] => some (a, b, c)
  | _ => none
theorem tg_tup2 {i j : Nat} (hi : nown ρ i = true := by rfl) (hj : nown ρ j = true := by rfl) (ne : i ≠ j := by decide) {vs : List Nat} (h1 : i ∈ vs := by decide) (h2 : j ∈ vs := by decide) :
    Tg K (gTup K 2 (gCons (gName i) (gCons (gName j) gNil))) vs ρ (fun d => match pair? d with | some (a, b) => (ρ.set i (.dat a)).set j (.dat b) | none => ρ) (fun d => (pair? d).isSome) := fun G H σ x d N S r ok k => by
  cases r with
  | @tup p xs ds hs hl ha =>
    match ds, ok with
    | [a, b], _ =>
      cases ha with
      | cons ra t =>
        cases t with
        | cons rb t =>
          cases t
          have n2 : nown (ρ.set i (.dat a)) j = true := by
            unfold nown
            rw [List.getElem?_set_ne ne]
            exact hj
          exact ⟨p, _, rfl, S.sub.t hs, rfl, _, _, rfl, _, _, rfl, rfl, k _ ((S.put ra).put rb) ((kp_put hi).trans (kp_put n2)) (by rw [wipe_set h2, wipe_set h1])⟩
  | _ => cases ok
theorem tg_tup3 {i j l : Nat} (hi : nown ρ i = true := by rfl) (hj : nown ρ j = true := by rfl) (hk : nown ρ l = true := by rfl) (ne : i ≠ j := by decide) (ne2 : i ≠ l := by decide) (ne3 : j ≠ l := by decide) {vs : List Nat} (h1 : i ∈ vs := by decide) (h2 : j ∈ vs := by decide) (h3 : l ∈ vs := by decide) :
    Tg K (gTup K 3 (gCons (gName i) (gCons (gName j) (gCons (gName l) gNil)))) vs ρ (fun d => match trip? d with | some (a, b, c) => ((ρ.set i (.dat a)).set j (.dat b)).set l (.dat c) | none => ρ) (fun d => (trip? d).isSome) := fun G H σ x d N S r ok k => by
  cases r with
  | @tup p xs ds hs hl ha =>
    match ds, ok with
    | [a, b, c], _ =>
      cases ha with
      | cons ra t =>
        cases t with
        | cons rb t =>
          cases t with
          | cons rc t =>
            cases t
            have n2 : nown (ρ.set i (.dat a)) j = true := by
              unfold nown
              rw [List.getElem?_set_ne ne]
              exact hj
            have n3 : nown ((ρ.set i (.dat a)).set j (.dat b)) l = true := by
              unfold nown
              rw [List.getElem?_set_ne ne3, List.getElem?_set_ne ne2]
              exact hk
            exact ⟨p, _, rfl, S.sub.t hs, rfl, _, _, rfl, _, _, rfl, _, _, rfl, rfl, k _ (((S.put ra).put rb).put rc) (((kp_put hi).trans (kp_put n2)).trans (kp_put n3)) (by rw [wipe_set h3, wipe_set h2, wipe_set h1])⟩
  | _ => cases ok

/-! ### a comprehension's turns -/
theorem lc_turn (hE : ∀ a b, E a = E b) {g : TG} {tt : TT} {te : TE} {vs : List Nat} {ρx : PyData → List Sl} {ok : PyData → Bool} {c : PyData → Tr Bool} {f : PyData → Tr PyData} (hv : ∀ i ∈ vs, ρ[i]? = some .any) (tg : Tg K g vs ρ ρx ok) (hb : ∀ d, ok d = false → c d = .bad)
    (ht : ∀ d, ok d = true → EvT K cl E tt (ρx d) (c d)) (he : ∀ d, ok d = true → Ev K cl E te (ρx d) (f d)) {Q : VK} {Dl : Addr} (S : Sta K G H ρ σ) {acc : List PyData} {n : Nat} {G1 H1 : Hp} (L : Lc K ρ σ G H Dl acc n G1 H1) (hn : n < sizeLine)
    {x : V} {d : PyData} (r : Rp K G1 x d) {ds : List PyData} {N : Hp → Prop} (hN : ∀ acc' G' H', Lc K ρ σ G H Dl acc' (n + 1) G' H' → ((lcT c f acc' ds).bind fun ys => .ret (.list ys)).wp (Po K ρ σ (Rp K) G H Q) (Xo cl (E σ) (Owns ρ σ) H) → N H')
    (h : ((lcT c f acc (d :: ds)).bind fun ys => .ret (.list ys)).wp (Po K ρ σ (Rp K) G H Q) (Xo cl (E σ) (Owns ρ σ) H)) :
    g x (wipe σ vs) H1 fun σ2 H2 => wipe σ2 vs = wipe σ vs ∧ tt σ2 H2 fun b H3 => if b = true then te σ2 H3 fun y H4 => ∃ acc, H4 Dl = some (.lst acc) ∧ acc.length < sizeLine ∧ N (upd H4 Dl (.lst (acc ++ [y]))) else N H3 := by
  have h0 : ((c d).bind fun b => if b then ((f d).bind fun y => (lcT c f (acc ++ [y]) ds).bind fun ys => .ret (.list ys)) else (lcT c f acc ds).bind fun ys => .ret (.list ys)).wp (Po K ρ σ (Rp K) G H Q) (Xo cl (E σ) (Owns ρ σ) H) := by
    have e : ((lcT c f acc (d :: ds)).bind fun ys => Tr.ret (PyData.list ys)) = ((c d).bind fun b => if b then ((f d).bind fun y => (lcT c f (acc ++ [y]) ds).bind fun ys => .ret (.list ys)) else (lcT c f acc ds).bind fun ys => .ret (.list ys)) := by
      show (((c d).bind fun b => if b then (f d).bind fun y => lcT c f (acc ++ [y]) ds else lcT c f acc ds).bind fun ys => Tr.ret (PyData.list ys)) = _
      rw [Tr.bind_assoc]
      congr
      funext b
      cases b with
      | true => exact Tr.bind_assoc _ _ _
      | false => rfl
    rw [← e]
    exact h
  have hok : ok d = true := by
    cases q : ok d with
    | true => rfl
    | false =>
      rw [hb d q] at h0
      exact h0.elim
  obtain ⟨S1, k1⟩ := L.st.wiped hv
  refine tg G1 H1 (wipe σ vs) x d _ S1 r hok fun σ2 S2 k2 ew => ⟨ew.trans wipe_wipe, ?_⟩
  have k : Kp ρ σ (ρx d) σ2 := k1.trans k2
  -- what the base wants of errors, told here
  have xo : ∀ {G3 H3 : Hp}, Gr (Owns ρ σ) G H G3 H3 → ∀ e, Xo cl (E σ) (Owns ρ σ) H e → Xo cl (E σ2) (Owns (ρx d) σ2) H3 e := fun g3 e hx => by
    rw [hE σ2 σ]
    cases q : E σ with
    | none => rw [q] at hx; exact hx
    | some E' =>
      rw [q] at hx
      exact fun H' fr => hx H' fun a o hn ha => fr a o (fun z => hn (k.bwd a z)) (g3.fr a o hn ha)
  have lift : ∀ {G2 H2 : Hp}, Gr (Owns (ρx d) σ2) G1 H1 G2 H2 → Sta K G2 H2 (ρx d) σ2 → Lc K ρ σ G H Dl acc n G2 H2 := fun g2 S3 => by
    have g2' : Gr (Owns ρ σ) G1 H1 _ _ := g2.less k.bwd
    have no := L.own S
    have noD : ¬ Owns (ρx d) σ2 Dl := fun z => no (k.bwd Dl z)
    obtain ⟨xs, hx, ha⟩ := L.at'
    exact ⟨L.gr.trans' g2', L.st.back k g2.ex S3, L.old, g2.new Dl noD (by rw [hx]; exact fun z => nomatch z) L.out, ⟨xs, g2.fr Dl _ noD hx, ha.mono g2.ex⟩, L.len⟩
  refine ht d hok G1 H1 σ2 S2 _ (Tr.wp_mono (fun b hb v G2 H2 g2 S3 ev => ?_) (fun e hx => xo L.gr e hx) (Tr.wp_bind.mp h0))
  cases ev
  have L2 := lift g2 S3
  cases b with
  | true =>
    refine he d hok G2 H2 σ2 S3 _ (Tr.wp_mono (fun y hy w G3 H3 g3 S4 ry => ?_) (fun e hx => xo L2.gr e hx) (Tr.wp_bind.mp hb))
    have L3 := lift (g2.trans' g3) S4
    obtain ⟨xs, hx, ha⟩ := L3.at'
    exact ⟨xs, hx, by rw [ha.len]; exact Nat.lt_of_le_of_lt L3.len hn, hN _ _ _ (L3.add S ry hx ha) hy⟩
  | false => exact hN _ _ _ ⟨L2.gr, L2.st, L2.old, L2.out, L2.at', Nat.le_succ_of_le L2.len⟩ hb
theorem drop_cons {α : Type} {xs : List α} {i : Nat} {x : α} (h : xs[i]? = some x) : xs.drop i = x :: xs.drop (i + 1) := by
  obtain ⟨hi, e⟩ := List.getElem?_eq_some_iff.mp h
  rw [← e]
  exact List.drop_eq_getElem_cons hi
/-- over a list or a tuple -/
theorem ev_lcS (hE : ∀ a b, E a = E b) {tl : TE} {g : TG} {tt : TT} {te : TE} {vs : List Nat} {ρx : PyData → List Sl} {ok : PyData → Bool} {fl : Tr PyData} {c : PyData → Tr Bool} {f : PyData → Tr PyData} (hl : Ev K cl E tl ρ fl) (hv : ∀ i ∈ vs, ρ[i]? = some .any) (tg : Tg K g vs ρ ρx ok) (hb : ∀ d, ok d = false → c d = .bad)
    (ht : ∀ d, ok d = true → EvT K cl E tt (ρx d) (c d)) (he : ∀ d, ok d = true → Ev K cl E te (ρx d) (f d)) : Ev K cl E (tLc (iSeq K tl) g tt te vs) ρ (fl.bind fun l => (items l).bind fun xs => (lcT c f [] xs).bind fun ys => .ret (.list ys)) :=
  fun G H σ S Q h => hl.seq S h fun l x G1 H1 g1 S1 rx h1 => by
    have fin : ∀ {Dl : Addr} {G' H' : Hp} {acc : List PyData} {n : Nat}, n ≤ sizeLine → Lc K ρ σ G1 H1 Dl acc n G' H' → ((lcT c f acc []).bind fun ys => Tr.ret (PyData.list ys)).wp (Po K ρ σ (Rp K) G1 H1 Q) (Xo cl (E σ) (Owns ρ σ) H1) → Q (.ref Dl) H' := fun hn L q => by
      obtain ⟨G2, g2, S2, r2⟩ := L.done S1 hn
      exact q _ G2 _ g2 S2 r2
    cases rx with
    | @lst p xs ds hs hz ha =>
      refine ⟨p, rfl, .inl ⟨⟨xs, S1.sub.l hs⟩, fun Dl hD => lc_list (K := K) (a := p) (xs := xs) (fun i H' => ∃ G' acc, Lc K ρ σ G1 H1 Dl acc i G' H' ∧ ((lcT c f acc (ds.drop i)).bind fun ys => Tr.ret (PyData.list ys)).wp (Po K ρ σ (Rp K) G1 H1 Q) (Xo cl (E σ) (Owns ρ σ) H1))
        ⟨G1, [], lc_start S1 hD, h1⟩ (fun i H' _ ⟨G', acc, L, _⟩ => L.st.sub.l (L.gr.ex.l hs)) (fun i x H' hi ⟨G', acc, L, q⟩ => ?_) fun H' ⟨G', acc, L, q⟩ => ?_⟩⟩
      · obtain ⟨d, hd, r⟩ := ha.getV hi
        have hlt := (List.getElem?_eq_some_iff.mp hd).1
        rw [drop_cons hd] at q
        exact lc_turn hE hv tg hb ht he S1 L (Nat.lt_of_lt_of_le hlt hz) (r.mono L.gr.ex) (fun acc' G'' H'' L' q' => ⟨G'', acc', L', q'⟩) q
      · rw [ha.len, List.drop_length] at q
        exact fin (by rw [ha.len]; exact hz) L q
    | @tup p xs ds hs hz ha =>
      refine ⟨p, rfl, .inr ⟨⟨xs, S1.sub.t hs⟩, fun Dl hD => lc_tup (K := K) (a := p) (xs := xs) (fun i H' => ∃ G' acc, Lc K ρ σ G1 H1 Dl acc i G' H' ∧ ((lcT c f acc (ds.drop i)).bind fun ys => Tr.ret (PyData.list ys)).wp (Po K ρ σ (Rp K) G1 H1 Q) (Xo cl (E σ) (Owns ρ σ) H1))
        ⟨G1, [], lc_start S1 hD, h1⟩ (fun i H' _ ⟨G', acc, L, _⟩ => L.st.sub.t (L.gr.ex.t hs)) (fun i x H' hi ⟨G', acc, L, q⟩ => ?_) fun H' ⟨G', acc, L, q⟩ => ?_⟩⟩
      · obtain ⟨d, hd, r⟩ := ha.getV hi
        have hlt := (List.getElem?_eq_some_iff.mp hd).1
        rw [drop_cons hd] at q
        exact lc_turn hE hv tg hb ht he S1 L (Nat.lt_of_lt_of_le hlt hz) (r.mono L.gr.ex) (fun acc' G'' H'' L' q' => ⟨G'', acc', L', q'⟩) q
      · rw [ha.len, List.drop_length] at q
        exact fin (by rw [ha.len]; exact hz) L q
    | _ => exact h1.elim
/-- the numbers lo, lo + 1, .. , n of them -/
def rng (lo : Int) (n : Nat) : List PyData := (List.range n).map fun (i : Nat) => PyData.int (lo + (i : Int))
theorem rng_get {lo : Int} {n i : Nat} (h : i < n) : (rng lo n)[i]? = some (.int (lo + (i : Int))) := by
  unfold rng
  rw [List.getElem?_map, List.getElem?_range h]
  rfl
theorem rng_len (lo : Int) (n : Nat) : (rng lo n).length = n := by
  unfold rng
  rw [List.length_map, List.length_range]
/-- what a range walks: at most a million turns -/
def rangeT (lo hi : PyData) : Tr (List PyData) := match lo, hi with
  | .int a, .int b => if -(2 ^ 61) ≤ a ∧ a ≤ 2 ^ 61 ∧ -(2 ^ 61) ≤ b ∧ b ≤ 2 ^ 61 ∧ b - a ≤ 1000000 then .ret (rng a (b - a).toNat) else .bad
  | _, _ => .bad
theorem lc_rng (hE : ∀ a b, E a = E b) {g : TG} {tt : TT} {te : TE} {vs : List Nat} {ρx : PyData → List Sl} {ok : PyData → Bool} {c : PyData → Tr Bool} {f : PyData → Tr PyData} (hv : ∀ i ∈ vs, ρ[i]? = some .any) (tg : Tg K g vs ρ ρx ok) (hb : ∀ d, ok d = false → c d = .bad)
    (ht : ∀ d, ok d = true → EvT K cl E tt (ρx d) (c d)) (he : ∀ d, ok d = true → Ev K cl E te (ρx d) (f d)) {Q : VK} {lo : Int} {n : Nat} (hn : n ≤ 1000000) (S1 : Sta K G1 H1 ρ σ)
    (h1 : ((lcT c f [] (rng lo n)).bind fun ys => Tr.ret (PyData.list ys)).wp (Po K ρ σ (Rp K) G1 H1 Q) (Xo cl (E σ) (Owns ρ σ) H1)) {Dl : Addr} (hD : H1 Dl = none) :
    ∃ W : Nat → Nat → Hp → Prop, (∃ m, W 0 m (upd H1 Dl (.lst []))) ∧ ∀ i m H, W i m H →
      ((Itr lo n).stop i H ∧ Q (.ref Dl) H) ∨ ((Itr lo n).go i H ∧ ∃ Nx : Hp → Prop, (∀ H', Nx H' → ∃ m', m' < m ∧ W (i + 1) m' H') ∧ ∀ x H', (Itr lo n).yld i H x H' → g x (wipe σ vs) H' fun σ2 H2 => wipe σ2 vs = wipe σ vs ∧ tt σ2 H2 fun b H3 =>
        if b = true then te σ2 H3 fun y H4 => ∃ acc, H4 Dl = some (.lst acc) ∧ acc.length < sizeLine ∧ Nx (upd H4 Dl (.lst (acc ++ [y]))) else Nx H3) := by
  have hs : n ≤ sizeLine := by rw [sizeLine_eq]; omega
  refine lc_range (lo := lo) (n := n) (Qd := fun H => Q (.ref Dl) H) (fun i H' => ∃ G' acc, Lc K ρ σ G1 H1 Dl acc i G' H' ∧ ((lcT c f acc ((rng lo n).drop i)).bind fun ys => Tr.ret (PyData.list ys)).wp (Po K ρ σ (Rp K) G1 H1 Q) (Xo cl (E σ) (Owns ρ σ) H1))
    ⟨G1, [], lc_start S1 hD, h1⟩ (fun i H' hi ⟨G', acc, L, q⟩ => ?_) fun H' ⟨G', acc, L, q⟩ => ?_
  · rw [drop_cons (rng_get hi)] at q
    exact lc_turn hE hv tg hb ht he S1 L (Nat.lt_of_lt_of_le hi hs) (.int _) (fun acc' G'' H'' L' q' => ⟨G'', acc', L', q'⟩) q
  · have e : (rng lo n).drop n = [] := List.drop_eq_nil_of_le (by rw [rng_len]; exact Nat.le_refl _)
    rw [e] at q
    obtain ⟨G2, g2, S2, r2⟩ := L.done S1 hs
    exact q _ G2 _ g2 S2 r2
theorem ev_lcR1 (hE : ∀ a b, E a = E b) {ta : TE} {g : TG} {tt : TT} {te : TE} {vs : List Nat} {ρx : PyData → List Sl} {ok : PyData → Bool} {fa : Tr PyData} {c : PyData → Tr Bool} {f : PyData → Tr PyData} (ha : Ev K cl E ta ρ fa) (hv : ∀ i ∈ vs, ρ[i]? = some .any) (tg : Tg K g vs ρ ρx ok) (hb : ∀ d, ok d = false → c d = .bad)
    (ht : ∀ d, ok d = true → EvT K cl E tt (ρx d) (c d)) (he : ∀ d, ok d = true → Ev K cl E te (ρx d) (f d)) : Ev K cl E (tLc (iRng1 (tCons ta tNil)) g tt te vs) ρ (fa.bind fun a => (rangeT (.int 0) a).bind fun xs => (lcT c f [] xs).bind fun ys => .ret (.list ys)) :=
  fun G H σ S Q h => ha.seq S h fun a x G1 H1 g1 S1 rx h1 => by
    cases rx with
    | int b =>
      have h2 : ((if -(2 ^ 61) ≤ (0 : Int) ∧ (0 : Int) ≤ 2 ^ 61 ∧ -(2 ^ 61) ≤ b ∧ b ≤ 2 ^ 61 ∧ b - 0 ≤ 1000000 then Tr.ret (rng 0 (b - 0).toNat) else .bad).bind fun xs => (lcT c f [] xs).bind fun ys => Tr.ret (PyData.list ys)).wp (Po K ρ σ (Rp K) G1 H1 Q) (Xo cl (E σ) (Owns ρ σ) H1) := h1
      split at h2
      · rename_i hz
        refine ⟨b, rfl, by omega, by omega, fun Dl hD => ?_⟩
        have e : (b - 0).toNat = b.toNat := by omega
        rw [e] at h2
        exact lc_rng hE hv tg hb ht he (by omega) S1 h2 hD
      · exact h2.elim
    | _ => exact h1.elim
theorem ev_lcR2 (hE : ∀ a b, E a = E b) {ta tb : TE} {g : TG} {tt : TT} {te : TE} {vs : List Nat} {ρx : PyData → List Sl} {ok : PyData → Bool} {fa fb : Tr PyData} {c : PyData → Tr Bool} {f : PyData → Tr PyData} (ha : Ev K cl E ta ρ fa) (hb2 : Ev K cl E tb ρ fb) (hv : ∀ i ∈ vs, ρ[i]? = some .any) (tg : Tg K g vs ρ ρx ok) (hb : ∀ d, ok d = false → c d = .bad)
    (ht : ∀ d, ok d = true → EvT K cl E tt (ρx d) (c d)) (he : ∀ d, ok d = true → Ev K cl E te (ρx d) (f d)) : Ev K cl E (tLc (iRng2 (tCons ta (tCons tb tNil))) g tt te vs) ρ (fa.bind fun a => fb.bind fun b => (rangeT a b).bind fun xs => (lcT c f [] xs).bind fun ys => .ret (.list ys)) :=
  fun G H σ S Q h => ha.seq S h fun a x G1 H1 g1 S1 rx h1 => hb2.seq S1 h1 fun b y G2 H2 g2 S2 ry h2 => by
    cases rx with
    | int a =>
      cases ry with
      | int b =>
        have h3 : ((if -(2 ^ 61) ≤ a ∧ a ≤ 2 ^ 61 ∧ -(2 ^ 61) ≤ b ∧ b ≤ 2 ^ 61 ∧ b - a ≤ 1000000 then Tr.ret (rng a (b - a).toNat) else .bad).bind fun xs => (lcT c f [] xs).bind fun ys => Tr.ret (PyData.list ys)).wp (Po K ρ σ (Rp K) G2 H2 Q) (Xo cl (E σ) (Owns ρ σ) H2) := h2
        split at h3
        · rename_i hz
          exact ⟨a, b, rfl, ⟨by omega, by omega, by omega, by omega⟩, fun Dl hD => lc_rng hE hv tg hb ht he (by omega) S2 h3 hD⟩
        · exact h3.elim
      | _ => exact h2.elim
    | _ =>
      cases ry <;> exact h2.elim
end
end Cg
namespace Cg
open PySem L2

section
variable {K : PySem.W.Frag} {cl : Ek → Addr} {E : L2.St → Option XK} {ρ : List Sl} {σ : L2.St} {G H G1 H1 : Hp}
theorem EvG.eq {W α : Type} {Rel : Hp → W → α → Prop} {te : L2.St → Hp → (W → Hp → Prop) → Prop} {t t' : Tr α} (h : EvG K cl E Rel te ρ t) (e : t = t') : EvG K cl E Rel te ρ t' := by
  rw [← e]
  exact h

/-! ### comprehensions as maps -/
def un2 {α : Type} (f : PyData → PyData → Tr α) (d : PyData) : Tr α := match pair? d with
  | some (a, b) => f a b
  | none => .bad
def un3 {α : Type} (f : PyData → PyData → PyData → Tr α) (d : PyData) : Tr α := match trip? d with
  | some (a, b, c) => f a b c
  | none => .bad
theorem lc_map {f : PyData → Tr PyData} {c : PyData → Tr Bool} (h : ∀ d, c d = .ret true ∨ (c d = .bad ∧ f d = .bad)) (xs : List PyData) : ((lcT c f [] xs).bind fun ys => Tr.ret (PyData.list ys)) = (mapT f xs).bind fun ys => .ret (.list ys) := by
  rw [lcT_if, Tr.bind_assoc]
  have e : mapIf c f xs = mapT f xs := by
    induction xs with
    | nil => rfl
    | cons x xs ih =>
      show ((c x).bind fun b => if b then (f x).bind fun y => (mapIf c f xs).bind fun ys => .ret (y :: ys) else mapIf c f xs) = (f x).bind fun y => (mapT f xs).bind fun ys => .ret (y :: ys)
      rcases h x with h | ⟨h1, h2⟩
      · rw [h, ih]
        rfl
      · rw [h1, h2]
        rfl
  rw [e]
  rfl
theorem lc_mapIf {f : PyData → Tr PyData} {c : PyData → Tr Bool} (xs : List PyData) : ((lcT c f [] xs).bind fun ys => Tr.ret (PyData.list ys)) = (mapIf c f xs).bind fun ys => .ret (.list ys) := by
  rw [lcT_if, Tr.bind_assoc]
  rfl
section
variable {tl ta tb te : TE} {tt : TT} {fl fa fb : Tr PyData} {i j l : Nat}
theorem any_of {vs : List Nat} (h : vs.all (fun i => match ρ[i]? with | some .any => true | _ => false) = true) : ∀ i ∈ vs, ρ[i]? = some .any := fun i hi => by
  have q := List.all_eq_true.mp h i hi
  cases e : ρ[i]? with
  | none =>
    rw [e] at q
    cases q
  | some s =>
    rw [e] at q
    cases s <;> first
      | rfl
      | cases q
/-- [e for x in l] -/
theorem ev_lcS1 (hE : ∀ a b, E a = E b) {f : PyData → Tr PyData} (hl : Ev K cl E tl ρ fl) (hv : ρ[i]? = some .any) (he : ∀ d, Ev K cl E te (ρ.set i (.dat d)) (f d)) :
    Ev K cl E (tLc (iSeq K tl) (gName i) tYes te [i]) ρ (fl.bind fun l => (items l).bind fun xs => (mapT f xs).bind fun ys => .ret (.list ys)) := by
  refine (ev_lcS hE (c := fun _ => .ret true) hl (fun j hj => by cases List.mem_singleton.mp hj; exact hv) (tg_name (by unfold nown; rw [hv]; rfl)) (fun _ q => nomatch q) (fun d _ => et_yes) fun d _ => he d).eq ?_
  congr; funext l; congr; funext xs
  exact lc_map (fun _ => .inl rfl) xs
/-- [e for x in l if c] -/
theorem ev_lcS1i (hE : ∀ a b, E a = E b) {c : PyData → Tr Bool} {f : PyData → Tr PyData} (hl : Ev K cl E tl ρ fl) (hv : ρ[i]? = some .any) (ht : ∀ d, EvT K cl E tt (ρ.set i (.dat d)) (c d)) (he : ∀ d, Ev K cl E te (ρ.set i (.dat d)) (f d)) :
    Ev K cl E (tLc (iSeq K tl) (gName i) tt te [i]) ρ (fl.bind fun l => (items l).bind fun xs => (mapIf c f xs).bind fun ys => .ret (.list ys)) := by
  refine (ev_lcS hE (c := c) hl (fun j hj => by cases List.mem_singleton.mp hj; exact hv) (tg_name (by unfold nown; rw [hv]; rfl)) (fun _ q => nomatch q) (fun d _ => ht d) fun d _ => he d).eq ?_
  congr; funext l; congr; funext xs
  exact lc_mapIf xs
theorem ev_lcR1n (hE : ∀ a b, E a = E b) {f : PyData → Tr PyData} (ha : Ev K cl E ta ρ fa) (hv : ρ[i]? = some .any) (he : ∀ d, Ev K cl E te (ρ.set i (.dat d)) (f d)) :
    Ev K cl E (tLc (iRng1 (tCons ta tNil)) (gName i) tYes te [i]) ρ (fa.bind fun a => (rangeT (.int 0) a).bind fun xs => (mapT f xs).bind fun ys => .ret (.list ys)) := by
  refine (ev_lcR1 hE (c := fun _ => .ret true) ha (fun j hj => by cases List.mem_singleton.mp hj; exact hv) (tg_name (by unfold nown; rw [hv]; rfl)) (fun _ q => nomatch q) (fun d _ => et_yes) fun d _ => he d).eq ?_
  congr; funext l; congr; funext xs
  exact lc_map (fun _ => .inl rfl) xs
theorem ev_lcR1i (hE : ∀ a b, E a = E b) {c : PyData → Tr Bool} {f : PyData → Tr PyData} (ha : Ev K cl E ta ρ fa) (hv : ρ[i]? = some .any) (ht : ∀ d, EvT K cl E tt (ρ.set i (.dat d)) (c d)) (he : ∀ d, Ev K cl E te (ρ.set i (.dat d)) (f d)) :
    Ev K cl E (tLc (iRng1 (tCons ta tNil)) (gName i) tt te [i]) ρ (fa.bind fun a => (rangeT (.int 0) a).bind fun xs => (mapIf c f xs).bind fun ys => .ret (.list ys)) := by
  refine (ev_lcR1 hE (c := c) ha (fun j hj => by cases List.mem_singleton.mp hj; exact hv) (tg_name (by unfold nown; rw [hv]; rfl)) (fun _ q => nomatch q) (fun d _ => ht d) fun d _ => he d).eq ?_
  congr; funext l; congr; funext xs
  exact lc_mapIf xs
theorem ev_lcR2n (hE : ∀ a b, E a = E b) {f : PyData → Tr PyData} (ha : Ev K cl E ta ρ fa) (hb : Ev K cl E tb ρ fb) (hv : ρ[i]? = some .any) (he : ∀ d, Ev K cl E te (ρ.set i (.dat d)) (f d)) :
    Ev K cl E (tLc (iRng2 (tCons ta (tCons tb tNil))) (gName i) tYes te [i]) ρ (fa.bind fun a => fb.bind fun b => (rangeT a b).bind fun xs => (mapT f xs).bind fun ys => .ret (.list ys)) := by
  refine (ev_lcR2 hE (c := fun _ => .ret true) ha hb (fun j hj => by cases List.mem_singleton.mp hj; exact hv) (tg_name (by unfold nown; rw [hv]; rfl)) (fun _ q => nomatch q) (fun d _ => et_yes) fun d _ => he d).eq ?_
  congr; funext a; congr; funext b; congr; funext xs
  exact lc_map (fun _ => .inl rfl) xs
theorem ev_lcR2i (hE : ∀ a b, E a = E b) {c : PyData → Tr Bool} {f : PyData → Tr PyData} (ha : Ev K cl E ta ρ fa) (hb : Ev K cl E tb ρ fb) (hv : ρ[i]? = some .any) (ht : ∀ d, EvT K cl E tt (ρ.set i (.dat d)) (c d)) (he : ∀ d, Ev K cl E te (ρ.set i (.dat d)) (f d)) :
    Ev K cl E (tLc (iRng2 (tCons ta (tCons tb tNil))) (gName i) tt te [i]) ρ (fa.bind fun a => fb.bind fun b => (rangeT a b).bind fun xs => (mapIf c f xs).bind fun ys => .ret (.list ys)) := by
  refine (ev_lcR2 hE (c := c) ha hb (fun j hj => by cases List.mem_singleton.mp hj; exact hv) (tg_name (by unfold nown; rw [hv]; rfl)) (fun _ q => nomatch q) (fun d _ => ht d) fun d _ => he d).eq ?_
  congr; funext a; congr; funext b; congr; funext xs
  exact lc_mapIf xs
/-- [e for a, b in l] -/
theorem ev_lcS2 (hE : ∀ a b, E a = E b) {f : PyData → PyData → Tr PyData} (hl : Ev K cl E tl ρ fl) (hv : ([i, j].all fun i => match ρ[i]? with | some .any => true | _ => false) = true) (he : ∀ a b, Ev K cl E te ((ρ.set i (.dat a)).set j (.dat b)) (f a b)) (hi : nown ρ i = true := by rfl) (hj : nown ρ j = true := by rfl) (ne : i ≠ j := by decide) :
    Ev K cl E (tLc (iSeq K tl) (gTup K 2 (gCons (gName i) (gCons (gName j) gNil))) tYes te [i, j]) ρ (fl.bind fun l => (items l).bind fun xs => (mapT (un2 f) xs).bind fun ys => .ret (.list ys)) := by
  refine (ev_lcS hE (c := un2 fun _ _ => .ret true) (f := un2 f) hl (any_of hv) (tg_tup2 hi hj ne List.mem_cons_self (List.mem_cons_of_mem _ List.mem_cons_self)) (fun d q => ?_) (fun d q => ?_) fun d q => ?_).eq ?_
  · unfold un2
    cases e : pair? d with
    | none => rfl
    | some p => rw [e] at q; cases q
  · unfold un2
    cases e : pair? d with
    | none => rw [e] at q; cases q
    | some p => exact et_yes
  · unfold un2
    cases e : pair? d with
    | none => rw [e] at q; cases q
    | some p => exact he p.1 p.2
  · congr; funext l; congr; funext xs
    refine lc_map (fun d => ?_) xs
    unfold un2
    cases e : pair? d with
    | none => exact .inr ⟨rfl, rfl⟩
    | some p => exact .inl rfl
theorem ev_lcS2i (hE : ∀ a b, E a = E b) {c : PyData → PyData → Tr Bool} {f : PyData → PyData → Tr PyData} (hl : Ev K cl E tl ρ fl) (hv : ([i, j].all fun i => match ρ[i]? with | some .any => true | _ => false) = true) (ht : ∀ a b, EvT K cl E tt ((ρ.set i (.dat a)).set j (.dat b)) (c a b)) (he : ∀ a b, Ev K cl E te ((ρ.set i (.dat a)).set j (.dat b)) (f a b)) (hi : nown ρ i = true := by rfl) (hj : nown ρ j = true := by rfl) (ne : i ≠ j := by decide) :
    Ev K cl E (tLc (iSeq K tl) (gTup K 2 (gCons (gName i) (gCons (gName j) gNil))) tt te [i, j]) ρ (fl.bind fun l => (items l).bind fun xs => (mapIf (un2 c) (un2 f) xs).bind fun ys => .ret (.list ys)) := by
  refine (ev_lcS hE (c := un2 c) (f := un2 f) hl (any_of hv) (tg_tup2 hi hj ne List.mem_cons_self (List.mem_cons_of_mem _ List.mem_cons_self)) (fun d q => ?_) (fun d q => ?_) fun d q => ?_).eq ?_
  · unfold un2
    cases e : pair? d with
    | none => rfl
    | some p => rw [e] at q; cases q
  · unfold un2
    cases e : pair? d with
    | none => rw [e] at q; cases q
    | some p => exact ht p.1 p.2
  · unfold un2
    cases e : pair? d with
    | none => rw [e] at q; cases q
    | some p => exact he p.1 p.2
  · congr; funext l; congr; funext xs
    exact lc_mapIf xs
theorem ev_lcS3 (hE : ∀ a b, E a = E b) {f : PyData → PyData → PyData → Tr PyData} (hl : Ev K cl E tl ρ fl) (hv : ([i, j, l].all fun i => match ρ[i]? with | some .any => true | _ => false) = true) (he : ∀ a b c, Ev K cl E te (((ρ.set i (.dat a)).set j (.dat b)).set l (.dat c)) (f a b c)) (hi : nown ρ i = true := by rfl) (hj : nown ρ j = true := by rfl) (hk : nown ρ l = true := by rfl) (ne : i ≠ j := by decide) (ne2 : i ≠ l := by decide) (ne3 : j ≠ l := by decide) :
    Ev K cl E (tLc (iSeq K tl) (gTup K 3 (gCons (gName i) (gCons (gName j) (gCons (gName l) gNil)))) tYes te [i, j, l]) ρ (fl.bind fun l => (items l).bind fun xs => (mapT (un3 f) xs).bind fun ys => .ret (.list ys)) := by
  refine (ev_lcS hE (c := un3 fun _ _ _ => .ret true) (f := un3 f) hl (any_of hv) (tg_tup3 hi hj hk ne ne2 ne3 List.mem_cons_self (List.mem_cons_of_mem _ List.mem_cons_self) (List.mem_cons_of_mem _ (List.mem_cons_of_mem _ List.mem_cons_self))) (fun d q => ?_) (fun d q => ?_) fun d q => ?_).eq ?_
  · unfold un3
    cases e : trip? d with
    | none => rfl
    | some p => rw [e] at q; cases q
  · unfold un3
    cases e : trip? d with
    | none => rw [e] at q; cases q
    | some p => exact et_yes
  · unfold un3
    cases e : trip? d with
    | none => rw [e] at q; cases q
    | some p => exact he p.1 p.2.1 p.2.2
  · congr; funext l; congr; funext xs
    refine lc_map (fun d => ?_) xs
    unfold un3
    cases e : trip? d with
    | none => exact .inr ⟨rfl, rfl⟩
    | some p => exact .inl rfl
theorem ev_lcS3i (hE : ∀ a b, E a = E b) {c : PyData → PyData → PyData → Tr Bool} {f : PyData → PyData → PyData → Tr PyData} (hl : Ev K cl E tl ρ fl) (hv : ([i, j, l].all fun i => match ρ[i]? with | some .any => true | _ => false) = true) (ht : ∀ a b d, EvT K cl E tt (((ρ.set i (.dat a)).set j (.dat b)).set l (.dat d)) (c a b d)) (he : ∀ a b d, Ev K cl E te (((ρ.set i (.dat a)).set j (.dat b)).set l (.dat d)) (f a b d)) (hi : nown ρ i = true := by rfl) (hj : nown ρ j = true := by rfl) (hk : nown ρ l = true := by rfl) (ne : i ≠ j := by decide) (ne2 : i ≠ l := by decide) (ne3 : j ≠ l := by decide) :
    Ev K cl E (tLc (iSeq K tl) (gTup K 3 (gCons (gName i) (gCons (gName j) (gCons (gName l) gNil)))) tt te [i, j, l]) ρ (fl.bind fun l => (items l).bind fun xs => (mapIf (un3 c) (un3 f) xs).bind fun ys => .ret (.list ys)) := by
  refine (ev_lcS hE (c := un3 c) (f := un3 f) hl (any_of hv) (tg_tup3 hi hj hk ne ne2 ne3 List.mem_cons_self (List.mem_cons_of_mem _ List.mem_cons_self) (List.mem_cons_of_mem _ (List.mem_cons_of_mem _ List.mem_cons_self))) (fun d q => ?_) (fun d q => ?_) fun d q => ?_).eq ?_
  · unfold un3
    cases e : trip? d with
    | none => rfl
    | some p => rw [e] at q; cases q
  · unfold un3
    cases e : trip? d with
    | none => rw [e] at q; cases q
    | some p => exact ht p.1 p.2.1 p.2.2
  · unfold un3
    cases e : trip? d with
    | none => rw [e] at q; cases q
    | some p => exact he p.1 p.2.1 p.2.2
  · congr; funext l; congr; funext xs
    exact lc_mapIf xs
end

/-! ### statements -/
/-- how a block ends: on, with an answer, out of the loop, to the next turn -/
inductive Ct (S : Type) where
  | nx (s : S)
  | rt (d : PyData)
  | bk (s : S)
  | ct (s : S)
/-- the box that was handed in -/
def Box0 (ρ : List Sl) (σ : L2.St) (b : Addr) : Prop := ρ[0]? = some .box ∧ σ[0]? = some (some (V.ref b))
/-- from one place of a body to a later one -/
structure Af (K : PySem.W.Frag) (ρ : List Sl) (σ : L2.St) (G H : Hp) (ρ' : List Sl) (σ' : L2.St) (G' H' : Hp) : Prop where
  gr : Gr (Owns ρ σ) G H G' H'
  st : Sta K G' H' ρ' σ'
  ow : ∀ a, Owns ρ' σ' a → Owns ρ σ a ∨ H a = none
  bx : ∀ b, Box0 ρ σ b → Box0 ρ' σ' b
theorem Af.refl (S : Sta K G H ρ σ) : Af K ρ σ G H ρ σ G H := ⟨Gr.refl, S, fun _ h => .inl h, fun _ h => h⟩
theorem Af.ev (g : Gr (Owns ρ σ) G H G1 H1) (S : Sta K G1 H1 ρ σ) : Af K ρ σ G H ρ σ G1 H1 := ⟨g, S, fun _ h => .inl h, fun _ h => h⟩
theorem Af.trans {ρ1 ρ2 : List Sl} {σ1 σ2 : L2.St} {G2 H2 : Hp} (a : Af K ρ σ G H ρ1 σ1 G1 H1) (b : Af K ρ1 σ1 G1 H1 ρ2 σ2 G2 H2) : Af K ρ σ G H ρ2 σ2 G2 H2 := by
  refine ⟨a.gr.trans b.gr a.ow, b.st, fun x h => ?_, fun x h => b.bx x (a.bx x h)⟩
  rcases b.ow x h with h | h
  · exact a.ow x h
  · cases e : H x with
    | none => exact .inr rfl
    | some o => exact absurd h (a.gr.keep x (by rw [e]; exact fun z => nomatch z))
def OutP {S : Type} (K : PySem.W.Frag) (ρ : List Sl) (σ : L2.St) (G H : Hp) (ρ' : S → List Sl) (D : Ends) : Ct S → Prop
  | .nx s => ∀ σ' G' H', Af K ρ σ G H (ρ' s) σ' G' H' → D.nx σ' H'
  | .rt d => ∀ v G' H', Gr (Owns ρ σ) G H G' H' → Ex G' H' → (∀ b, Box0 ρ σ b → BoxOk K G' H' b) → Rp K G' v d → D.rt v H'
  | .bk s => ∀ σ' G' H', Af K ρ σ G H (ρ' s) σ' G' H' → D.bk σ' H'
  | .ct s => ∀ σ' G' H', Af K ρ σ G H (ρ' s) σ' G' H' → D.ct σ' H'
def StG {S β : Type} (K : PySem.W.Frag) (cl : Ek → Addr) (E : L2.St → Option XK) (oc : β → Ct S) (ρ' : S → List Sl) (ts : TS) (ρ : List Sl) (t : Tr β) : Prop :=
  ∀ G H σ, Sta K G H ρ σ → ∀ D : Ends, t.wp (fun b => OutP K ρ σ G H ρ' D (oc b)) (Xo cl (E σ) (Owns ρ σ) H) → ts D σ H
section
variable {S β : Type} {oc : β → Ct S} {ρ' : S → List Sl} {ρ1 : List Sl} {σ1 : L2.St} {D : Ends}
theorem OutP.up (a : Af K ρ σ G H ρ1 σ1 G1 H1) : ∀ {c : Ct S}, OutP K ρ σ G H ρ' D c → OutP K ρ1 σ1 G1 H1 ρ' D c
  | .nx s, h => fun σ' G' H' b => h σ' G' H' (a.trans b)
  | .rt d, h => fun v G' H' g e hb r => h v G' H' (a.gr.trans g a.ow) e (fun b z => hb b (a.bx b z)) r
  | .bk s, h => fun σ' G' H' b => h σ' G' H' (a.trans b)
  | .ct s, h => fun σ' G' H' b => h σ' G' H' (a.trans b)
theorem Af.xo {E : Option XK} (a : Af K ρ σ G H ρ1 σ1 G1 H1) {c : Ek} (h : Xo cl E (Owns ρ σ) H c) : Xo cl E (Owns ρ1 σ1) H1 c := by
  cases E with
  | none => exact h
  | some E => exact fun H' k => h H' fun x o hn hx => k x o (fun z => by
      rcases a.ow x z with z | z
      · exact hn z
      · rw [hx] at z
        cases z) (a.gr.fr x o hn hx)
theorem upS (hE : ∀ a b, E a = E b) (a : Af K ρ σ G H ρ1 σ1 G1 H1) {t : Tr β} (h : t.wp (fun b => OutP K ρ σ G H ρ' D (oc b)) (Xo cl (E σ) (Owns ρ σ) H)) : t.wp (fun b => OutP K ρ1 σ1 G1 H1 ρ' D (oc b)) (Xo cl (E σ1) (Owns ρ1 σ1) H1) :=
  Tr.wp_mono (fun _ => OutP.up a) (fun _ q => by rw [hE σ1 σ]; exact a.xo q) h
/-- an expression, then what the statement makes of it -/
theorem EvG.then {W α : Type} {Rel : Hp → W → α → Prop} {te : L2.St → Hp → (W → Hp → Prop) → Prop} {f : Tr α} {g : α → Tr β} (h : EvG K cl E Rel te ρ f) (hS : Sta K G H ρ σ) {R : W → Hp → Prop}
    (hw : (f.bind g).wp (fun b => OutP K ρ σ G H ρ' D (oc b)) (Xo cl (E σ) (Owns ρ σ) H))
    (k : ∀ d v G1 H1, Af K ρ σ G H ρ σ G1 H1 → Rel G1 v d → (g d).wp (fun b => OutP K ρ σ G1 H1 ρ' D (oc b)) (Xo cl (E σ) (Owns ρ σ) H1) → R v H1) : te σ H R :=
  h G H σ hS R (Tr.wp_mono (fun d hd v G' H' g' S' r => k d v G' H' (.ev g' S') r (Tr.wp_mono (fun _ => OutP.up (.ev g' S')) (fun _ => (Af.ev g' S').xo) hd)) (fun _ x => x) (Tr.wp_bind.mp hw))
/-- the end of a block -/
inductive Wk : List Sl → List Sl → Prop
  | nil : Wk [] []
  | same (s : Sl) {a b : List Sl} : Wk a b → Wk (s :: a) (s :: b)
  | any {s : Sl} {a b : List Sl} (h : (match s with | .box => false | _ => true) = true) : Wk a b → Wk (s :: a) (.any :: b)
theorem Wk.len : ∀ {a b : List Sl}, Wk a b → a.length = b.length
  | _, _, .nil => rfl
  | _, _, .same _ h => congrArg (· + 1) h.len
  | _, _, .any _ h => congrArg (· + 1) h.len
theorem Wk.at : ∀ {a b : List Sl}, Wk a b → ∀ (i : Nat) (s : Sl), b[i]? = some s → a[i]? = some s ∨ s = .any
  | _, _, .nil, i, s, e => by simp at e
  | _, _, .same t h, 0, s, e => by
    simp at e
    subst e
    exact .inl rfl
  | _, _, .same t h, i + 1, s, e => by
    simpa using h.at i s (by simpa using e)
  | _, _, .any q h, 0, s, e => by
    simp at e
    exact .inr e.symm
  | _, _, .any q h, i + 1, s, e => by
    simpa using h.at i s (by simpa using e)
theorem Wk.box : ∀ {a b : List Sl}, Wk a b → a[0]? = some .box → b[0]? = some .box
  | _, _, .nil, e => by simp at e
  | _, _, .same t h, e => e
  | _, _, .any q h, e => by
    simp at e
    subst e
    cases q
theorem Wk.af {ρ1 : List Sl} (w : Wk ρ ρ1) (hS : Sta K G H ρ σ) : Af K ρ σ G H ρ1 σ G H := by
  refine ⟨Gr.refl, ⟨by rw [← w.len]; exact hS.len, hS.sub, fun i s o h1 h2 => ?_, fun i j si sj a h1 h2 h3 h4 h5 h6 => ?_⟩, fun a h => .inl ?_, fun b h => ⟨w.box h.1, h.2⟩⟩
  · rcases w.at i s h1 with h | h
    · exact hS.ok i s o h h2
    · subst h
      trivial
  · rcases w.at i si h1 with q1 | q1
    · rcases w.at j sj h2 with q2 | q2
      · exact hS.dis i j si sj a q1 q2 h3 h4 h5 h6
      · subst q2
        cases h4
    · subst q1
      cases h3
  · obtain ⟨i, s, h1, h2, h3⟩ := h
    rcases w.at i s h1 with q | q
    · exact ⟨i, s, q, h2, h3⟩
    · subst q
      cases h2
theorem st_nx {b : β} {s : S} (h : oc b = .nx s) (w : Wk ρ (ρ' s)) : StG K cl E oc ρ' tNext ρ (.ret b) := fun G H σ hS D q => by
  have q' : OutP K ρ σ G H ρ' D (oc b) := q
  rw [h] at q'
  exact q' σ G H (w.af hS)
theorem st_ct {b : β} {s : S} {u : TS} (h : oc b = .ct s) (w : Wk ρ (ρ' s)) : StG K cl E oc ρ' (tSeq tCont u) ρ (.ret b) := fun G H σ hS D q => by
  have q' : OutP K ρ σ G H ρ' D (oc b) := q
  rw [h] at q'
  exact q' σ G H (w.af hS)
theorem st_bk {b : β} {s : S} {u : TS} (h : oc b = .bk s) (w : Wk ρ (ρ' s)) : StG K cl E oc ρ' (tSeq tBreak u) ρ (.ret b) := fun G H σ hS D q => by
  have q' : OutP K ρ σ G H ρ' D (oc b) := q
  rw [h] at q'
  exact q' σ G H (w.af hS)
theorem rt_out {r : PyData → β} (hr : ∀ d, oc (r d) = .rt d) {te : TE} {f : Tr PyData} (h : Ev K cl E te ρ f) (hS : Sta K G H ρ σ) (q : (f.bind fun d => Tr.ret (r d)).wp (fun b => OutP K ρ σ G H ρ' D (oc b)) (Xo cl (E σ) (Owns ρ σ) H)) : te σ H D.rt :=
  h.then (g := fun d => Tr.ret (r d)) hS q fun d v G1 H1 a rv w => by
    have w' : OutP K ρ σ G1 H1 ρ' D (oc (r d)) := w
    rw [hr d] at w'
    refine w' v G1 H1 Gr.refl a.st.sub (fun b z => ?_) rv
    obtain ⟨o, h1, b', e, hb⟩ := a.st.var z.1
    rw [z.2] at h1
    cases h1
    cases e
    exact hb
/-- return e: where more may follow in a loop -/
theorem st_rt {r : PyData → β} (hr : ∀ d, oc (r d) = .rt d) {te : TE} {f : Tr PyData} {u : TS} (h : Ev K cl E te ρ f) : StG K cl E oc ρ' (tSeq (tRet te) u) ρ (f.bind fun d => .ret (r d)) := fun G H σ hS D q => rt_out (D := D) hr h hS q
theorem st_rtN {r : PyData → β} (hr : ∀ d, oc (r d) = .rt d) {u : TS} : StG K cl E oc ρ' (tSeq tRetN u) ρ (.ret (r .none)) := fun G H σ hS D q => by
  have q' : OutP K ρ σ G H ρ' D (oc (r .none)) := q
  rw [hr .none] at q'
  refine q' .non G H Gr.refl hS.sub (fun b z => ?_) .non
  obtain ⟨o, h1, b', e, hb⟩ := hS.var z.1
  rw [z.2] at h1
  cases h1
  cases e
  exact hb
/-- name = e -/
theorem st_asg (hE : ∀ a b, E a = E b) {i : Nat} {te : TE} {f : Tr PyData} {g : PyData → Tr β} {u : TS} (h : Ev K cl E te ρ f) (k : ∀ d, StG K cl E oc ρ' u (ρ.set i (.dat d)) (g d)) (n : nown ρ i = true := by rfl) : StG K cl E oc ρ' (tSeq (tAsg te (gName i)) u) ρ (f.bind g) :=
  fun G H σ hS D q => h.then (g := g) hS q fun d v G1 H1 a rv w => by
    have kp := kp_put (σ := σ) (v := v) (d := d) n
    have a2 : Af K ρ σ G1 H1 (ρ.set i (.dat d)) (σ.set i (some v)) G1 H1 := ⟨Gr.refl, a.st.put rv, fun x z => .inl (kp.bwd x z), fun b z => by
      obtain ⟨q1, q2⟩ := kp.fwd 0 .box z.1 rfl
      exact ⟨q1, q2.trans z.2⟩⟩
    exact k d G1 H1 (σ.set i (some v)) (a.st.put rv) D (upS hE a2 w)
/-- if c: (it ends) -/
theorem st_if {tc : TT} {t u : TS} {fc : Tr Bool} {ft fu : Tr β} (hc : EvT K cl E tc ρ fc) (ht : StG K cl E oc ρ' t ρ ft) (hu : StG K cl E oc ρ' u ρ fu) (nn : ∀ (D : Ends) (n : L2.St → Hp → Prop), t { D with nx := n } = t D := by intros; rfl) :
    StG K cl E oc ρ' (tSeq (tIfS tc t tNext) u) ρ (fc.bind fun b => if b then ft else fu) := fun G H σ hS D q => hc.then (g := fun b => if b then ft else fu) hS q fun b b' G1 H1 a e w => by
  cases e
  cases b with
  | true =>
    show t { D with nx := u D } σ H1
    rw [nn]
    exact ht G1 H1 σ a.st D w
  | false => exact hu G1 H1 σ a.st D w
/-- if c: .. else: .., both end -/
theorem st_if2 {tc : TT} {t t2 u : TS} {fc : Tr Bool} {ft fu : Tr β} (hc : EvT K cl E tc ρ fc) (ht : StG K cl E oc ρ' t ρ ft) (hu : StG K cl E oc ρ' t2 ρ fu) (nn : ∀ (D : Ends) (n : L2.St → Hp → Prop), t { D with nx := n } = t D := by intros; rfl) (nn2 : ∀ (D : Ends) (n : L2.St → Hp → Prop), t2 { D with nx := n } = t2 D := by intros; rfl) :
    StG K cl E oc ρ' (tSeq (tIfS tc t t2) u) ρ (fc.bind fun b => if b then ft else fu) := fun G H σ hS D q => hc.then (g := fun b => if b then ft else fu) hS q fun b b' G1 H1 a e w => by
  cases e
  cases b with
  | true =>
    show t { D with nx := u D } σ H1
    rw [nn]
    exact ht G1 H1 σ a.st D w
  | false =>
    show t2 { D with nx := u D } σ H1
    rw [nn2]
    exact hu G1 H1 σ a.st D w
/-- if c: .. else: .., both go on; s is what they leave -/
theorem st_ifj (hE : ∀ a b, E a = E b) {S1 : Type} {ρs : S1 → List Sl} {tc : TT} {t t2 u : TS} {fc : Tr Bool} {ft fu : Tr S1} {k : S1 → Tr β} (hc : EvT K cl E tc ρ fc) (ht : StG K cl E Ct.nx ρs t ρ ft) (hu : StG K cl E Ct.nx ρs t2 ρ fu) (hk : ∀ s, StG K cl E oc ρ' u (ρs s) (k s)) :
    StG K cl E oc ρ' (tSeq (tIfS tc t t2) u) ρ (fc.bind fun b => (if b then ft else fu).bind k) := fun G H σ hS D q => hc.then (g := fun b => (if b then ft else fu).bind k) hS q fun b b' G1 H1 a e w => by
  cases e
  have go : ∀ {t : TS} {f : Tr S1}, StG K cl E Ct.nx ρs t ρ f → (f.bind k).wp (fun b => OutP K ρ σ G1 H1 ρ' D (oc b)) (Xo cl (E σ) (Owns ρ σ) H1) → t { D with nx := u D } σ H1 := fun ht w =>
    ht G1 H1 σ a.st _ (Tr.wp_mono (fun s hs σ' G' H' a2 => hk s G' H' σ' a2.st D (upS hE a2 hs)) (fun _ z => z) (Tr.wp_bind.mp w))
  cases b with
  | true => exact go ht w
  | false => exact go hu w
/-- the same where a branch may also end -/
def andThen {S1 : Type} (r : PyData → β) (f : Tr (Ct S1)) (k : S1 → Tr β) : Tr β := f.bind fun c => match c with
  | .nx s => k s
  | .rt d => .ret (r d)
  | .bk _ => .bad
  | .ct _ => .bad
theorem st_ifc (hE : ∀ a b, E a = E b) {S1 : Type} {ρs : S1 → List Sl} {r : PyData → β} (hr : ∀ d, oc (r d) = .rt d) {tc : TT} {t t2 u : TS} {fc : Tr Bool} {ft fu : Tr (Ct S1)} {k : S1 → Tr β} (hc : EvT K cl E tc ρ fc) (ht : StG K cl E id ρs t ρ ft) (hu : StG K cl E id ρs t2 ρ fu) (hk : ∀ s, StG K cl E oc ρ' u (ρs s) (k s)) :
    StG K cl E oc ρ' (tSeq (tIfS tc t t2) u) ρ (fc.bind fun b => andThen r (if b then ft else fu) k) := fun G H σ hS D q => hc.then (g := fun b => andThen r (if b then ft else fu) k) hS q fun b b' G1 H1 a e w => by
  cases e
  have go : ∀ {t : TS} {f : Tr (Ct S1)}, StG K cl E id ρs t ρ f → (andThen r f k).wp (fun b => OutP K ρ σ G1 H1 ρ' D (oc b)) (Xo cl (E σ) (Owns ρ σ) H1) → t { D with nx := u D } σ H1 := fun ht w =>
    ht G1 H1 σ a.st _ (Tr.wp_mono (fun c hs => by
      cases c with
      | nx s => exact fun σ' G' H' a2 => hk s G' H' σ' a2.st D (upS hE a2 hs)
      | rt d =>
        have hs' : OutP K ρ σ G1 H1 ρ' D (oc (r d)) := hs
        rw [hr d] at hs'
        exact hs'
      | bk _ => exact hs.elim
      | ct _ => exact hs.elim) (fun _ z => z) (Tr.wp_bind.mp w))
  cases b with
  | true => exact go ht w
  | false => exact go hu w
/-- e, its answer dropped -/
theorem st_drop (hE : ∀ a b, E a = E b) {te : TE} {f : Tr PyData} {g : Tr β} {u : TS} (h : Ev K cl E te ρ f) (k : StG K cl E oc ρ' u ρ g) : StG K cl E oc ρ' (tSeq (tDrop te) u) ρ (f.bind fun _ => g) :=
  fun G H σ hS D q => h.then (g := fun _ => g) hS q fun d v G1 H1 a rv w => k G1 H1 σ a.st D w
/-- name op= e, whole numbers -/
theorem st_aug (hE : ∀ a b, E a = E b) {i : Nat} {x : PyData} {op : Int → Int → Int} {te : TE} {f : Tr PyData} {g : PyData → Tr β} {u : TS} (hx : ρ[i]? = some (.dat x)) (h : Ev K cl E te ρ f) (k : ∀ d, StG K cl E oc ρ' u (ρ.set i (.dat d)) (g d)) :
    StG K cl E oc ρ' (tSeq (tAug i te (ipI op)) u) ρ (f.bind fun y => (asI x).bind fun a => (asI y).bind fun b => g (.int (op a b))) := fun G H σ hS D q => by
  obtain ⟨o, h1, vx, e, rx⟩ := hS.var hx
  subst e
  refine ⟨vx, h1, h.then (g := fun y => (asI x).bind fun a => (asI y).bind fun b => g (.int (op a b))) hS q fun d v G1 H1 a rv w => ?_⟩
  cases rx with
  | int m =>
    cases rv with
    | int n =>
      refine ⟨m, n, rfl, rfl, ?_⟩
      have nn : nown ρ i = true := by
        unfold nown
        rw [hx]
        rfl
      have rz : Rp K G1 (.int (op m n)) (.int (op m n)) := .int _
      have kp := kp_put (σ := σ) (v := .int (op m n)) (d := .int (op m n)) nn
      have a2 : Af K ρ σ G1 H1 (ρ.set i (.dat (.int (op m n)))) (σ.set i (some (.int (op m n)))) G1 H1 := ⟨Gr.refl, a.st.put rz, fun x z => .inl (kp.bwd x z), fun b z => by
        obtain ⟨q1, q2⟩ := kp.fwd 0 .box z.1 rfl
        exact ⟨q1, q2.trans z.2⟩⟩
      exact k _ G1 H1 _ (a.st.put rz) D (upS hE a2 w)
    | _ => exact w.elim
  | _ => exact w.elim

/-! ### loops -/
def forC {α S' : Type} (r : PyData → β) (f : α → S' → Tr (Ct S')) (k : S' → Tr β) : List α → S' → Tr β
  | [], s => k s
  | x :: xs, s => (f x s).bind fun c => match c with
    | .nx s' => forC r f k xs s'
    | .ct s' => forC r f k xs s'
    | .bk s' => k s'
    | .rt d => .ret (r d)
def forN {α S' : Type} (f : α → S' → Tr S') : List α → S' → Tr S'
  | [], s => .ret s
  | x :: xs, s => (f x s).bind fun s' => forN f xs s'
theorem forC_N {α S' : Type} {r : PyData → β} (f : α → S' → Tr S') (k : S' → Tr β) : ∀ (xs : List α) (s : S'), forC r (fun x s => (f x s).bind fun s' => .ret (.nx s')) k xs s = (forN f xs s).bind k
  | [], s => rfl
  | x :: xs, s => by
    show (((f x s).bind fun s' => Tr.ret (Ct.nx s')).bind _) = ((f x s).bind fun s' => forN f xs s').bind k
    rw [Tr.bind_assoc, Tr.bind_assoc]
    congr
    funext s'
    exact forC_N f k xs s'
theorem StG.nxs {S1 : Type} {ρs : S1 → List Sl} {t : TS} {f : Tr S1} (h : StG K cl E Ct.nx ρs t ρ f) : StG K cl E id ρs t ρ (f.bind fun s => .ret (.nx s)) := fun G H σ hS D q => h G H σ hS D (Tr.wp_mono (fun _ z => z) (fun _ z => z) (Tr.wp_bind.mp q))
theorem for_turn (hE : ∀ a b, E a = E b) {S1 : Type} {ρs : S1 → List Sl} {g : TG} {vs : List Nat} {ok : PyData → Bool} {ρb : S1 → PyData → List Sl} {r : PyData → β} (hr : ∀ d, oc (r d) = .rt d) {tb : TS} {f : PyData → S1 → Tr (Ct S1)} {k : S1 → Tr β} (tg : ∀ s, Tg K g vs (ρs s) (ρb s) ok) (hb : ∀ d s, ok d = false → f d s = .bad)
    (hf : ∀ d s, ok d = true → StG K cl E id ρs tb (ρb s d) (f d s)) {ds : List PyData} {d : PyData} {s : S1} {x : V} {σ' : L2.St} {G' H' : Hp} (a : Af K ρ σ G H (ρs s) σ' G' H') (rx : Rp K G' x d) {Pn : L2.St → Hp → Prop}
    (hn : ∀ s2 σ2 G2 H2, Af K ρ σ G H (ρs s2) σ2 G2 H2 → (forC r f k ds s2).wp (fun b => OutP K ρ σ G H ρ' D (oc b)) (Xo cl (E σ) (Owns ρ σ) H) → Pn σ2 H2) {De : Ends} (ert : De.rt = D.rt)
    (hk : ∀ s2 σ2 G2 H2, Af K ρ σ G H (ρs s2) σ2 G2 H2 → (k s2).wp (fun b => OutP K ρ σ G H ρ' D (oc b)) (Xo cl (E σ) (Owns ρ σ) H) → De.nx σ2 H2)
    (h : (forC r f k (d :: ds) s).wp (fun b => OutP K ρ σ G H ρ' D (oc b)) (Xo cl (E σ) (Owns ρ σ) H)) : g x σ' H' fun σ2 H2 => tb { De with nx := Pn, ct := Pn, bk := De.nx } σ2 H2 := by
  have hok : ok d = true := by
    cases q : ok d with
    | true => rfl
    | false =>
      have h' : ((f d s).bind fun c => match c with
        | .nx s' => forC r f k ds s'
        | .ct s' => forC r f k ds s'
        | .bk s' => k s'
        | .rt d => .ret (r d)).wp (fun b => OutP K ρ σ G H ρ' D (oc b)) (Xo cl (E σ) (Owns ρ σ) H) := h
      rw [hb d s q] at h'
      exact h'.elim
  refine tg s G' H' σ' x d _ a.st rx hok fun σ2 S2 kp _ => ?_
  have a2 : Af K ρ σ G H (ρb s d) σ2 G' H' := a.trans ⟨Gr.refl, S2, fun x z => .inl (kp.bwd x z), fun b z => by
    obtain ⟨q1, q2⟩ := kp.fwd 0 .box z.1 rfl
    exact ⟨q1, q2.trans z.2⟩⟩
  refine hf d s hok G' H' σ2 S2 _ (Tr.wp_mono (fun c hc => ?_) (fun e he => by rw [hE σ2 σ]; exact a2.xo he) (Tr.wp_bind.mp h))
  cases c with
  | nx s2 => exact fun σ3 G3 H3 a3 => hn s2 σ3 G3 H3 (a2.trans a3) hc
  | ct s2 => exact fun σ3 G3 H3 a3 => hn s2 σ3 G3 H3 (a2.trans a3) hc
  | bk s2 => exact fun σ3 G3 H3 a3 => hk s2 σ3 G3 H3 (a2.trans a3) hc
  | rt d2 =>
    have hc' : OutP K ρ σ G H ρ' D (oc (r d2)) := hc
    rw [hr d2] at hc'
    have h2 := OutP.up (ρ' := ρ') a2 (c := Ct.rt d2) hc'
    show OutP K (ρb s d) σ2 G' H' ρs _ (Ct.rt d2)
    intro v G3 H3 g3 e3 hb3 r3
    show De.rt v H3
    rw [ert]
    exact h2 v G3 H3 g3 e3 hb3 r3
/-- for target in a list or a tuple -/
theorem st_forS (hE : ∀ a b, E a = E b) {S1 : Type} {ρs : S1 → List Sl} {g : TG} {vs : List Nat} {ok : PyData → Bool} {ρb : S1 → PyData → List Sl} {r : PyData → β} (hr : ∀ d, oc (r d) = .rt d) {tl : TE} {tb u : TS} {fl : Tr PyData} {f : PyData → S1 → Tr (Ct S1)} {k : S1 → Tr β} {s0 : S1} (hl : Ev K cl E tl ρ fl) (w : Wk ρ (ρs s0))
    (tg : ∀ s, Tg K g vs (ρs s) (ρb s) ok) (hb : ∀ d s, ok d = false → f d s = .bad) (hf : ∀ d s, ok d = true → StG K cl E id ρs tb (ρb s d) (f d s)) (hk : ∀ s, StG K cl E oc ρ' u (ρs s) (k s)) :
    StG K cl E oc ρ' (tSeq (tFor (iSeq K tl) g tb) u) ρ (fl.bind fun l => (items l).bind fun xs => forC r f k xs s0) := fun G H σ hS D q => hl.then (g := fun l => (items l).bind fun xs => forC r f k xs s0) hS q fun l x G1 H1 a rx w1 => by
  have fin : ∀ s2 σ2 G2 H2, Af K ρ σ G1 H1 (ρs s2) σ2 G2 H2 → (k s2).wp (fun b => OutP K ρ σ G1 H1 ρ' D (oc b)) (Xo cl (E σ) (Owns ρ σ) H1) → u D σ2 H2 := fun s2 σ2 G2 H2 a2 q2 => hk s2 G2 H2 σ2 a2.st D (upS hE a2 q2)
  cases rx with
  | @lst p xs ds hs hz ha =>
    refine ⟨p, rfl, .inl ⟨⟨xs, a.st.sub.l hs⟩, for_list (K := K) (a := p) (xs := xs) (D := { D with nx := u D }) (fun i σ' H' => ∃ G' s, Af K ρ σ G1 H1 (ρs s) σ' G' H' ∧ (forC r f k (ds.drop i) s).wp (fun b => OutP K ρ σ G1 H1 ρ' D (oc b)) (Xo cl (E σ) (Owns ρ σ) H1))
      ⟨G1, s0, w.af a.st, w1⟩ (fun i σ' H' _ ⟨G', s, a2, _⟩ => a2.st.sub.l (a2.gr.ex.l hs)) (fun i x σ' H' hi ⟨G', s, a2, q2⟩ => ?_) fun σ' H' ⟨G', s, a2, q2⟩ => ?_⟩⟩
    · obtain ⟨d, hd, rd⟩ := ha.getV hi
      rw [drop_cons hd] at q2
      exact for_turn (D := D) (De := { D with nx := u D }) hE hr tg hb hf a2 (rd.mono a2.gr.ex) (fun s2 σ2 G2 H2 a3 q3 => ⟨G2, s2, a3, q3⟩) rfl fin q2
    · rw [ha.len, List.drop_length] at q2
      exact fin s σ' G' H' a2 q2
  | @tup p xs ds hs hz ha =>
    refine ⟨p, rfl, .inr ⟨⟨xs, a.st.sub.t hs⟩, for_tup (K := K) (a := p) (xs := xs) (D := { D with nx := u D }) (fun i σ' H' => ∃ G' s, Af K ρ σ G1 H1 (ρs s) σ' G' H' ∧ (forC r f k (ds.drop i) s).wp (fun b => OutP K ρ σ G1 H1 ρ' D (oc b)) (Xo cl (E σ) (Owns ρ σ) H1))
      ⟨G1, s0, w.af a.st, w1⟩ (fun i σ' H' _ ⟨G', s, a2, _⟩ => a2.st.sub.t (a2.gr.ex.t hs)) (fun i x σ' H' hi ⟨G', s, a2, q2⟩ => ?_) fun σ' H' ⟨G', s, a2, q2⟩ => ?_⟩⟩
    · obtain ⟨d, hd, rd⟩ := ha.getV hi
      rw [drop_cons hd] at q2
      exact for_turn (D := D) (De := { D with nx := u D }) hE hr tg hb hf a2 (rd.mono a2.gr.ex) (fun s2 σ2 G2 H2 a3 q3 => ⟨G2, s2, a3, q3⟩) rfl fin q2
    · rw [ha.len, List.drop_length] at q2
      exact fin s σ' G' H' a2 q2
  | _ => exact w1.elim
theorem for_rng (hE : ∀ a b, E a = E b) {S1 : Type} {ρs : S1 → List Sl} {g : TG} {vs : List Nat} {ok : PyData → Bool} {ρb : S1 → PyData → List Sl} {r : PyData → β} (hr : ∀ d, oc (r d) = .rt d) {tb u : TS} {f : PyData → S1 → Tr (Ct S1)} {k : S1 → Tr β} {s0 : S1} (hS : Sta K G1 H1 ρ σ) (w : Wk ρ (ρs s0))
    (tg : ∀ s, Tg K g vs (ρs s) (ρb s) ok) (hb : ∀ d s, ok d = false → f d s = .bad) (hf : ∀ d s, ok d = true → StG K cl E id ρs tb (ρb s d) (f d s)) (hk : ∀ s, StG K cl E oc ρ' u (ρs s) (k s)) {lo : Int} {n : Nat}
    (w1 : (forC r f k (rng lo n) s0).wp (fun b => OutP K ρ σ G1 H1 ρ' D (oc b)) (Xo cl (E σ) (Owns ρ σ) H1)) :
    ∃ W : Nat → Nat → L2.St → Hp → Prop, (∃ m, W 0 m σ H1) ∧ ∀ i m σ H, W i m σ H →
      ((Itr lo n).stop i H ∧ ({ D with nx := u D } : Ends).nx σ H) ∨ ((Itr lo n).go i H ∧ ∃ N : L2.St → Hp → Prop, (∀ σ' H', N σ' H' → ∃ m', m' < m ∧ W (i + 1) m' σ' H') ∧ ∀ x H', (Itr lo n).yld i H x H' → g x σ H' fun σ2 H2 => tb { ({ D with nx := u D } : Ends) with nx := N, ct := N, bk := ({ D with nx := u D } : Ends).nx } σ2 H2) := by
  have fin : ∀ s2 σ2 G2 H2, Af K ρ σ G1 H1 (ρs s2) σ2 G2 H2 → (k s2).wp (fun b => OutP K ρ σ G1 H1 ρ' D (oc b)) (Xo cl (E σ) (Owns ρ σ) H1) → u D σ2 H2 := fun s2 σ2 G2 H2 a2 q2 => hk s2 G2 H2 σ2 a2.st D (upS hE a2 q2)
  refine for_range (lo := lo) (n := n) (D := { D with nx := u D }) (fun i σ' H' => ∃ G' s, Af K ρ σ G1 H1 (ρs s) σ' G' H' ∧ (forC r f k ((rng lo n).drop i) s).wp (fun b => OutP K ρ σ G1 H1 ρ' D (oc b)) (Xo cl (E σ) (Owns ρ σ) H1))
    ⟨G1, s0, w.af hS, w1⟩ (fun i σ' H' hi ⟨G', s, a2, q2⟩ => ?_) fun σ' H' ⟨G', s, a2, q2⟩ => ?_
  · rw [drop_cons (rng_get hi)] at q2
    exact for_turn (D := D) (De := { D with nx := u D }) hE hr tg hb hf a2 (.int _) (fun s2 σ2 G2 H2 a3 q3 => ⟨G2, s2, a3, q3⟩) rfl fin q2
  · have e : (rng lo n).drop n = [] := List.drop_eq_nil_of_le (by rw [rng_len]; exact Nat.le_refl _)
    rw [e] at q2
    exact fin s σ' G' H' a2 q2
theorem st_forR1 (hE : ∀ a b, E a = E b) {S1 : Type} {ρs : S1 → List Sl} {g : TG} {vs : List Nat} {ok : PyData → Bool} {ρb : S1 → PyData → List Sl} {r : PyData → β} (hr : ∀ d, oc (r d) = .rt d) {ta : TE} {tb u : TS} {fa : Tr PyData} {f : PyData → S1 → Tr (Ct S1)} {k : S1 → Tr β} {s0 : S1} (ha : Ev K cl E ta ρ fa) (w : Wk ρ (ρs s0))
    (tg : ∀ s, Tg K g vs (ρs s) (ρb s) ok) (hb : ∀ d s, ok d = false → f d s = .bad) (hf : ∀ d s, ok d = true → StG K cl E id ρs tb (ρb s d) (f d s)) (hk : ∀ s, StG K cl E oc ρ' u (ρs s) (k s)) :
    StG K cl E oc ρ' (tSeq (tFor (iRng1 (tCons ta tNil)) g tb) u) ρ (fa.bind fun a => (rangeT (.int 0) a).bind fun xs => forC r f k xs s0) := fun G H σ hS D q => ha.then (g := fun a => (rangeT (.int 0) a).bind fun xs => forC r f k xs s0) hS q fun a x G1 H1 af rx w1 => by
  cases rx with
  | int b =>
    have h2 : ((if -(2 ^ 61) ≤ (0 : Int) ∧ (0 : Int) ≤ 2 ^ 61 ∧ -(2 ^ 61) ≤ b ∧ b ≤ 2 ^ 61 ∧ b - 0 ≤ 1000000 then Tr.ret (rng 0 (b - 0).toNat) else .bad).bind fun xs => forC r f k xs s0).wp (fun b => OutP K ρ σ G1 H1 ρ' D (oc b)) (Xo cl (E σ) (Owns ρ σ) H1) := w1
    split at h2
    · refine ⟨b, rfl, by omega, by omega, ?_⟩
      have e : (b - 0).toNat = b.toNat := by omega
      rw [e] at h2
      exact for_rng hE hr af.st w tg hb hf hk h2
    · exact h2.elim
  | _ => exact w1.elim
theorem st_forR2 (hE : ∀ a b, E a = E b) {S1 : Type} {ρs : S1 → List Sl} {g : TG} {vs : List Nat} {ok : PyData → Bool} {ρb : S1 → PyData → List Sl} {r : PyData → β} (hr : ∀ d, oc (r d) = .rt d) {ta tb2 : TE} {tb u : TS} {fa fb : Tr PyData} {f : PyData → S1 → Tr (Ct S1)} {k : S1 → Tr β} {s0 : S1} (ha : Ev K cl E ta ρ fa) (hb2 : Ev K cl E tb2 ρ fb) (w : Wk ρ (ρs s0))
    (tg : ∀ s, Tg K g vs (ρs s) (ρb s) ok) (hb : ∀ d s, ok d = false → f d s = .bad) (hf : ∀ d s, ok d = true → StG K cl E id ρs tb (ρb s d) (f d s)) (hk : ∀ s, StG K cl E oc ρ' u (ρs s) (k s)) :
    StG K cl E oc ρ' (tSeq (tFor (iRng2 (tCons ta (tCons tb2 tNil))) g tb) u) ρ (fa.bind fun a => fb.bind fun b => (rangeT a b).bind fun xs => forC r f k xs s0) := fun G H σ hS D q => ha.then (g := fun a => fb.bind fun b => (rangeT a b).bind fun xs => forC r f k xs s0) hS q fun a x G1 H1 af rx w1 => hb2.then (g := fun b => (rangeT a b).bind fun xs => forC r f k xs s0) af.st w1 fun b y G2 H2 af2 ry w2 => by
  cases rx with
  | int a =>
    cases ry with
    | int b =>
      have h3 : ((if -(2 ^ 61) ≤ a ∧ a ≤ 2 ^ 61 ∧ -(2 ^ 61) ≤ b ∧ b ≤ 2 ^ 61 ∧ b - a ≤ 1000000 then Tr.ret (rng a (b - a).toNat) else .bad).bind fun xs => forC r f k xs s0).wp (fun b => OutP K ρ σ G2 H2 ρ' D (oc b)) (Xo cl (E σ) (Owns ρ σ) H2) := w2
      split at h3
      · exact ⟨a, b, rfl, ⟨by omega, by omega, by omega, by omega⟩, for_rng hE hr af2.st w tg hb hf hk h3⟩
      · exact h3.elim
    | _ => exact w2.elim
  | _ =>
    cases ry <;> exact w2.elim
end
end
end Cg
/-! Errors of the program's own classes that are made with no argument: what is kept of the object on its way is its class and its empty tuple of arguments (at d). -/
namespace Cgx
open PySem PySem.Spec PyProof.Rows L2
def ArgsAt (t : Addr) (o : Obj) : Prop := ∀ vs : Array Value, o.data = .fields vs → vs[0]? = some (.ref t)
theorem steady_args {t : Addr} : PXN.Steady1 (ArgsAt t) := fun o v h => by
  obtain ⟨c, d, dt, sl⟩ := o
  intro vs e
  cases dt with
  | fields vs0 =>
    have e2 : vs0.setIfInBounds 1 v = vs := Data.fields.inj e
    rw [← e2, Array.getElem?_setIfInBounds_ne (by decide)]
    exact h vs0 rfl
  | _ => exact Data.noConfusion e
/-- class, no dict, no context, the arguments' tuple at d -/
def Zt (cls : Value) (d : Option Addr) : Obj → Prop := fun o => o.cls = cls ∧ o.dict = none ∧ PXN.CtxN o ∧ ∃ t, d = some t ∧ ArgsAt t o
theorem Zt.steady {cls : Value} {d : Option Addr} : PXN.Steady1 (Zt cls d) := fun o v ⟨h1, h2, h3, t, e, h4⟩ => ⟨PXN.steady_cls o v h1, PXN.steady_dict o v h2, PXN.steady_ctx o v h3, t, e, steady_args o v h4⟩

/-- an error in the air over X: sI is the state without it -/
structure Air (X : Cx) (W : WX) (u : Value) (s' : Shared) (a : Addr) (B : Heap) (sI : Shared) (pins : List (Addr × Obj)) (σ : L2.St) (H : Hp) (cls : Value) (d : Option Addr) : Prop where
  eq : u = .ref a
  inv : Inv X pins σ H sI
  gr : ∀ b o, sI.heap.get? b = some o → b ∉ frs X.stack → B.get? b = some o
  up : sI.heap.UpToSlots s'.heap
  sky : Sky B X.stack a (Zt cls d) X.env.locals s'.heap
  na : H a = none
  os : s'.os = sI.os
  ag : AllBare s'.gens
  w : W cls d σ H
def Flies (X : Cx) (W : WX) (u : Value) (s' : Shared) : Prop := ∃ a B sI pins σ H cls d, Air X W u s' a B sI pins σ H cls d
def Lets (X : Cx) (W : WX) : Prop := ∀ u s', Flies X W u s' → X.xe u s'
/-- behind a call that let an error out -/
def CT (P : Program) (w : World) (outer : List Env) (H : Hp) (s : Shared) (E : XK) (u : Value) (s' : Shared) : Prop :=
  ∃ (a : Addr) (B : Heap) (H' : Hp) (cls : Value) (d : Option Addr), u = .ref a ∧ HandSPX.FlyingZ B outer a (Zt cls d) s'.heap ∧ HOk P w H' B ∧ UB (frs outer) H H' s.heap B s'.heap ∧ H' a = none ∧ s'.os = s.os ∧ AllBare s'.gens ∧ E cls d H'
section
variable {X : Cx} {pins : List (Addr × Obj)} {σ : L2.St} {H : Hp} {sI s s' : Shared} {B : Heap} {W : WX} {E : XK}
theorem flies_call (I : Inv X pins σ H s) (hW : ∀ cls d H', E cls d H' → W cls d σ H') {u : Value} (c : CT X.prog X.w X.stack H s E u s') : Flies X W u s' := by
  obtain ⟨a, B, H', cls, d, eu, fl, hok, ub, na, os, ag, hE⟩ := c
  -- what the ground and the running frames know of the heap
  obtain ⟨G, g1, g2⟩ := restrict s'.heap fun b => (B.get? b).isSome || decide (b ∈ frs X.stack)
  have gB : ∀ b o, B.get? b = some o → G.get? b = some o := fun b o e => (g1 b (by simp [e])).trans (fl.1 b o e)
  have gF : ∀ b, b ∈ frs X.stack → G.get? b = s'.heap.get? b := fun b hb => g1 b (by simp [hb])
  have gS : ∀ b o, G.get? b = some o → s'.heap.get? b = some o ∧ ((B.get? b).isSome = true ∨ b ∈ frs X.stack) := fun b o e => by
    by_cases q : ((B.get? b).isSome || decide (b ∈ frs X.stack)) = true
    · exact ⟨(g1 b q).symm.trans e, by simpa [Bool.or_eq_true] using q⟩
    · have z := g2 b (by simpa using q)
      rw [z] at e
      cases e
  have un : Un (frs X.stack) [] H H' s.heap G := ⟨fun b o e n hb _ => gB b o (ub.keep b o e n hb), fun b o e n hb _ => by
    obtain ⟨sl, q⟩ := ub.slot b o e hb
    exact ⟨sl, (gF b hb).trans q⟩, fun b o e n _ => ub.free b o e n, fun b o e _ => by
      by_cases hb : b ∈ frs X.stack
      · obtain ⟨sl, q⟩ := ub.slot b o e hb
        exact ⟨_, (gF b hb).trans q⟩
      · obtain ⟨o', q⟩ := ub.there b o e hb
        exact ⟨o', gB b o' q⟩, ub.tups, ub.frzs, ub.tbls⟩
  refine ⟨a, B, { s with heap := G, gens := s'.gens, drawn := s'.drawn, toks := s'.toks }, pins, σ, H', cls, d, eu, I.call (ch := []) un (hok.kept gB) ag (fun _ z => nomatch z), fun b o e hb => ?_, Heap.UpToSlots.of_keeps fun b o e => (gS b o e).1, .inr (.inl fl), na, os, ag, hW _ _ _ hE⟩
  obtain ⟨e', h⟩ := gS b o e
  rcases h with h | h
  · obtain ⟨o', q⟩ := Option.isSome_iff_exists.mp h
    have z := fl.1 b o' q
    rw [e'] at z
    rw [q, ← Option.some.inj z]
  · exact absurd h hb
theorem flies_new {a : Addr} {oe : Obj} {vs : Array Value} {cls : Value} {d : Option Addr} (I : Inv X pins σ H sI) (k : ∀ b o, sI.heap.get? b = some o → s'.heap.get? b = some o) (hne : sI.heap.get? a = none) (he : s'.heap.get? a = some oe)
    (hz : Zt cls d oe) (hd : oe.data = .fields vs) (h1 : vs[1]? = some .none) (na : H a = none) (os : s'.os = sI.os) (ag : AllBare s'.gens) (w : W cls d σ H) : Flies X W (.ref a) s' := by
  have hid : ∀ b o, (PySem.W.hideAll sI.heap (frs X.stack)).get? b = some o → sI.heap.get? b = some o := fun b o e => PySem.W.of_hideAll _ e
  have na' : (PySem.W.hideAll sI.heap (frs X.stack)).get? a = none := by
    cases q : (PySem.W.hideAll sI.heap (frs X.stack)).get? a with
    | none => rfl
    | some o =>
      have z := hid a o q
      rw [hne] at z
      cases z
  have ff := Heap.FunFrames.of_keeps (h' := s'.heap) (fun b o e _ => ⟨o, k b o e, rfl⟩) (funFrames_none I.stack fun b hb => PySem.W.hideAll_none (h := sI.heap) (frs X.stack) hb)
  exact ⟨a, _, sI, pins, σ, H, cls, d, rfl, I, fun b o e hb => PySem.W.hideAll_get _ e hb, Heap.UpToSlots.of_keeps k, .inl ⟨fun b o e => k b o (hid b o e), na', ff, oe, vs, he, hz, hd, h1⟩, na, os, ag, w⟩
theorem flies_out (hs : X.stack = X.env :: X.outer) (hf : X.env.frame = some X.env.locals) (hex : X.ex = []) {E₁ : Value → Shared → Prop} (hW : ∀ cls d σ H, W cls d σ H → E cls d H) {u : Value} (x : Flies X W u s') :
    wpAny (model X.prog X.w) X.A (leaving X.env u) (fun _ s'' => CT X.prog X.w X.outer X.H_0 X.s_0 E u s'') E₁ s' := by
  obtain ⟨a, B, sI, pins, σ, H, cls, d, rfl, I, nb, up, sky, na, os, ag, w⟩ := x
  have ok := I.ok
  have hfr : X.A.frames = some (X.env :: X.outer) := by rw [ok.frames, hs]
  have hx : ∀ b, b ∉ X.ex := fun b hb => by rw [hex] at hb; cases hb
  have old : ∀ b o, X.s_0.heap.get? b = some o → b ∉ X.fs → b ∉ frs X.stack := fun b o e hb hm => by
    rcases List.mem_cons.mp (I.stkSub b hm) with z | z
    · have h1 := Nat.lt_of_lt_of_le (Heap.lt_size e) ok.above
      rw [z] at h1
      exact Nat.lt_irrefl _ h1
    · exact hb z
  have done : ∀ h', HandSPX.FlyingZ B X.outer a (Zt cls d) h' → s'.heap.UpToSlots h' → CT X.prog X.w X.outer X.H_0 X.s_0 E (.ref a) { s' with heap := h' } := fun h' fl up' => by
    have slot : ∀ b o, X.s_0.heap.get? b = some o → b ∈ frs X.outer → ∃ sl, h'.get? b = some { o with slots := sl } := fun b o e hb => by
      obtain ⟨_, o0, e0, hnf⟩ := ok.funs.mem hb
      obtain rfl : o = o0 := Option.some.inj (e.symm.trans e0)
      obtain ⟨sl, e1⟩ := I.base.slot b o e (ok.frf b hb) hb (hx b)
      obtain ⟨sl2, e2⟩ := up b _ e1 hnf
      obtain ⟨sl3, e3⟩ := up' b _ e2 hnf
      exact ⟨sl3, e3⟩
    refine ⟨a, B, H, cls, d, rfl, fl, I.inGround nb, ⟨fun b o e n hb => nb b o (I.base.keep b o e n hb (hx b)) (old b o e hb), slot, fun b o e n => I.base.free b o e n (hx b), fun b o e hb => ?_, I.base.tups, I.base.frzs, I.base.tbls⟩, na, os.trans I.os, ag, hW _ _ _ _ w⟩
    obtain ⟨o', e1⟩ := I.base.there b o e (hx b)
    exact ⟨o', nb b o' e1 (old b o e hb)⟩
  rw [hs] at sky
  rcases sky with ⟨hB, hn, hl, oe, vs, he, hz, hd, h1⟩ | fl | hd
  · exact PXN.leaving_firstZ Zt.steady hfr hl hf he hB hn hd h1 hz done
  · exact PXN.leaves_onZ Zt.steady hfr hf fl done
  · exact HandSPX.leaves_heldZ hf hd done
theorem lets_of (hs : X.stack = X.env :: X.outer) (hf : X.env.frame = some X.env.locals) (hex : X.ex = []) {E₁ : Value → Shared → Prop}
    (hx : X.xe = fun e s' => wpAny (model X.prog X.w) X.A (leaving X.env e) (fun _ s'' => CT X.prog X.w X.outer X.H_0 X.s_0 E e s'') E₁ s') : Lets X (fun cls d _ H => E cls d H) := fun u s' x => by
  rw [hx]
  exact flies_out (E := E) hs hf hex (fun _ _ _ _ h => h) x
theorem lets_call (tk : Lets X W) (hW : ∀ cls d σ H, E cls d H → W cls d σ H) : Passes (CT X.prog X.w) X E :=
  fun _ σ _ _ e s' I c => tk e s' (flies_call I (fun cls d H' h => hW cls d σ H' h) c)
theorem lets_at (tk : Lets X W) (σ : L2.St) : PassesAt (CT X.prog X.w) X σ (WE W σ) := fun _ _ _ e s' I c => tk e s' (flies_call I (fun _ _ _ h => h) c)
theorem pass_none : Passes (CT X.prog X.w) X E0 := fun _ _ _ _ _ _ _ h => by
  obtain ⟨_, _, _, _, _, _, _, _, _, _, _, _, z⟩ := h
  exact z.elim
theorem lets_none : Lets X (fun _ _ _ _ => False) := fun _ _ h => by
  obtain ⟨_, _, _, _, _, _, _, _, A⟩ := h
  exact A.w.elim
/-- noted by the frame, then on the ground -/
theorem lands {M : Model} {A : Around} {E₁ : Value → Shared → Prop} {env : Env} {outer : List Env} {L a : Addr} {cls : Value} {d : Option Addr} {Q : Unit → Shared → Prop} (hfr : A.frames = some (env :: outer)) (hf : env.frame = some L)
    (x : Sky B (env :: outer) a (Zt cls d) L s.heap) (hQ : ∀ h', HandSPX.FlyingZ B (env :: outer) a (Zt cls d) h' → s.heap.UpToSlots h' → Q () { s with heap := h' }) :
    wpAny M A (noteFrame (.ref a) env) (fun _ s₂ => wpAny M A (setFlight (.ref a) none) Q E₁ s₂) E₁ s := L2N.Sky.land Zt.steady hfr hf x hQ
end

/-! ### raise C() -/
/-- what is asked of an own class whose errors are made and raised -/
structure ErrC (K : PySem.W.Frag) (C : Addr) : Prop where
  ex : PySem.W.excIn K C [.type "ValueError", .type "Exception", .type "BaseException", .type "object"] "ValueError.__new__" = true
  kp : PySem.W.keepIn K (.ref C) = true
  sb : PySem.W.subIn K (.ref C) (.type "BaseException") = some true
  ty : PySem.W.typeIn K (.ref C) = some (.type "type")
section
variable {X : Cx} {C : Addr} {x : Str}
/-- C() gives out a new error: behind it all as before, but the tuple of its arguments stands at d -/
theorem make_err {pins : List (Addr × Obj)} {σ : L2.St} {H : Hp} {s : Shared} {p pos : Pos} {Q : Value → Shared → Prop} {E₁ : Value → Shared → Prop} (R : ErrC X.K C) (gC : X.mg x = some (.ref C)) (hg : Gl X x) (I : Inv X pins σ H s)
    (h : ∀ (e t : Addr) (oe : Obj) (vs : Array Value) (sI : Shared) (s' : Shared), Inv X pins σ (upd H t (.tup [])) sI → (∀ b o, sI.heap.get? b = some o → s'.heap.get? b = some o) → sI.heap.get? e = none → s'.heap.get? e = some oe → Zt (.ref C) (some t) oe → oe.data = .fields vs → vs[1]? = some .none → vs[2]? = some .none → 4 < vs.size →
      H t = none → (upd H t (.tup [])) e = none → s'.os = sI.os → AllBare s'.gens → s' = { sI with heap := s'.heap } → Q (.ref e) s') (hdb : (x == ("__debug__" : Str)) = false := by decide) : wpAny (model X.prog X.w) X.A (eval (.Call (.Name x p) [] [] pos) X.env) Q E₁ s := by
  refine wpAny_Call_Name_kw (ld_glob I hg gC ?_ hdb)
  refine PySem.W.callWith_K0 I.kIn R.kp ?_
  obtain ⟨bm, N, nm, qn, bs, hdct, sn, sub, ab, col, dd, k0, k1, k2, k3, k5, mN, hC, hN, hni, T⟩ := exc_obj I.kIn R.ex
  obtain ⟨hp, g, dr, tk, os⟩ := s
  refine wpAny_call_exc_subT (rest := []) PySem.F.excBase_ValueError T hC hN hni (fun h' e hm => ?_) (Nat.zero_le _)
  obtain ⟨t, he, ht0, ht⟩ := hm.there
  have hte : t ≠ e := fun z => by
    rw [z, he] at ht
    cases ht
  obtain ⟨G, g1, g2⟩ := restrict h' fun b => decide (b ≠ e)
  have gk : ∀ b, b ≠ e → G.get? b = h'.get? b := fun b hb => g1 b (decide_eq_true hb)
  have ge : G.get? e = none := g2 e (by simp)
  have nold : ∀ b o, hp.get? b = some o → b ≠ e := fun b o q z => by
    have hn := hm.new
    rw [← z] at hn
    rw [show hp.get? b = none from hn] at q
    cases q
  have keep : ∀ b o, hp.get? b = some o → G.get? b = some o := fun b o q => (gk b (nold b o q)).trans (hm.keeps b o q)
  have hHt : H t = none := I.hok.gone ht0
  have ob : ObjOk X.prog X.w (upd H t (.tup [])) G t (.tup []) := ⟨Nat.zero_le _, [], .nil, _, (gk t hte).trans ht, rfl, 0, rfl⟩
  have J : Inv X pins σ (upd H t (.tup [])) { heap := G, gens := g, drawn := dr, toks := tk, os := os } := I.un (Un.laidN keep ht0 hHt) (I.hok.laidN keep hHt ob)
  refine h e t _ _ { heap := G, gens := g, drawn := dr, toks := tk, os := os } _ J (fun b o q => ?_) ge he ⟨rfl, rfl, fun vs q => ?_, t, rfl, fun vs q => ?_⟩ rfl rfl rfl (by show 4 < 6; decide) hHt ?_ rfl I.bare rfl
  · have hb : b ≠ e := fun z => by
      rw [z] at q
      rw [show G.get? e = none from ge] at q
      cases q
    exact (gk b hb).symm.trans q
  · cases q
    rfl
  · cases q
    rfl
  · rw [upd_ne (Ne.symm hte)]
    exact I.hok.gone hm.new
def tRaise (C : Addr) (W : WX) : TS := fun _ σ H => ∀ t, H t = none → W (.ref C) (some t) σ (upd H t (.tup []))
theorem ps_raise0 {W : WX} {p pos pos2 : Pos} (hc : X.calm = true) (tk : Lets X W) (R : ErrC X.K C) (gC : X.mg x = some (.ref C)) (hg : Gl X x) (hdb : (x == ("__debug__" : Str)) = false := by decide) :
    PS X (.Raise (some (.Call (.Name x p) [] [] pos)) none pos2) (tRaise C W) := by
  refine ⟨fun pins s σ H D I h => ?_⟩
  have ra := raises_own R.sb R.ty
  show wpAny _ _ (do standAt pos2; raiseStmt X.env (some (do let v ← eval (.Call (.Name x p) [] [] pos) X.env; standAt pos2; pure v)) none) _ _ _
  refine wpAny_bind (wpAny_standAt (raise_made (I.ok.hd hc) (wpAny_bind (make_err R gC hg I (fun e t oe vs sI s' J k hne he hz hd h1 h2 h5 hHt na os ag _ => wpAny_bind (wpAny_standAt (wpAny_pure ?_))) hdb))))
  obtain ⟨r1, r2⟩ := ra (model X.prog X.w) s'.heap (J.kIn.keeps k)
  exact ⟨e, oe, vs, .ref C, rfl, he, hz.1, hd, h1, r1, r2, tk _ _ (flies_new J k hne he hz hd h1 na os ag (h t hHt))⟩
end

/-! ### try: .. except C as n: .. -/
section
variable {X : Cx} {x n : Str} {c : Value} {i : Nat} {body suite : List Stmt} {b₀ : Stmt} {np pos pos' : Pos} {tb : WX → TS} {ts : Addr → Value → Option Addr → TS} {Wout : WX}
/-- the error at a, in the suite: it is the frames' no more, and not ours -/
theorem err_apart {env : Env} {outer : List Env} {B h : Heap} {a L : Addr} {cls : Value} {d : Option Addr} (hf : env.frame = some L) (fl : HandSPX.FlyingZ B (env :: outer) a (Zt cls d) h) : a ≠ L ∧ a ∉ frs outer := by
  obtain ⟨o, vs, e, _, hd⟩ := fl.there
  have no : a ∉ frs (env :: outer) := fun hm => by
    obtain ⟨_, o', e', hn⟩ := fl.2.2.1.mem hm
    obtain rfl : o = o' := Option.some.inj (e.symm.trans e')
    exact hn _ hd
  refine ⟨fun z => no (List.mem_filterMap.mpr ⟨env, List.mem_cons_self, by rw [hf, z]⟩), fun hm => ?_⟩
  obtain ⟨v, hv, q⟩ := List.mem_filterMap.mp hm
  exact no (List.mem_filterMap.mpr ⟨v, List.mem_cons_of_mem _ hv, q⟩)
/-- what ends a body that lets nothing out -/
theorem SP.ofTry {pins : List (Addr × Obj)} {s' : Shared} {xe : Value → Shared → Prop} {pn' : List (Addr × Obj)} {D : Ends} {f : Flow} (ok : X.Ok) (h : SP (X.tr (X.pn ++ pins) xe) pn' D f s') : SP X pins D f s' := by
  cases f with
  | ret u =>
    obtain ⟨v, σ', H', J, r, q⟩ := h
    exact ⟨v, σ', H', J.ofTry ok, r, q⟩
  | next =>
    obtain ⟨σ', H', J, q⟩ := h
    exact ⟨σ', H', J.ofTry ok, q⟩
  | brk =>
    obtain ⟨σ', H', J, q⟩ := h
    exact ⟨σ', H', J.ofTry ok, q⟩
  | cont =>
    obtain ⟨σ', H', J, q⟩ := h
    exact ⟨σ', H', J.ofTry ok, q⟩
/-- every error of the body is the clause's (c) -/
def wAll (K : PySem.W.Frag) (c : Value) (i : Nat) (ts : Addr → Value → Option Addr → TS) (D : Ends) : WX := fun cls d σ H =>
  PySem.W.exmOne K cls c = some true ∧ ∀ a, H a = none → ts a cls d { nx := fun σ => D.nx (σ.set i none), rt := D.rt, bk := fun σ => D.bk (σ.set i none), ct := fun σ => D.ct (σ.set i none) } (σ.set i (some (.ref a))) H
theorem ps_tryAs (hs : X.stack = X.env :: X.outer) (hf : X.env.frame = some X.env.locals) (hN : X.N.Nodup) (hi : X.N[i]? = some n) (hln : X.env.kindOf n = some .local) (hc : Names X x c)
    (hb : ∀ (W : WX) (pn : List (Addr × Obj)) (xe : Value → Shared → Prop), Lets (X.tr pn xe) W → PassesOwn (model X.prog X.w) X.A X.env xe → PSs (X.tr pn xe) body (tb W))
    (hsu : ∀ (a : Addr) (oe : Obj) (cls : Value) (d : Option Addr) (pn : List (Addr × Obj)), Zt cls d oe → (∃ vs, oe.data = .fields vs) → PSs (X.suite a ((a, oe) :: pn)) (b₀ :: suite) (ts a cls d)) :
    PS X (.Try body [.ExceptHandler (some (.Name x np)) (some n) (b₀ :: suite) pos'] [] [] pos) (fun D σ H => tb (wAll X.K c i ts D) D σ H) := by
  refine ⟨fun pins s σ H D I h => ?_⟩
  have ok := I.ok
  have hfr : X.A.frames = some (X.env :: X.outer) := ok.frames.trans (congrArg some hs)
  let xe : Value → Shared → Prop := fun e s₁ => wpAny (model X.prog X.w) X.A (noteFrame e X.env) (fun _ s₂ => wpAny (model X.prog X.w) X.A (setFlight e none) (fun _ s₃ =>
    wpAny (model X.prog X.w) X.A (handleBy e X.env [.ExceptHandler (some (.Name x np)) (some n) (b₀ :: suite) pos']) (SP X pins D) X.xe s₃) X.xe s₂) X.xe s₁
  have caught : Lets (X.tr (X.pn ++ pins) xe) (wAll X.K c i ts D) := fun u s' xx => by
    obtain ⟨a, B, sI, pins', σ', H', cls, d, rfl, J', nb, up, sky, na, os, ag, hb1, hyes⟩ := xx
    have J : Inv X pins σ' H' sI := J'.ofTry ok
    have sky' : Sky B (X.env :: X.outer) a (Zt cls d) X.env.locals s'.heap := hs ▸ sky
    show wpAny (model X.prog X.w) X.A (noteFrame (.ref a) X.env) _ _ _
    refine lands hfr hf sky' fun h3 fl3 up3 => ?_
    obtain ⟨nL, nF⟩ := err_apart hf fl3
    obtain ⟨oe3, vs3, he3, hz3, hd3⟩ := fl3.there
    have J3 : Inv X pins σ' H' { s' with heap := h3 } := J.landed nb fl3.1 (up.trans up3) os ag
    have S3 := J3.suite he3 hd3 na nL nF
    refine wpAny_handleBy_cons (codeAny_handlers_test ?_) (fun q => nomatch q)
    have LT : PySem.W.Looks (model X.prog X.w) h3 (typeOf (.ref a)) cls := fun A' Q' E' s2 k q => wpAny_typeOf_ref (k _ _ he3) (hz3.1.symm ▸ q)
    have LM := PySem.W.exm_one (M := model X.prog X.w) J3.kIn LT hb1
    have named : wpAny (model X.prog X.w) (X.A.mark (some (.ref a))) (eval (.Name x np) X.env) (fun v s2 => v = c ∧ s2 = { s' with heap := h3 }) (fun _ _ => False) { s' with heap := h3 } := by
      obtain ⟨hg, hdbg, hm | ⟨hm, hv, hnn⟩⟩ := hc
      · exact ld_glob (X := X.suite a ((a, oe3) :: (X.pn ++ pins))) S3 hg hm ⟨rfl, rfl⟩ hdbg
      · exact ld_blt (X := X.suite a ((a, oe3) :: (X.pn ++ pins))) S3 hg hm hv ⟨rfl, rfl⟩ hnn hdbg
    refine wpAny_mono named (fun v s2 hv => ?_) fun _ _ z => z.elim
    obtain ⟨rfl, rfl⟩ := hv
    refine LM.here (codeAny_handlers_suite_as (HandSPX.lands_againZ fl3 fun h4 fl4 up4 => ?_))
    have J4 : Inv X pins σ' H' { s' with heap := h4 } := J.landed nb fl4.1 ((up.trans up3).trans up4) os ag
    obtain ⟨oe4, vs4, he4, hz4, hd4⟩ := fl4.there
    refine store_ok (X := X.suite a ((a, oe4) :: (X.pn ++ pins))) (v := .ref a) (J4.suite he4 hd4 na nL nF) hN hi (.inl hln) rfl (fun s5 S5 => ?_) (.inr hln)
    refine wpAny_mono ((hsu a oe4 cls d (X.pn ++ pins) hz4 ⟨_, hd4⟩).run [] s5 _ H' _ S5 (hyes a na)) (fun f s6 hsp => ?_) fun _ _ z => z.elim
    have gone : ∀ {σ6 : L2.St} {H6 : Hp} {Q : Shared → Prop}, Inv (X.suite a ((a, oe4) :: (X.pn ++ pins))) [] σ6 H6 s6 → (∀ s7, Inv X pins (σ6.set i none) H6 s7 → Q s7) →
        wpAny (model X.prog X.w) X.A (do bindName X.env n .none; unbindBehindTheSuite X.env n pos') (fun _ s7 => Q s7) X.xe s6 := fun S6 hq => gone_ok (S6.unsuite ok) hN hi hln hq
    cases f with
    | ret u =>
      obtain ⟨v6, σ6, H6, S6, r6, q6⟩ := hsp
      exact gone S6 fun s7 J7 => ⟨_, _, _, J7, r6, q6⟩
    | next =>
      obtain ⟨σ6, H6, S6, q6⟩ := hsp
      exact gone S6 fun s7 J7 => ⟨_, _, J7, q6⟩
    | brk =>
      obtain ⟨σ6, H6, S6, q6⟩ := hsp
      exact gone S6 fun s7 J7 => ⟨_, _, J7, q6⟩
    | cont =>
      obtain ⟨σ6, H6, S6, q6⟩ := hsp
      exact gone S6 fun s7 J7 => ⟨_, _, J7, q6⟩
  refine wpAny_Try_except (wpAny_mono ((hb _ _ xe caught PassesOwn.looking).run [] s σ H D (I.toTry _) h) (fun f s1 hsp => ?_) fun e s1 he => he)
  have q := SP.ofTry ok hsp
  cases f with
  | next => exact wpAny_execs_nil q
  | ret u => exact q
  | brk => exact q
  | cont => exact q
end
end Cgx
/-! Defs by their trees: what a def promises; the error's own def; try. -/
namespace L2
open PySem PySem.Spec PyProof.Rows
section
variable {X : Cx}
/-- xs.count(y), data without dicts -/
def rCntP (K : PySem.W.Frag) : V → List V → Hp → VK → Prop := fun x vs H Q => ∃ (a : Addr) (y : V) (d : PyData) (ds : List PyData), x = .ref a ∧ vs = [y] ∧ Dp K H (.ref a) (.list ds) ∧ Dp K H y d ∧ PyData.plainAll ds = true ∧ d.plain = true ∧ min (PyData.depthAll ds) d.depth ≤ 64 ∧
  Q (.int ((ds.countP fun z => PyData.eqv z d : Nat) : Int)) H
theorem mt_countP (hu : X.A.units + 65 < cLine) : MtR X "list.count" (rCntP X.K) := by
  intro pins s σ H x xs v us Q I rx rxs h
  obtain ⟨a, y, d, ds, rfl, rfl, hl, hy, pl, pd, hm, q⟩ := h
  cases rx
  obtain ⟨u, rfl, ru⟩ := rxs.one
  obtain ⟨bs, r1⟩ := Dp.reads I d y u hy ru
  cases hl with
  | lst hs ha =>
    obtain ⟨its, rv, ⟨⟨cls, dd, data, sls⟩, n, ho, hc, hdn, hdt⟩, hlen⟩ := I.list hs
    simp only at hc hdt
    subst hc hdt
    obtain ⟨as, h4⟩ := Dp.readsAll I ds _ its ha rv
    refine call_meets PySem.F.slot_list_count ⟨_, ho, rfl⟩ PySem.F.entry_list_count (PySem.F.args_list_count_2 _ _)
      (SeqAt.list_countAt a its.toArray n dd sls u fun z => PyData.eqv (SeqAt.readOf s.heap z) d) ⟨ho, SeqAt.items_plain (vs := its.toArray) (show ReadsAll s.heap its.toArray.toList ds as from h4) r1 pl pd (by show X.A.units + 1 + _ < cLine; omega), ?_⟩
    have e : its.toArray.toList.countP (fun z => PyData.eqv (SeqAt.readOf s.heap z) d) = ds.countP fun z => PyData.eqv z d := by
      have em : its.map (SeqAt.readOf s.heap) = ds := SeqAt.readsAll_map_plain ds its as pl h4
      rw [← em, List.countP_map]
      rfl
    rw [e]
    exact ⟨.int _, H, I.tok _, ⟨_, rfl⟩, q⟩
end
end L2
namespace Cg
open PySem PySem.Spec PyProof.Rows L2
section
variable {P : Program} {w : World} {K : PySem.W.Frag} {mg : Str → Option Value} {base : Heap} {cl : Ek → Addr}
/-! ### a def's start -/
def st0 (n : Nat) (ds : List PyData) : List Sl := ds.map Sl.dat ++ List.replicate (n - ds.length) .any
def st0B (n : Nat) (ds : List PyData) : List Sl := .box :: st0 (n - 1) ds
theorem st0_get {n : Nat} {ds : List PyData} {i : Nat} {s : Sl} (h : (st0 n ds)[i]? = some s) : (∃ d, ds[i]? = some d ∧ s = .dat d) ∨ s = .any := by
  unfold st0 at h
  by_cases hi : i < ds.length
  · rw [List.getElem?_append_left (by rw [List.length_map]; exact hi), List.getElem?_map] at h
    cases e : ds[i]? with
    | none =>
      rw [e] at h
      cases h
    | some d =>
      rw [e] at h
      cases h
      exact .inl ⟨d, rfl, rfl⟩
  · rw [List.getElem?_append_right (by rw [List.length_map]; omega), List.getElem?_replicate] at h
    split at h
    · cases h
      exact .inr rfl
    · cases h
theorem st0_own {n : Nat} {ds : List PyData} {i : Nat} {s : Sl} (h : (st0 n ds)[i]? = some s) : owning s = false := by
  rcases st0_get h with ⟨d, _, rfl⟩ | rfl <;> rfl
theorem start_get {N : List Str} {vs : List V} {i : Nat} {v : V} (h : vs[i]? = some v) : (start N vs)[i]? = some (some v) := by
  unfold L2.start
  have hi := (List.getElem?_eq_some_iff.mp h).1
  rw [List.getElem?_append_left (by rw [List.length_map]; exact hi), List.getElem?_map, h]
  rfl
theorem sta_start {N : List Str} {vs : List V} {ds : List PyData} {G H : Hp} (r : RpAll K G vs ds) (e : Ex G H) (hN : vs.length ≤ N.length) : Sta K G H (st0 N.length ds) (start N vs) := by
  have hl := r.len
  refine ⟨?_, e, fun i s o h1 h2 => ?_, fun i j si sj a h1 h2 h3 => ?_⟩
  · unfold st0 L2.start
    simp only [List.length_append, List.length_map, List.length_replicate]
    omega
  · rcases st0_get h1 with ⟨d, hd, rfl⟩ | rfl
    · obtain ⟨v, hv, rv⟩ := r.get hd
      rw [start_get hv] at h2
      exact ⟨v, (Option.some.inj h2).symm, rv⟩
    · trivial
  · rw [st0_own h1] at h3
    cases h3
theorem owns_start {n : Nat} {ds : List PyData} {σ : L2.St} {a : Addr} (h : Owns (st0 n ds) σ a) : False := by
  obtain ⟨i, s, h1, h2, _⟩ := h
  rw [st0_own h1] at h2
  cases h2
theorem sta_startB {N : List Str} {b : Addr} {vs : List V} {ds : List PyData} {G H : Hp} (hb : BoxOk K G H b) (r : RpAll K G vs ds) (e : Ex G H) (hN : vs.length + 1 ≤ N.length) : Sta K G H (st0B N.length ds) (start N (.ref b :: vs)) := by
  obtain ⟨x, N, rfl⟩ : ∃ x N', N = x :: N' := by
    cases N with
    | nil => exact absurd hN (by simp)
    | cons x N => exact ⟨x, N, rfl⟩
  have es : start (x :: N) (.ref b :: vs) = some (.ref b) :: start N vs := by
    unfold L2.start
    simp
  have er : st0B (x :: N).length ds = .box :: st0 N.length ds := by
    unfold st0B
    simp
  have S := sta_start (N := N) r e (by simpa using hN)
  rw [es, er]
  refine ⟨congrArg (· + 1) S.len, e, fun i s o h1 h2 => ?_, fun i j si sj a h1 h2 h3 h4 _ _ => ?_⟩
  · cases i with
    | zero =>
      simp at h1 h2
      subst h1
      subst h2
      exact ⟨b, rfl, hb⟩
    | succ i => exact S.ok i s o (by simpa using h1) (by simpa using h2)
  · cases i with
    | zero =>
      cases j with
      | zero => rfl
      | succ j =>
        have z := st0_own (i := j) (s := sj) (by simpa using h2)
        rw [z] at h4
        cases h4
    | succ i =>
      have z := st0_own (i := i) (s := si) (by simpa using h1)
      rw [z] at h3
      cases h3
theorem owns_startB {n : Nat} {ds : List PyData} {σ : L2.St} {a b : Addr} (hs : σ[0]? = some (some (.ref b))) (h : Owns (st0B n ds) σ a) : a = b := by
  obtain ⟨i, s, h1, h2, h3⟩ := h
  cases i with
  | zero =>
    rw [hs] at h3
    cases h3
    rfl
  | succ i =>
    have z := st0_own (i := i) (s := s) (by simpa [st0B] using h1)
    rw [z] at h2
    cases h2
theorem scope_le {N ps : List Str} {sc : Scope} (S : FnScope N ps sc) : ps.length ≤ N.length := by
  have q := congrArg List.length S.pre
  rw [List.length_take] at q
  omega

/-! ### a def by its body -/
theorem SpN.len {n : Nat} {m : List PyData → Tr PyData} {vs : List V} {H : Hp} {Q : VK} {E : XK} (h : SpN K n m vs H Q E) : vs.length = n := by
  obtain ⟨ds, G, r, hl, _⟩ := h
  rw [r.len, hl]
theorem SpP.len {n : Nat} {m : List PyData → Tr PyData} {vs : List V} {H : Hp} {Q : VK} {E : XK} (h : SpP K cl n m vs H Q E) : vs.length = n := by
  obtain ⟨ds, G, r, hl, _⟩ := h
  rw [r.len, hl]
theorem SpB.len {n : Nat} {m : List PyData → Tr PyData} {vs : List V} {H : Hp} {Q : VK} {E : XK} (h : SpB K n m vs H Q E) : vs.length = n + 1 := by
  obtain ⟨b, ws, ds, G, rfl, _, r, hl, _⟩ := h
  rw [List.length_cons, r.len, hl]
/-- answers at every end -/
theorem fn_pure {x q : Str} {st : Stmt} {f : Addr} {fd : FuncData} {N ps : List Str} {k : Nat} {m : List PyData → Tr PyData} (F : Fun K x q st f fd) (Sc : FnScope N ps (defScope st))
    (hb : ∀ (cdv : Value) (A : Around) (outer : List Env) (s : Shared) (H : Hp) (E : XK), Room k (A.deeper (envOfC q (defScope st) s.heap.objs.size f cdv)) →
      ∃ t, PSs (cxOf CX0 P w K mg base N q (defScope st) f cdv A outer s H E).nox (defBody st) t ∧ ∀ ds, ds.length = ps.length → StG (S := Unit) K cl (fun _ => none) Ct.rt (fun _ => []) t (st0 N.length ds) (m ds)) :
    FnOk P w K mg base CX0 (k + 1) f fd ps (SpN K ps.length m) := by
  refine F.ok Sc (fun vs H Q E h => h.len) fun cdv A outer s H vs Q E hr h => ?_
  obtain ⟨t, ht, hs⟩ := hb cdv A outer s H E hr
  obtain ⟨ds, G, r, hl, e, h⟩ := h
  refine ⟨t, ht, hs ds hl G H _ (sta_start r e (by rw [r.len, hl]; exact scope_le Sc)) _ (Tr.wp_mono (fun d hd v G' H' g e' _ rv => hd v G' H' (g.less fun a z => owns_start z) e' rv) (fun _ z => z.elim) h)⟩
/-- the same behind a last raise that was not taken: nothing is handed back -/
theorem fn_box {x q : Str} {st : Stmt} {f : Addr} {fd : FuncData} {N ps : List Str} {n k : Nat} {m : List PyData → Tr PyData} (F : Fun K x q st f fd) (Sc : FnScope N ps (defScope st)) (hn : ps.length = n + 1)
    (hb : ∀ (cdv : Value) (A : Around) (outer : List Env) (s : Shared) (H : Hp) (E : XK), Room k (A.deeper (envOfC q (defScope st) s.heap.objs.size f cdv)) →
      ∃ t, PSs (cxOf CX0 P w K mg base N q (defScope st) f cdv A outer s H E).nox (defBody st) t ∧ ∀ ds, ds.length = n → StG (S := Unit) K cl (fun _ => none) Ct.rt (fun _ => []) t (st0B N.length ds) (m ds)) :
    FnOk P w K mg base CX0 (k + 1) f fd ps (SpB K n m) := by
  refine F.ok Sc (fun vs H Q E h => h.len.trans hn.symm) fun cdv A outer s H vs Q E hr h => ?_
  obtain ⟨t, ht, hs⟩ := hb cdv A outer s H E hr
  obtain ⟨b, ws, ds, G, rfl, bo, r, hl, e, h⟩ := h
  have s0 : (start N (V.ref b :: ws))[0]? = some (some (V.ref b)) := start_get rfl
  refine ⟨t, ht, hs ds hl G H _ (sta_startB bo r e (by rw [r.len, hl, ← hn]; exact scope_le Sc)) _ (Tr.wp_mono (fun d hd v G' H' g e' bx rv => hd v G' H' (g.less fun a z => owns_startB s0 z) e' (bx b ⟨rfl, s0⟩) rv) (fun _ z => z.elim) h)⟩
/-- that may raise, and answers at every end -/
theorem fn_raise {x q : Str} {st : Stmt} {f : Addr} {fd : FuncData} {N ps : List Str} {k : Nat} {m : List PyData → Tr PyData} (F : Fun K x q st f fd) (Sc : FnScope N ps (defScope st))
    (hb : ∀ (cdv : Value) (A : Around) (outer : List Env) (s : Shared) (H : Hp) (E : XK), Room k (A.deeper (envOfC q (defScope st) s.heap.objs.size f cdv)) →
      ∃ t, PSs (cxOf (Cgx.CT P w) P w K mg base N q (defScope st) f cdv A outer s H E) (defBody st) t ∧ ∀ ds, ds.length = ps.length → StG (S := Unit) K cl (fun _ => some E) Ct.rt (fun _ => []) t (st0 N.length ds) (m ds)) :
    FnOk P w K mg base (Cgx.CT P w) (k + 1) f fd ps (SpP K cl ps.length m) := by
  obtain ⟨oc, od, kV, doc, pm, an, cdv, ct, osl, rfl, lk, hcd⟩ := F.ex
  refine fn_of lk hcd Sc (fun vs H Q E h => h.len) fun A outer s H vs Q E hr h => ?_
  obtain ⟨t, ht, hs⟩ := hb cdv A outer s H E hr
  obtain ⟨ds, G, r, hl, e, h⟩ := h
  refine ⟨t, ht, hs ds hl G H _ (sta_start r e (by rw [r.len, hl]; exact scope_le Sc)) _ (Tr.wp_mono (fun d hd v G' H' g e' _ rv => hd v G' H' (g.less fun a z => owns_start z) e' rv) (fun c hc H' kf => hc H' fun a o _ ha => kf a o (fun z => owns_start z) ha) h)⟩
/-- that may raise, and hands nothing back -/
theorem fn_raise0 {x q : Str} {st : Stmt} {f : Addr} {fd : FuncData} {N ps : List Str} {k : Nat} {m : List PyData → Tr Unit} (F : Fun K x q st f fd) (Sc : FnScope N ps (defScope st))
    (hb : ∀ (cdv : Value) (A : Around) (outer : List Env) (s : Shared) (H : Hp) (E : XK), Room k (A.deeper (envOfC q (defScope st) s.heap.objs.size f cdv)) →
      ∃ (t : TS) (ρ' : Unit → List Sl), PSs (cxOf (Cgx.CT P w) P w K mg base N q (defScope st) f cdv A outer s H E) (defBody st) t ∧ ∀ ds, ds.length = ps.length → StG (S := Unit) K cl (fun _ => some E) Ct.nx ρ' t (st0 N.length ds) (m ds)) :
    FnOk P w K mg base (Cgx.CT P w) (k + 1) f fd ps (SpP K cl ps.length fun ds => (m ds).bind fun _ => .ret .none) := by
  obtain ⟨oc, od, kV, doc, pm, an, cdv, ct, osl, rfl, lk, hcd⟩ := F.ex
  refine fn_of lk hcd Sc (fun vs H Q E h => h.len) fun A outer s H vs Q E hr h => ?_
  obtain ⟨t, ρ', ht, hs⟩ := hb cdv A outer s H E hr
  obtain ⟨ds, G, r, hl, e, h⟩ := h
  refine ⟨t, ht, hs ds hl G H _ (sta_start r e (by rw [r.len, hl]; exact scope_le Sc)) _ (Tr.wp_mono (fun d hd σ' G' H' a => ?_) (fun c hc H' kf => hc H' fun a o _ ha => kf a o (fun z => owns_start z) ha) (Tr.wp_bind.mp h))⟩
  exact hd .non G' H' (a.gr.less fun a z => owns_start z) a.st.sub .non
section
variable {E : L2.St → Option XK} {ρ : List Sl} {S β : Type} {oc : β → Ct S} {ρ' : S → List Sl}
/-- raise C() -/
theorem st_raise {c : Ek} {E : XK} {u : TS} : StG K cl (fun _ => some E) oc ρ' (tSeq (Cgx.tRaise (cl c) fun cls d _ H => E cls d H) u) ρ (.exc c) := fun G H σ hS D q t ht => by
  have q' : Xo cl (some E) (Owns ρ σ) H c := q
  refine q' (upd H t (.tup [])) (fun a o _ ha => ?_) t upd_same
  rw [upd_ne (ne_of_none ha ht)]
  exact ha
/-- what is caught -/
def catchT {α : Type} (h : Ek → α) : Tr α → Tr α
  | .ret a => .ret a
  | .exc c => .ret (h c)
  | .bad => .bad
  | .draw n k => .draw n fun i => catchT h (k i)
theorem wp_catch {α : Type} {h : Ek → α} {Q : α → Prop} {X : Ek → Prop} : ∀ {t : Tr α}, (catchT h t).wp Q X → t.wp Q fun c => Q (h c)
  | .ret _, q => q
  | .exc _, q => q
  | .bad, q => q
  | .draw n k, q => fun i hi => wp_catch (q i hi)
/-- try: (it answers) except c as e: return f(e), f telling each error's word; nothing is ours -/
theorem st_try {tb : WX → TS} {i : Nat} {cC : Value} {ts : Addr → Value → Option Addr → TS} {t : Tr PyData} {nm : Ek → Str} (hx : ∀ c, PySem.W.exmOne K (.ref (cl c)) cC = some true) (hρ : ρ.all (fun s => !owning s) = true) (hi : i < ρ.length)
    (hb : ∀ W : WX, StG (S := S) K cl (fun σ => some (WE W σ)) Ct.rt ρ' (tb W) ρ t)
    (hts : ∀ (c : Ek) (a t0 : Addr) (D : Ends) (σ : L2.St) (H : Hp), σ[i]? = some (some (.ref a)) → H t0 = some (.tup []) → H a = none → (∀ H', Ex H H' → D.rt (.str (nm c)) H') → ts a (.ref (cl c)) (some t0) D σ H) :
    StG (S := S) K cl E Ct.rt ρ' (fun D σ H => tb (Cgx.wAll K cC i ts D) D σ H) ρ (catchT (fun c => .str (nm c)) t) := fun G H σ hS D q => by
  have no : ∀ a, ¬ Owns ρ σ a := fun a ⟨j, s, h1, h2, _⟩ => by
    have z := List.all_eq_true.mp hρ s (List.mem_of_getElem? h1)
    rw [h2] at z
    cases z
  refine hb _ G H σ hS D (Tr.wp_mono (fun _ z => z) (fun c hc H' fr t0 h0 => ⟨hx c, fun a ha => ?_⟩) (wp_catch q))
  refine hts c a t0 _ _ H' (List.getElem?_set_self (by rw [← hS.len]; exact hi)) h0 ha fun H2 e2 => ?_
  refine hc (.str (nm c)) G H2 ⟨Ex.refl G, fun _ _ _ h => h, fun a o _ h => e2 a o (fr a o (no a) h), fun a h => ?_⟩ (fun a o h => e2 a o (fr a o (no a) (hS.sub a o h))) (fun b z => absurd ⟨0, .box, z.1, rfl, z.2⟩ (no b)) (.str _)
  obtain ⟨o, ho⟩ := Option.ne_none_iff_exists'.mp h
  rw [e2 a o (fr a o (no a) ho)]
  exact fun z => nomatch z
end
end
end Cg
namespace Cg
open PySem PySem.Spec PyProof.Rows L2
section
variable {K : PySem.W.Frag} {cl : Ek → Addr} {E : L2.St → Option XK} {ρ : List Sl}
variable {S β : Type} {oc : β → Ct S} {ρ' : S → List Sl} {S1 : Type} {ρs : S1 → List Sl} {r : PyData → β} {tl ta tb2 : TE} {tb u : TS} {fl fa fb : Tr PyData} {k : S1 → Tr β} {s0 : S1} {i j l : Nat}
theorem StG.eq {ts : TS} {t t' : Tr β} (h : StG K cl E oc ρ' ts ρ t) (e : t = t') : StG K cl E oc ρ' ts ρ t' := by
  rw [← e]
  exact h
/-- an answer at a def's end -/
theorem st_ret {S : Type} {ρ' : S → List Sl} {te : TE} {f : Tr PyData} {u : TS} (h : Ev K cl E te ρ f) : StG (S := S) K cl E Ct.rt ρ' (tSeq (tRet te) u) ρ f := (st_rt (r := id) (fun _ => rfl) h).eq (Tr.bind_ret f)
theorem st_retN {S : Type} {ρ' : S → List Sl} {u : TS} : StG (S := S) K cl E Ct.rt ρ' (tSeq tRetN u) ρ (.ret .none) := st_rtN (r := id) (fun _ => rfl)

/-! ### loops with one name -/
theorem st_forS1 (hE : ∀ a b, E a = E b) (hr : ∀ d, oc (r d) = .rt d) {f : PyData → S1 → Tr (Ct S1)} (hl : Ev K cl E tl ρ fl) (w : Wk ρ (ρs s0)) (hi : ∀ s, nown (ρs s) i = true) (hf : ∀ d s, StG K cl E id ρs tb ((ρs s).set i (.dat d)) (f d s)) (hk : ∀ s, StG K cl E oc ρ' u (ρs s) (k s)) :
    StG K cl E oc ρ' (tSeq (tFor (iSeq K tl) (gName i) tb) u) ρ (fl.bind fun l => (items l).bind fun xs => forC r f k xs s0) :=
  st_forS hE hr hl w (fun s => tg_name (hi s)) (fun _ _ q => nomatch q) (fun d s _ => hf d s) hk
theorem st_forS1n (hE : ∀ a b, E a = E b) (hr : ∀ d, oc (r d) = .rt d) {f : PyData → S1 → Tr S1} (hl : Ev K cl E tl ρ fl) (w : Wk ρ (ρs s0)) (hi : ∀ s, nown (ρs s) i = true) (hf : ∀ d s, StG K cl E Ct.nx ρs tb ((ρs s).set i (.dat d)) (f d s)) (hk : ∀ s, StG K cl E oc ρ' u (ρs s) (k s)) :
    StG K cl E oc ρ' (tSeq (tFor (iSeq K tl) (gName i) tb) u) ρ (fl.bind fun l => (items l).bind fun xs => (forN f xs s0).bind k) :=
  (st_forS1 (r := r) hE hr hl w hi (fun d s => (hf d s).nxs) hk).eq (by congr; funext l; congr; funext xs; exact forC_N f k xs s0)
theorem st_forR11 (hE : ∀ a b, E a = E b) (hr : ∀ d, oc (r d) = .rt d) {f : PyData → S1 → Tr (Ct S1)} (ha : Ev K cl E ta ρ fa) (w : Wk ρ (ρs s0)) (hi : ∀ s, nown (ρs s) i = true) (hf : ∀ d s, StG K cl E id ρs tb ((ρs s).set i (.dat d)) (f d s)) (hk : ∀ s, StG K cl E oc ρ' u (ρs s) (k s)) :
    StG K cl E oc ρ' (tSeq (tFor (iRng1 (tCons ta tNil)) (gName i) tb) u) ρ (fa.bind fun a => (rangeT (.int 0) a).bind fun xs => forC r f k xs s0) :=
  st_forR1 hE hr ha w (fun s => tg_name (hi s)) (fun _ _ q => nomatch q) (fun d s _ => hf d s) hk
theorem st_forR11n (hE : ∀ a b, E a = E b) (hr : ∀ d, oc (r d) = .rt d) {f : PyData → S1 → Tr S1} (ha : Ev K cl E ta ρ fa) (w : Wk ρ (ρs s0)) (hi : ∀ s, nown (ρs s) i = true) (hf : ∀ d s, StG K cl E Ct.nx ρs tb ((ρs s).set i (.dat d)) (f d s)) (hk : ∀ s, StG K cl E oc ρ' u (ρs s) (k s)) :
    StG K cl E oc ρ' (tSeq (tFor (iRng1 (tCons ta tNil)) (gName i) tb) u) ρ (fa.bind fun a => (rangeT (.int 0) a).bind fun xs => (forN f xs s0).bind k) :=
  (st_forR11 (r := r) hE hr ha w hi (fun d s => (hf d s).nxs) hk).eq (by congr; funext l; congr; funext xs; exact forC_N f k xs s0)
theorem st_forR21 (hE : ∀ a b, E a = E b) (hr : ∀ d, oc (r d) = .rt d) {f : PyData → S1 → Tr (Ct S1)} (ha : Ev K cl E ta ρ fa) (hb : Ev K cl E tb2 ρ fb) (w : Wk ρ (ρs s0)) (hi : ∀ s, nown (ρs s) i = true) (hf : ∀ d s, StG K cl E id ρs tb ((ρs s).set i (.dat d)) (f d s)) (hk : ∀ s, StG K cl E oc ρ' u (ρs s) (k s)) :
    StG K cl E oc ρ' (tSeq (tFor (iRng2 (tCons ta (tCons tb2 tNil))) (gName i) tb) u) ρ (fa.bind fun a => fb.bind fun b => (rangeT a b).bind fun xs => forC r f k xs s0) :=
  st_forR2 hE hr ha hb w (fun s => tg_name (hi s)) (fun _ _ q => nomatch q) (fun d s _ => hf d s) hk

/-! ### room -/
theorem room65 {k : Nat} {A : Around} (hr : Room k A) : A.units + 65 < cLine := by
  have := hr.un
  omega
theorem room2 {k : Nat} {A : Around} (hr : Room k A) : A.units + 2 < cLine := by
  have := hr.un
  omega
theorem room64 {k : Nat} {A : Around} (hr : Room k A) : A.units + 64 < cLine := by
  have := hr.un
  omega
/-! ### a def that is never come to -/
theorem fn_never {P : Program} {w : World} {mg : Str → Option Value} {base : Heap} {CX : CXT} {k : Nat} {f : Addr} {fd : FuncData} {ps : List Str} {sp : Sp} (h : ∀ vs H Q E, ¬ sp vs H Q E) : FnOk P w K mg base CX k f fd ps sp :=
  ⟨fun vs H Q E q => absurd q (h vs H Q E), fun _ _ _ H _ _ vs Q E _ _ _ _ q => absurd q (h vs H Q E)⟩
theorem spN_bad {n : Nat} {m : List PyData → Tr PyData} (hm : ∀ ds, ds.length = n → m ds = .bad) (vs : List V) (H : Hp) (Q : VK) (E : XK) : ¬ SpN K n m vs H Q E := fun ⟨ds, G, _, hl, _, h⟩ => by
  rw [hm ds hl] at h
  exact h
theorem spB_bad {n : Nat} {m : List PyData → Tr PyData} (hm : ∀ ds, ds.length = n → m ds = .bad) (vs : List V) (H : Hp) (Q : VK) (E : XK) : ¬ SpB K n m vs H Q E := fun ⟨b, ws, ds, G, _, _, _, hl, _, h⟩ => by
  rw [hm ds hl] at h
  exact h

/-! ### the box's own defs -/
/-- a number below m is drawn -/
def takeT : PyData → Tr PyData
  | .int m => if 1 ≤ m ∧ m < 1073741824 then .draw m.toNat fun i => .ret (.int (i : Int)) else .bad
  | _ => .bad
end
@[simp] theorem on1_one (f : PyData → Tr PyData) (a : PyData) : on1 f [a] = f a := rfl
def dInt : PyData → Tr PyData
  | .int i => .ret (.int i)
  | .bool b => .ret (.int (if b then 1 else 0))
  | _ => .bad
theorem rk_int {K : PySem.W.Frag} : RK1 K (fun xs H Q => (∃ i, xs = [.int i] ∧ Q (.int i) H) ∨ ∃ k, xs = [.bl k] ∧ Q (.int (if k then 1 else 0)) H) dInt := fun cl E ρ σ G H x a S rx Q h => by
  cases rx with
  | int i => exact .inl ⟨i, rfl, Po.now h S (.int _)⟩
  | bl b => exact .inr ⟨b, rfl, Po.now h S (.int _)⟩
  | _ => exact h.elim
/-- a new box, of a list of numbers -/
def SpMk (K : PySem.W.Frag) : Sp := fun vs H Q _ => ∃ (v : V) (ns : List Int) (G : Hp), vs = [v] ∧ Rp K G v (.list (ns.map PyData.int)) ∧ Ex G H ∧
  ∀ b G' H', Gr (fun _ => False) G H G' H' → Ex G' H' → H b = none → BoxOk K G' H' b → Q (.ref b) H'
def boxT : PyData → Tr Unit
  | .list xs => if (asInts xs).isSome then .ret () else .bad
  | _ => .bad
section
variable {K : PySem.W.Frag} {cl : Ek → Addr} {E : L2.St → Option XK} {ρ : List Sl} {S β : Type} {oc : β → Ct S} {ρ' : S → List Sl} {u : TS}
theorem mapT_ints {f : PyData → Tr PyData} {g : Int → Int} (h : ∀ i, f (.int i) = .ret (.int (g i))) : ∀ ns : List Int, mapT f (ns.map PyData.int) = .ret ((ns.map g).map PyData.int)
  | [] => rfl
  | n :: ns => by
    show ((f (.int n)).bind fun y => (mapT f (ns.map PyData.int)).bind fun ys => .ret (y :: ys)) = _
    rw [h n, mapT_ints h ns]
    rfl
/-- box = _law_box(script) -/
theorem st_box (hE : ∀ a b, E a = E b) {i : Nat} {ta : TE} {f : Tr PyData} {g : Tr β} (h : Ev K cl E ta ρ f) (k : StG K cl E oc ρ' u (ρ.set i .box) g) (n : nown ρ i = true := by rfl) (hi : i ≠ 0 := by decide) :
    StG K cl E oc ρ' (tSeq (tAsg (tCall (SpMk K) [] E0 (tCons ta tNil)) (gName i)) u) ρ (f.bind fun d => (boxT d).bind fun _ => g) :=
  fun G H σ hS D q => h.then (g := fun d => (boxT d).bind fun _ => g) hS q fun d v G1 H1 a rv w => by
    cases rv with
    | @lst p xs ds hs hl ha =>
      have w' : ((if (asInts ds).isSome then Tr.ret () else .bad).bind fun _ => g).wp (fun b => OutP K ρ σ G1 H1 ρ' D (oc b)) (Xo cl (E σ) (Owns ρ σ) H1) := w
      split at w'
      · rename_i hi2
        obtain ⟨ns, hns⟩ := Option.isSome_iff_exists.mp hi2
        have e := asInts_map hns
        subst e
        refine ⟨.ref p, ns, G1, rfl, .lst hs hl ha, a.st.sub, fun b G2 H2 gr e2 hb bo => ?_⟩
        have S2 := a.st.grow gr e2
        have nb : ∀ j : Nat, ∀ s, ρ[j]? = some s → owning s = true → σ[j]? ≠ some (some (.ref b)) := fun j s h1 h2 h3 => (a.st.own ⟨j, s, h1, h2, h3⟩).2 hb
        have ne : ∀ (j : Nat) (s : Sl), (ρ.set i .box)[j]? = some s → owning s = true → j = i ∨ (i ≠ j ∧ ρ[j]? = some s) := fun j s h1 _ => by
          by_cases z : i = j
          · exact .inl z.symm
          · rw [List.getElem?_set_ne z] at h1
            exact .inr ⟨z, h1⟩
        have S3 : Sta K G2 H2 (ρ.set i .box) (σ.set i (some (.ref b))) := by
          refine ⟨by rw [List.length_set, List.length_set]; exact S2.len, e2, fun j s o h1 h2 => ?_, fun j l sj sl x h1 h2 h3 h4 h5 h6 => ?_⟩
          · by_cases z : i = j
            · subst z
              have hl2 : i < σ.length := by
                have := (List.getElem?_eq_some_iff.mp h2).1
                rwa [List.length_set] at this
              rw [List.getElem?_set_self (by rw [S2.len]; exact hl2)] at h1
              rw [List.getElem?_set_self hl2] at h2
              cases h1
              cases h2
              exact ⟨b, rfl, bo⟩
            · rw [List.getElem?_set_ne z] at h1 h2
              exact S2.ok j s o h1 h2
          · rcases ne j sj h1 h3 with e1 | ⟨e1, q1⟩
            · rcases ne l sl h2 h4 with e2 | ⟨e2, q2⟩
              · rw [e1, e2]
              · subst e1
                rw [List.getElem?_set_ne e2] at h6
                have hl2 : j < σ.length := by
                  have := (List.getElem?_eq_some_iff.mp h5).1
                  rwa [List.length_set] at this
                rw [List.getElem?_set_self hl2] at h5
                cases h5
                exact absurd h6 (nb l sl q2 h4)
            · rcases ne l sl h2 h4 with e2 | ⟨e2, q2⟩
              · subst e2
                rw [List.getElem?_set_ne e1] at h5
                have hl2 : l < σ.length := by
                  have := (List.getElem?_eq_some_iff.mp h6).1
                  rwa [List.length_set] at this
                rw [List.getElem?_set_self hl2] at h6
                cases h6
                exact absurd h5 (nb j sj q1 h3)
              · rw [List.getElem?_set_ne e1] at h5
                rw [List.getElem?_set_ne e2] at h6
                exact S2.dis j l sj sl x q1 q2 h3 h4 h5 h6
        have a2 : Af K ρ σ G1 H1 (ρ.set i .box) (σ.set i (some (.ref b))) G2 H2 := by
          refine ⟨gr.less fun _ z => z.elim, S3, fun x ⟨j, s, h1, h2, h3⟩ => ?_, fun y z => ⟨by rw [List.getElem?_set_ne hi]; exact z.1, by rw [List.getElem?_set_ne hi]; exact z.2⟩⟩
          rcases ne j s h1 h2 with e1 | ⟨e1, q1⟩
          · subst e1
            have hl2 : j < σ.length := by
              have := (List.getElem?_eq_some_iff.mp h3).1
              rwa [List.length_set] at this
            rw [List.getElem?_set_self hl2] at h3
            cases h3
            exact .inr hb
          · rw [List.getElem?_set_ne e1] at h3
            exact .inl ⟨j, s, q1, h2, h3⟩
        exact k G2 H2 _ S3 D (upS hE a2 w')
      · exact w'.elim
    | _ => exact w.elim
end
theorem ev_negc {K : PySem.W.Frag} {cl : Ek → Addr} {E : L2.St → Option XK} {ρ : List Sl} {i : Int} : Ev K cl E (tUn (rU fun i => .int (-i)) (tC (.int i))) ρ (.ret (.int (-i))) := fun G H σ S Q q => ⟨i, rfl, Po.now q S (.int _)⟩
/-! ### a dict of the module: texts to numbers -/
structure KdAt (w : World) (K : PySem.W.Frag) (p : Addr) (tab : List (Str × Int)) : Prop where
  ex : ∃ es n, K.lookup p = some ⟨.type "dict", none, .dict es n, #[]⟩ ∧ PySem.W.KeysLit w.params es.toList
  at' : ∀ q ∈ tab, ∃ t, PySem.W.nsIn K p q.1 = some (some (.int q.2 t))
def kdT (tab : List (Str × Int)) : PyData → Tr PyData
  | .str s => match tab.find? (fun (q : Str × Int) => q.1 == s) with
    | some q => .ret (.int q.2)
    | none => .bad
  | _ => .bad
theorem ev_kd {w : World} {K : PySem.W.Frag} {cl : Ek → Addr} {E : L2.St → Option XK} {ρ : List Sl} {p : Addr} {tab : List (Str × Int)} {tb : TE} {fb : Tr PyData} (D : KdAt w K p tab) (hb : Ev K cl E tb ρ fb) : Ev K cl E (tOp (rIxD K w) (tC (.ref p)) tb) ρ (fb.bind fun y => kdT tab y) :=
  fun G H σ S Q h => hb.seq S h fun y v G1 H1 g1 S1 ry h1 => by
    cases ry with
    | str s =>
      have h2 : (match tab.find? (fun (q : Str × Int) => q.1 == s) with | some q => Tr.ret (PyData.int q.2) | none => .bad).wp (Po K ρ σ (Rp K) G1 H1 Q) (Xo cl (E σ) (Owns ρ σ) H1) := h1
      cases e : tab.find? (fun (q : Str × Int) => q.1 == s) with
      | none =>
        rw [e] at h2
        exact h2.elim
      | some q =>
        rw [e] at h2
        have hq := List.mem_of_find?_eq_some e
        have hs : q.1 = s := by simpa using List.find?_some e
        obtain ⟨es, n, hl, hk⟩ := D.ex
        obtain ⟨t, ht⟩ := D.at' q hq
        rw [hs] at ht
        exact ⟨p, s, .int q.2, rfl, rfl, ⟨es, n, _, hl, hk, ht, ⟨t, rfl⟩⟩, Po.now h2 S1 (.int _)⟩
    | _ => exact h1.elim
/-- a def as it stands behind the top -/
structure DefAt (K : PySem.W.Frag) (mg : Str → Option Value) (x : Str) (st : Stmt) (ps : List Str) where
  f : Addr
  fd : FuncData
  F : Fun K x x st f fd
  g : mg x = some (.ref f)
  b : Binds K fd ps []
end Cg
/-! The def that is handed a caught error, called in the except suite. -/
namespace Cg
open PySem PySem.Spec PyProof.Rows L2 L2H Cgx
/-- handed the error p that is being handled, of which ok holds, it hands back R -/
def FnErr (P : Program) (w : World) (K : PySem.W.Frag) (mg : Str → Option Value) (base : Heap) (k : Nat) (f : Addr) (fd : FuncData) (ps : List Str) (ok : Addr × Obj → Hp → Prop) (R : V) : Prop :=
  ∀ (A : Around) (outer : List Env) (s : Shared) (H : Hp) (args : Args) (p : Addr × Obj) (Q : VK), RoomH k A → Hot1 A p → PinOk outer H s p → Env0 P w K mg base A outer s H → BindsTo s fd args (ps.zip [.ref p.1]) → ok p H → (∀ H', Ex H H' → Q R H') →
    codeAny (model P w) A (.call (.ref f) args) (CR CX0 outer P w H s Q E0) s
section
variable {P : Program} {w : World} {K : PySem.W.Frag} {mg : Str → Option Value} {base : Heap}
theorem fn_err {x q : Str} {st : Stmt} {f : Addr} {fd : FuncData} {N : List Str} {e : Str} {k : Nat} {ok : Addr × Obj → Hp → Prop} {R : V} (F : Fun K x q st f fd) (S : FnScope N [e] (defScope st))
    (hbody : ∀ (cdv : Value) (A : Around) (outer : List Env) (s : Shared) (H : Hp) (p : Addr × Obj) (Q : VK), RoomH k (A.deeper (envOfC q (defScope st) s.heap.objs.size f cdv)) → Hot1 A p → ok p H → (∀ H', Ex H H' → Q R H') →
      ∃ t, PSs (cxH CX0 P w K mg base N q (defScope st) f cdv A outer s H E0 p).nox (defBody st) t ∧ t { nx := fun _ H' => Q .non H', rt := Q } (L2.start N [.ref p.1]) H) : FnErr P w K mg base (k + 1) f fd [e] ok R := by
  obtain ⟨oc, od, kV, doc, pm, an, cdv, ct, osl, rfl, lk, hcd⟩ := F.ex
  intro A outer s H args p Q hr hot hpin e0 hb hok hq
  have KX : K.In s.heap := e0.mod.kin.keeps fun b o z => (e0.bs b o z).1
  have hkind : ∀ y ∈ [e].zip [Value.ref p.1], (defScope st).names.lookup y.1 = some .local ∨ ((defScope st).names.lookup y.1 = some .cell ∧ ((cellsFrom (s.heap.objs.size + 1) (defScope st).names []).lookup y.1).isSome = true) := fun y hy => by
    obtain rfl : y = (e, Value.ref p.1) := by simpa using hy
    rcases S.par e (by simp) with z | z
    · exact .inl z
    · exact .inr ⟨z, PySem.W.cellsFrom_some _ _ _ (.inl z)⟩
  refine codeAny_call_function hr.depth (KX _ _ lk) rfl S.co S.gen rfl (PySem.W.codeRec_of KX hcd) (hb _ _ _ _ (wpAny_newFunctionEnv_cells S.kind hkind fun env he s1 z => ?_))
  subst he
  refine ⟨(e0.mod.nolimit.keeps fun b o z => (e0.bs b o z).1).keeps z.toInCall.keep, codeAny_func ?_⟩
  obtain ⟨t, ht, h⟩ := hbody cdv A outer s H p Q (hr.deeper _) hot hok hq
  have I := inv_startH (CX := CX0) (P := P) (w := w) (E := E0) (qual := q) (f := f) (cd := cdv) (vs := [.ref p.1]) S hpin e0 rfl (.cons rfl .nil) z
  refine wpAny_mono (ht.nox.run [] s1 _ H _ I h) (fun fl s' hs => ?_) fun er s' hs => hs
  have out : ∀ {σ' : L2.St} {H' : Hp} {v : V} {u : Value}, L2.Inv (cxH CX0 P w K mg base N q (defScope st) f cdv A outer s H E0 p) [] σ' H' s' → RelV v u → Q v H' → CE outer P w H s Q u s' := fun J rv hv => ⟨_, _, J.os, J.bare, J.base, J.hok, rv, hv⟩
  cases fl with
  | ret u =>
    obtain ⟨v, σ', H', J, rv, hv⟩ := hs
    exact out J rv hv
  | next =>
    obtain ⟨σ', H', J, hv⟩ := hs
    exact out (v := V.non) (u := Value.none) J rfl hv
  | brk =>
    obtain ⟨_, _, _, z⟩ := hs
    exact z.elim
  | cont =>
    obtain ⟨_, _, _, z⟩ := hs
    exact z.elim
end
section
variable {X : Cx} {a : Addr} {oe : Obj} {pn : List (Addr × Obj)}
/-- f(e) in the suite -/
theorem pe_err {x y : Str} {p p2 pos : Pos} {i k : Nat} {f : Addr} {fd : FuncData} {ps : List Str} {ok : Addr × Obj → Hp → Prop} {R : V} (hz : PXN.CtxN oe) (hd : ∃ vs, oe.data = .fields vs)
    (F : FnErr X.prog X.w X.K X.mg X.base k f fd ps ok R) (hr : RoomH k X.A) (hg : Gl X x) (hm : X.mg x = some (.ref f)) (hk : PySem.W.keepIn X.K (.ref f) = true) (hb : Binds X.K fd ps []) (hl : ps.length = 1) (hN : X.N[i]? = some y) (hv : Vis X.env.scope y)
    (hdb : (x == ("__debug__" : Str)) = false := by decide) (hdb2 : (y == ("__debug__" : Str)) = false := by decide) (hcd2 : (y == ("__classdict__" : Str)) = false := by decide) :
    PE (X.suite a ((a, oe) :: pn)) (.Call (.Name x p) [.Name y p2] [] pos) (fun σ H Q => σ[i]? = some (some (.ref a)) ∧ ok (a, oe) H ∧ ∀ H', Ex H H' → Q R H') := by
  refine ⟨fun pins s σ H Q I h => ?_⟩
  obtain ⟨h1, h2, h3⟩ := h
  refine wpAny_Call_Name_kw (ld_glob (X := X.suite a ((a, oe) :: pn)) I hg hm ?_ hdb)
  have pa : PA (X.suite a ((a, oe) :: pn)) [.Name y p2] (tCons (tVar i) tNil) := pa_cons (pe_var hN hv hdb2 hcd2) pa_nil
  refine PySem.W.callWith_K (h₀ := X.base) I.ok.mod.kin hk (thn (pa.run pos pins s σ H (fun vs H1 => vs = [V.ref a] ∧ H1 = H) I ⟨_, h1, rfl, rfl⟩) fun us s1 ⟨vs, H1, I1, r, ev, eH⟩ => ⟨I1.kIn, ?_⟩) (by rfl) (by rfl)
  subst ev
  subst eH
  obtain ⟨u, rfl, ru⟩ : ∃ u, us = [u] ∧ RelV (V.ref a) u := by
    cases r with
    | cons r t =>
      cases t
      exact ⟨_, rfl, r⟩
  cases ru
  have P1 := I1.pin (a, oe) (List.mem_append_left _ List.mem_cons_self)
  have hpin : PinOk X.stack H1 s1 (a, oe) := ⟨P1.1, P1.2.1, fun hm => (List.mem_cons.mp (I1.stkSub a hm)).elim P1.2.2.1 P1.2.2.2.1, P1.2.2.2.2⟩
  obtain ⟨vs, hvs⟩ := hd
  have hot : Hot1 (X.suite a ((a, oe) :: pn)).A (a, oe) := ⟨rfl, vs, hvs, hz vs hvs⟩
  have hb1 := hb s1 [.ref a] I1.kIn (by rw [List.append_nil]; exact hl.symm)
  rw [List.append_nil] at hb1
  refine wpAny_call (codeAny_mono (F (X.suite a ((a, oe) :: pn)).A X.stack s1 H1 ⟨[.ref a], []⟩ (a, oe) Q ⟨hr.dp, hr.un⟩ hot hpin I1.env0 hb1 h2 h3) fun rr s' hq => ?_)
  cases rr with
  | error er => exact False.elim hq
  | ok fl =>
    cases fl with
    | ret u => exact I1.after hq
    | next => exact False.elim hq
    | brk => exact False.elim hq
    | cont => exact False.elim hq
end
/-- the word for an error; which class lies under which -/
def nmE : Ek → Str
  | .kind => "kind"
  | .value => "value"
  | .patch => "patch"
  | .unfit => "unfit"
  | .base => "several"
def subE (c d : Ek) : Bool := decide (d = .base) || decide (c = d)
/-! ### what may be asked of the error -/
section
variable {X : Cx} {a D t : Addr} {oe : Obj}
theorem isE_at {pins : List (Addr × Obj)} {σ : L2.St} {H : Hp} {s : Shared} (I : L2.Inv X pins σ H s) (hp : (a, oe) ∈ X.pn) (hz : Zt (.ref D) (some t) oe) (hf : ∃ vs, oe.data = .fields vs) : PySem.W.InstAt s.heap a oe D none := by
  have hg := (I.pin (a, oe) (List.mem_append_left _ hp)).1
  obtain ⟨vs, hv⟩ := hf
  obtain ⟨oc, od, oda, osl⟩ := oe
  obtain ⟨h1, h2, _⟩ := hz
  dsimp only at h1 h2 hv
  subst h1 h2 hv
  exact ⟨hg, rfl, rfl, trivial⟩
theorem call_isP (C : ExcC X.K D) (hp : (a, oe) ∈ X.pn) (hz : Zt (.ref D) (some t) oe) (hf : ∃ vs, oe.data = .fields vs) : CallR X (.builtin "isinstance") (rIsE X.K D a) := by
  intro pins s σ H xs us Q I r h
  obtain ⟨c, cv, b, rfl, hcv, e, q⟩ := h
  obtain ⟨u1, u2, rfl, r1, r2⟩ := vals2 r
  cases r1
  obtain rfl := hcv _ r2
  exact PySem.W.kia_one (PySem.W.handS_kitx_exc C.hg C.hk C.hs C.hd C.ha C.hn C.ht C.hm) I.kIn (isE_at I hp hz hf) e (fun z => nomatch z) fun tk => ⟨.bl b, H, I.kept (t' := tk) fun _ _ z => z, rfl, q⟩
/-- str(e), no argument -/
theorem call_strP (hu : X.A.units + 2 < cLine) (hs : PySem.W.findIn X.K (.ref D) "__str__" = some (some (.builtin "BaseException.__str__"))) (hB : PySem.W.subIn X.K (.ref D) (.type "BaseException") = some true) (hp : (a, oe) ∈ X.pn) (hz : Zt (.ref D) (some t) oe) (hf : ∃ vs, oe.data = .fields vs) :
    CallR X (.type "str") (fun xs H Q => xs = [.ref a] ∧ H t = some (.tup []) ∧ Q (.str Str.empty) H) := by
  intro pins s σ H xs us Q I r h
  obtain ⟨rfl, ht, q⟩ := h
  obtain ⟨u, rfl, ru⟩ := vals1 r
  cases ru
  obtain ⟨vs, hv⟩ := hf
  have hg := (I.pin (a, oe) (List.mem_append_left _ hp)).1
  obtain ⟨_, its, rv, o, h1, h2, n, h3⟩ := (show ObjOk X.prog X.w H s.heap t (.tup []) from I.hok t _ ht)
  cases rv
  obtain ⟨z1, _, _, t', e, z4⟩ := hz
  obtain rfl : t = t' := Option.some.inj e
  exact PySem.P.str_of_C_none hu (C := D) (t0 := t) ⟨I.kIn, oe, vs, hg, z1, hv, z4 vs hv⟩ ⟨o, n, h1, h2, h3⟩ hs hB ⟨.str Str.empty, H, I.tok _, ⟨_, rfl⟩, q⟩
end
/-! ### errors as values: C() is made and looked at -/
/-- an error of the class C, its arguments' empty tuple at t, stands at a -/
def ErrO (C : Value) (t a : Addr) : HO := .ext fun h => ∃ (oe : Obj) (vs : Array Value), h.get? a = some oe ∧ Zt C (some t) oe ∧ oe.data = .fields vs
def tMkE (C : Addr) : TE := fun _ H Q => ∀ t e, H t = none → (upd H t (.tup [])) e = none → Q (.ref e) (upd (upd H t (.tup [])) e (ErrO (.ref C) t e))
section
variable {X : Cx} {C : Addr}
theorem pe_mkE {x : Str} {p pos : Pos} (R : ErrC X.K C) (gC : X.mg x = some (.ref C)) (hg : Gl X x) (hdb : (x == ("__debug__" : Str)) = false := by decide) : PE X (.Call (.Name x p) [] [] pos) (tMkE C) := by
  refine ⟨fun pins s σ H Q I h => make_err R gC hg I (fun e t oe vs sI s' J k hne he hz hd h1 h2 h5 hHt na os ag es => ?_) hdb⟩
  have ob : ObjOk X.prog X.w (upd (upd H t (.tup [])) e (ErrO (.ref C) t e)) s'.heap e (ErrO (.ref C) t e) := ⟨⟨oe, vs, he, hz, hd⟩, ⟨oe, he⟩, fun _ _ ⟨o, v, q, r⟩ kk => ⟨o, v, kk o q, r⟩⟩
  have J2 := J.laidN (t' := sI.toks) k hne na ob
  have e2 : ({ sI with heap := s'.heap, toks := sI.toks } : Shared) = s' := by
    rw [es]
  rw [e2] at J2
  exact ⟨.ref e, _, J2, rfl, h t e hHt na⟩
theorem inst_of {pins : List (Addr × Obj)} {σ : L2.St} {H : Hp} {s : Shared} {a t : Addr} (I : L2.Inv X pins σ H s) (h : H a = some (ErrO (.ref C) t a)) : ∃ (oe : Obj) (vs : Array Value), PySem.W.InstAt s.heap a oe C none ∧ s.heap.get? a = some oe ∧ Zt (.ref C) (some t) oe ∧ oe.data = .fields vs := by
  obtain ⟨⟨oe, vs, he, hz, hd⟩, _, _⟩ := (show ObjOk X.prog X.w H s.heap a (ErrO (.ref C) t a) from I.hok a _ h)
  refine ⟨oe, vs, ?_, he, hz, hd⟩
  obtain ⟨oc, od, oda, osl⟩ := oe
  obtain ⟨h1, h2, _⟩ := hz
  dsimp only at h1 h2 hd
  subst h1 h2 hd
  exact ⟨he, rfl, rfl, trivial⟩
def rIsO (K : PySem.W.Frag) : List V → Hp → VK → Prop := fun xs H Q => ∃ (a t C : Addr) (c : V) (cv : Value) (b : Bool), xs = [.ref a, c] ∧ H a = some (ErrO (.ref C) t a) ∧ ExcC K C ∧ (∀ u, RelV c u → u = cv) ∧ PySem.W.kitOne K (.ref C) cv = some b ∧ Q (.bl b) H
theorem call_isO : CallR X (.builtin "isinstance") (rIsO X.K) := by
  intro pins s σ H xs us Q I r h
  obtain ⟨a, t, D, c, cv, b, rfl, ha, C, hcv, e, q⟩ := h
  obtain ⟨u1, u2, rfl, r1, r2⟩ := vals2 r
  cases r1
  obtain rfl := hcv _ r2
  obtain ⟨oe, vs, J, _⟩ := inst_of I ha
  exact PySem.W.kia_one (PySem.W.handS_kitx_exc C.hg C.hk C.hs C.hd C.ha C.hn C.ht C.hm) I.kIn J e (fun z => nomatch z) fun tk => ⟨.bl b, H, I.kept (t' := tk) fun _ _ z => z, rfl, q⟩
def rStrO (K : PySem.W.Frag) : List V → Hp → VK → Prop := fun xs H Q => ∃ (a t C : Addr), xs = [.ref a] ∧ H a = some (ErrO (.ref C) t a) ∧ H t = some (.tup []) ∧ PySem.W.findIn K (.ref C) "__str__" = some (some (.builtin "BaseException.__str__")) ∧ PySem.W.subIn K (.ref C) (.type "BaseException") = some true ∧ Q (.str Str.empty) H
theorem call_strO (hu : X.A.units + 2 < cLine) : CallR X (.type "str") (rStrO X.K) := by
  intro pins s σ H xs us Q I r h
  obtain ⟨a, t, D, rfl, ha, ht, hs, hB, q⟩ := h
  obtain ⟨u, rfl, ru⟩ := vals1 r
  cases ru
  obtain ⟨oe, vs, _, hg, hz, hv⟩ := inst_of I ha
  obtain ⟨_, its, rv, o, h1, h2, n, h3⟩ := (show ObjOk X.prog X.w H s.heap t (.tup []) from I.hok t _ ht)
  cases rv
  obtain ⟨z1, _, _, t', e, z4⟩ := hz
  obtain rfl : t = t' := Option.some.inj e
  exact PySem.P.str_of_C_none hu (C := D) (t0 := t) ⟨I.kIn, oe, vs, hg, z1, hv, z4 vs hv⟩ ⟨o, n, h1, h2, h3⟩ hs hB ⟨.str Str.empty, H, I.tok _, ⟨_, rfl⟩, q⟩
end
/-- e (the suite's error) handed to its def -/
theorem pe_errs {X : Cx} {a : Addr} {oe : Obj} {pn : List (Addr × Obj)} {cl : Ek → Addr} {nm : Ek → Str} {cls : Value} {d : Option Addr} {x y : Str} {p p2 pos : Pos} {i k : Nat} {f : Addr} {fd : FuncData} {e : Str} (hz : Zt cls d oe) (hd : ∃ vs, oe.data = .fields vs)
    (F : ∀ (c : Ek) (t : Addr), FnErr X.prog X.w X.K X.mg X.base k f fd [e] (fun p H => Zt (.ref (cl c)) (some t) p.2 ∧ (∃ vs, p.2.data = .fields vs) ∧ H t = some (.tup [])) (.str (nm c))) (hr : RoomH k X.A) (hg : Gl X x) (hm : X.mg x = some (.ref f)) (hk : PySem.W.keepIn X.K (.ref f) = true) (hb : Binds X.K fd [e] [])
    (hN : X.N[i]? = some y) (hv : Vis X.env.scope y) (hdb : (x == ("__debug__" : Str)) = false := by decide) (hdb2 : (y == ("__debug__" : Str)) = false := by decide) (hcd2 : (y == ("__classdict__" : Str)) = false := by decide) :
    PE (X.suite a ((a, oe) :: pn)) (.Call (.Name x p) [.Name y p2] [] pos) (fun σ H Q => ∃ (c : Ek) (t : Addr), cls = .ref (cl c) ∧ d = some t ∧ σ[i]? = some (some (.ref a)) ∧ H t = some (.tup []) ∧ ∀ H', Ex H H' → Q (.str (nm c)) H') := by
  refine ⟨fun pins s σ H Q I ⟨c, t, e1, e2, h1, h2, h3⟩ => ?_⟩
  subst e1
  subst e2
  exact (pe_err hz.2.2.1 hd (F c t) hr hg hm hk hb rfl hN hv hdb hdb2 hcd2).run pins s σ H Q I ⟨h1, ⟨hz, hd, h2⟩, h3⟩

theorem kit_ref {K : PySem.W.Frag} {C D : Addr} {b : Bool} (hc : PySem.W.isClsIn K D = true) (ht : PySem.W.typeIn K (.ref D) = some (.type "type")) (hs : PySem.W.subIn K (.ref C) (.ref D) = some b) (hr : PySem.W.subIn K (.ref D) (.ref D) = some true) : PySem.W.kitOne K (.ref C) (.ref D) = some b := by
  unfold PySem.W.kitOne
  by_cases e : C = D
  · subst e
    rw [hr] at hs
    rw [if_pos (by simp)]
    exact hs
  · rw [if_neg (by simpa using e)]
    show (if ((PySem.W.clsIn K D).isSome && PySem.W.typeIn K (.ref D) == some (.type "type")) = true then PySem.W.subIn K (.ref C) (.ref D) else none) = some b
    have h2 : (PySem.W.clsIn K D).isSome = true := hc
    rw [h2, ht]
    exact hs
theorem kit_typ {K : PySem.W.Frag} {C : Addr} {T : String} {b : Bool} (hm : PySem.W.kitMeta T = true) (hs : PySem.W.subIn K (.ref C) (.type T) = some b) : PySem.W.kitOne K (.ref C) (.type T) = some b := by
  unfold PySem.W.kitOne
  rw [if_neg (by simp)]
  show (if PySem.W.kitMeta T = true then PySem.W.subIn K (.ref C) (.type T) else none) = some b
  rw [if_pos hm]
  exact hs
/-! ### a loop over one error of each class -/
section
variable {K : PySem.W.Frag} {cl : Ek → Addr} {E : L2.St → Option XK} {ρ : List Sl} {S β : Type} {oc : β → Ct S} {ρ' : S → List Sl}
theorem Gr.exts {O : Addr → Prop} {G H H' : Hp} (e : Ex H H') : Gr O G H G H' := ⟨Ex.refl G, fun _ _ _ h => h, fun a o _ h => e a o h, fun a h => by
  obtain ⟨o, ho⟩ := Option.ne_none_iff_exists'.mp h
  rw [e a o ho]
  exact fun z => nomatch z⟩
theorem mkE_ex {C : Addr} {σ : L2.St} {H : Hp} {Q : VK} (h : ∀ (t e : Addr) (H' : Hp), Ex H H' → H' e = some (ErrO (.ref C) t e) → H' t = some (.tup []) → Q (.ref e) H') : tMkE C σ H Q := fun t e ht he => by
  have e1 : Ex H (upd H t (.tup [])) := Ex.new ht
  have e2 : Ex (upd H t (.tup [])) (upd (upd H t (.tup [])) e (ErrO (.ref C) t e)) := Ex.new he
  exact h t e _ (e1.trans e2) upd_same (e2 _ _ upd_same)
theorem Sta.setAny {G H : Hp} {σ : L2.St} (hS : Sta K G H ρ σ) {i : Nat} {o : Option V} (hi : ρ[i]? = some .any) : Sta K G H ρ (σ.set i o) ∧ Kp ρ σ ρ (σ.set i o) := by
  have oth : ∀ (j : Nat) (s : Sl), ρ[j]? = some s → owning s = true → (σ.set i o)[j]? = σ[j]? := fun j s h1 h2 => by
    rw [List.getElem?_set_ne]
    intro z
    subst z
    rw [hi] at h1
    cases h1
    cases h2
  refine ⟨⟨by rw [List.length_set]; exact hS.len, hS.sub, fun j s v h1 h2 => ?_, fun j l sj sl a h1 h2 h3 h4 h5 h6 => ?_⟩, ⟨fun j s h1 h2 => ⟨h1, oth j s h1 h2⟩, fun a ⟨j, s, h1, h2, h3⟩ => ⟨j, s, h1, h2, by rw [← oth j s h1 h2]; exact h3⟩⟩⟩
  · by_cases z : i = j
    · subst z
      rw [hi] at h1
      cases h1
      trivial
    · rw [List.getElem?_set_ne z] at h2
      exact hS.ok j s v h1 h2
  · rw [oth j sj h1 h3] at h5
    rw [oth l sl h2 h4] at h6
    exact hS.dis j l sj sl a h1 h2 h3 h4 h5 h6
/-- the loop's body, told by its readings -/
def tErrs (K : PySem.W.Frag) (B : Addr) (i : Nat) : TS :=
  tSeq (tIfS (tOr (tNot (tB (tCB (rIsO K) (tCons (tVar i) (tCons (tC (.ref B)) tNil))))) (tOr (tNot (tB (tCB (rIsO K) (tCons (tVar i) (tCons (tC (.ty "ValueError")) tNil))))) (tTest (tOp (rNeP K) (tCB (rStrO K) (tCons (tVar i) tNil)) (tC (.str ""))))))
    (tSeq (tRet (tC (.bl false))) tNext) tNext) tNext
theorem st_errs (hE : ∀ a b, E a = E b) (isE : ∀ c : Ek, ExcC K (cl c)) (strE : ∀ c : Ek, PySem.W.findIn K (.ref (cl c)) "__str__" = some (some (.builtin "BaseException.__str__"))) (sb : ∀ c : Ek, PySem.W.subIn K (.ref (cl c)) (.type "BaseException") = some true)
    (kOne : ∀ c d : Ek, PySem.W.kitOne K (.ref (cl c)) (.ref (cl d)) = some (subE c d)) (kVE : ∀ c : Ek, PySem.W.kitOne K (.ref (cl c)) (.type "ValueError") = some true) {i : Nat} {u : TS} {g : Tr β} (hi : ρ[i]? = some .any) (h0 : i ≠ 0) (k : StG K cl E oc ρ' u ρ g) :
    StG K cl E oc ρ' (tSeq (tFor (iTup K (tTup (tCons (tMkE (cl .base)) (tCons (tMkE (cl .kind)) (tCons (tMkE (cl .value)) (tCons (tMkE (cl .patch)) (tCons (tMkE (cl .unfit)) tNil))))))) (gName i) (tErrs K (cl .base) i)) u) ρ g := fun G H σ hS D q => by
  simp only [tSeq, tFor, iTup, tTup, tCons, tNil]
  refine mkE_ex (fun t1 e1 H1 x1 a1 b1 => ?_)
  refine mkE_ex (fun t2 e2 H2 x2 a2 b2 => ?_)
  refine mkE_ex (fun t3 e3 H3 x3 a3 b3 => ?_)
  refine mkE_ex (fun t4 e4 H4 x4 a4 b4 => ?_)
  refine mkE_ex (fun t5 e5 H5 x5 a5 b5 => ?_)
  refine ⟨by show 5 ≤ sizeLine; decide, fun p hp => ?_⟩
  have x6 : Ex H5 (upd H5 p (.tup [.ref e1, .ref e2, .ref e3, .ref e4, .ref e5])) := Ex.new hp
  have hP : (upd H5 p (.tup [.ref e1, .ref e2, .ref e3, .ref e4, .ref e5])) p = some (.tup [.ref e1, .ref e2, .ref e3, .ref e4, .ref e5]) := upd_same
  generalize upd H5 p (.tup [.ref e1, .ref e2, .ref e3, .ref e4, .ref e5]) = H6 at x6 hP
  have y5 := x5.trans x6
  have y4 := x4.trans y5
  have y3 := x3.trans y4
  have y2 := x2.trans y3
  have y1 := x1.trans y2
  have S6 : Sta K G H6 ρ σ := hS.grow (Gr.exts y1) (fun a o h => y1 a o (hS.sub a o h))
  have each : ∀ (j : Nat) (x : V), [V.ref e1, .ref e2, .ref e3, .ref e4, .ref e5][j]? = some x → ∃ c t e, x = .ref e ∧ H6 e = some (ErrO (.ref (cl c)) t e) ∧ H6 t = some (.tup []) := fun j x hj => by
    match j with
    | 0 => cases hj; exact ⟨.base, t1, e1, rfl, y2 _ _ a1, y2 _ _ b1⟩
    | 1 => cases hj; exact ⟨.kind, t2, e2, rfl, y3 _ _ a2, y3 _ _ b2⟩
    | 2 => cases hj; exact ⟨.value, t3, e3, rfl, y4 _ _ a3, y4 _ _ b3⟩
    | 3 => cases hj; exact ⟨.patch, t4, e4, rfl, y5 _ _ a4, y5 _ _ b4⟩
    | 4 => cases hj; exact ⟨.unfit, t5, e5, rfl, x6 _ _ a5, x6 _ _ b5⟩
    | n + 5 => simp at hj
  have hl : i < σ.length := by
    rw [← hS.len]
    exact (List.getElem?_eq_some_iff.mp hi).1
  refine ⟨p, rfl, ⟨_, SqT.of hP⟩, for_tup (K := K) (a := p) (xs := [.ref e1, .ref e2, .ref e3, .ref e4, .ref e5]) (D := { D with nx := u D }) (fun _ σ' H' => H' = H6 ∧ ∃ o, σ' = σ.set i o)
    ⟨rfl, σ[i], (List.set_getElem_self hl).symm⟩ (fun _ σ' H' _ ⟨eH, _⟩ => by rw [eH]; exact SqT.of hP) (fun j x σ' H' hj ⟨eH, o, es⟩ => ?_) (fun σ' H' ⟨eH, o, es⟩ => ?_)⟩
  · subst eH
    subst es
    obtain ⟨c, t, e, rfl, he, ht⟩ := each j x hj
    show tErrs K (cl .base) i _ ((σ.set i o).set i (some (.ref e))) H'
    rw [List.set_set]
    have hs : (σ.set i (some (V.ref e)))[i]? = some (some (.ref e)) := List.getElem?_set_self hl
    have sub1 : subE c .base = true := by cases c <;> rfl
    refine ⟨.ref e, hs, e, t, cl c, _, _, _, rfl, he, isE c, fun _ z => z, kOne c .base, subE c .base, rfl, ?_⟩
    rw [sub1]
    refine iteF ⟨.ref e, hs, e, t, cl c, .ty "ValueError", .type "ValueError", true, rfl, he, isE c, fun _ z => z, kVE c, true, rfl, iteF ?_⟩
    refine ⟨.ref e, hs, e, t, cl c, rfl, he, ht, strE c, sb c, .str _, .str "", .str _, .str _, rfl, rfl, by decide, _, rfl, ?_⟩
    have e2 : (!PyData.eqv (.str Str.empty) (.str (Str.ofString ""))) = false := by decide
    rw [e2]
    exact ⟨rfl, some (.ref e), rfl⟩
  · subst eH
    subst es
    obtain ⟨S7, kp⟩ := S6.setAny (o := o) hi
    have af : Af K ρ σ G H ρ (σ.set i o) G H' := ⟨Gr.exts y1, S7, fun a z => .inl (kp.bwd a z), fun b z => ⟨z.1, by rw [List.getElem?_set_ne h0]; exact z.2⟩⟩
    exact k G H' _ S7 D (upS hE af q)
end
end Cg
/-! CgM: more: products kept, two names at once, the text of a plain thing. -/
namespace Cg
open PySem PySem.Spec PyProof.Rows L2

/-! ### x *= y -/
def ipMul : TIp := fun x y H Q => ∃ i j, x = .int i ∧ y = .int j ∧ CMul i j ∧ Q (.int (i * j)) H
theorem ip_mul {X : Cx} : PIp X .Mult ipMul := by
  intro pins s σ H x y v u Q I r1 r2 h
  obtain ⟨i, j, e1, e2, hc, q⟩ := h
  subst e1
  subst e2
  obtain ⟨t, rfl⟩ := r1
  obtain ⟨t', rfl⟩ := r2
  exact PySem.P.imul_int ⟨.int _, H, I.tok _, ⟨_, rfl⟩, q⟩ hc.ok
def mulI (i j : Int) : Tr PyData := if (-(2 ^ 64) < i ∧ i < 2 ^ 64) ∨ (-(2 ^ 64) < j ∧ j < 2 ^ 64) then .ret (.int (i * j)) else .bad
def on2g {β : Type} (g : PyData → PyData → Tr β) : List PyData → Tr β
  | [a, b] => g a b
  | _ => .bad
@[simp] theorem on2g_two {β : Type} (g : PyData → PyData → Tr β) (a b : PyData) : on2g g [a, b] = g a b := rfl
section
variable {K : PySem.W.Frag} {cl : Ek → Addr} {E : L2.St → Option XK} {ρ : List Sl} {S β : Type} {oc : β → Ct S} {ρ' : S → List Sl} {u : TS}
theorem st_augM (hE : ∀ a b, E a = E b) {i : Nat} {x : PyData} {te : TE} {f : Tr PyData} {g : PyData → Tr β} (hx : ρ[i]? = some (.dat x)) (h : Ev K cl E te ρ f) (k : ∀ d, StG K cl E oc ρ' u (ρ.set i (.dat d)) (g d)) :
    StG K cl E oc ρ' (tSeq (tAug i te ipMul) u) ρ (f.bind fun y => (asI x).bind fun a => (asI y).bind fun b => (mulI a b).bind g) := fun G H σ hS D q => by
  obtain ⟨o, h1, vx, e, rx⟩ := hS.var hx
  subst e
  refine ⟨vx, h1, h.then (g := fun y => (asI x).bind fun a => (asI y).bind fun b => (mulI a b).bind g) hS q fun d v G1 H1 a rv w => ?_⟩
  cases rx with
  | int m =>
    cases rv with
    | int n =>
      have w' : ((if (-(2 ^ 64) < m ∧ m < 2 ^ 64) ∨ (-(2 ^ 64) < n ∧ n < 2 ^ 64) then Tr.ret (PyData.int (m * n)) else .bad).bind g).wp (fun b => OutP K ρ σ G1 H1 ρ' D (oc b)) (Xo cl (E σ) (Owns ρ σ) H1) := w
      split at w'
      · rename_i hc
        refine ⟨m, n, rfl, rfl, hc, ?_⟩
        have nn : nown ρ i = true := by
          unfold nown
          rw [hx]
          rfl
        have rz : Rp K G1 (.int (m * n)) (.int (m * n)) := .int _
        have kp := kp_put (σ := σ) (v := .int (m * n)) (d := .int (m * n)) nn
        have a2 : Af K ρ σ G1 H1 (ρ.set i (.dat (.int (m * n)))) (σ.set i (some (.int (m * n)))) G1 H1 := ⟨Gr.refl, a.st.put rz, fun x z => .inl (kp.bwd x z), fun b z => by
          obtain ⟨q1, q2⟩ := kp.fwd 0 .box z.1 rfl
          exact ⟨q1, q2.trans z.2⟩⟩
        exact k _ G1 H1 _ (a.st.put rz) D (upS hE a2 w')
      · exact w'.elim
    | _ => exact w.elim
  | _ => exact w.elim

/-! ### a, b = x, y -/
theorem ea_ev {te : TA} {n : Nat} {F : ∀ β : Type, (List PyData → Tr β) → Tr β} (h : EvA K cl E te ρ n F) : EvG K cl E (fun G vs ds => RpAll K G vs ds ∧ ds.length = n) te ρ (F _ Tr.ret) := fun G H σ S Q q =>
  h G H σ S (fun G vs ds => RpAll K G vs ds ∧ ds.length = n) Tr.ret Q _ q fun ds vs G1 H1 g1 S1 rs hl q1 => Po.now q1 S1 ⟨rs, hl⟩
theorem st_par (hE : ∀ a b, E a = E b) {i j : Nat} {ta : TA} {F : ∀ β : Type, (List PyData → Tr β) → Tr β} {g : PyData → PyData → Tr β} (h : EvA K cl E ta ρ 2 F) (k : ∀ a b, StG K cl E oc ρ' u ((ρ.set i (.dat a)).set j (.dat b)) (g a b))
    (hi : nown ρ i = true := by rfl) (hj : ∀ a, nown (ρ.set i (.dat a)) j = true := by intro; rfl) : StG K cl E oc ρ' (tSeq (tPar i j ta) u) ρ ((F _ Tr.ret).bind (on2g g)) := fun G H σ hS D q =>
  (ea_ev h).then (g := on2g g) hS q fun ds vs G1 H1 a rv w => by
    obtain ⟨rs, hl⟩ := rv
    match ds, hl with
    | [d0, d1], _ =>
      match vs, rs with
      | [v0, v1], .cons r1 (.cons r2 .nil) =>
          refine ⟨v0, v1, rfl, ?_⟩
          have kp := kp_put (σ := σ) (v := v0) (d := d0) hi
          have S1 := a.st.put (i := i) r1
          have kp2 := kp_put (σ := σ.set i (some v0)) (v := v1) (d := d1) (hj d0)
          have a2 : Af K ρ σ G1 H1 ((ρ.set i (.dat d0)).set j (.dat d1)) ((σ.set i (some v0)).set j (some v1)) G1 H1 := ⟨Gr.refl, S1.put r2, fun x z => .inl (kp.bwd x (kp2.bwd x z)), fun b z => by
            obtain ⟨q1, q2⟩ := kp.fwd 0 .box z.1 rfl
            obtain ⟨q3, q4⟩ := kp2.fwd 0 .box q1 rfl
            exact ⟨q3, q4.trans (q2.trans z.2)⟩⟩
          exact k d0 d1 G1 H1 _ (S1.put r2) D (upS hE a2 w)
end

/-! ### repr -/
def dRepr : PyData → Tr PyData
  | .int i => if i.natAbs.log2 < 1920 then .ret (.str (toString i)) else .bad
  | .none => .ret (.str "None")
  | .bool b => .ret (.str (if b then "True" else "False"))
  | .str x => if (reprText x).length ≤ sizeLine then .ret (.str (reprText x)) else .bad
  | _ => .bad
def rRepr : List V → Hp → VK → Prop := fun xs H Q => (∃ i, xs = [.int i] ∧ i.natAbs.log2 < 1920 ∧ Q (.str (toString i)) H) ∨ (xs = [.non] ∧ Q (.str "None") H) ∨ (∃ b, xs = [.bl b] ∧ Q (.str (if b then "True" else "False")) H) ∨ ∃ x, xs = [.str x] ∧ (reprText x).length ≤ sizeLine ∧ Q (.str (reprText x)) H
theorem call_repr {X : Cx} : CallR X (.builtin "repr") rRepr := by
  intro pins s σ H xs us Q I r h
  rcases h with ⟨i, rfl, hz, q⟩ | ⟨rfl, q⟩ | ⟨b, rfl, q⟩ | ⟨x, rfl, hz, q⟩
  · obtain ⟨u, rfl, t, rfl⟩ := vals1 r
    exact PySem.P.repr_of_int hz ⟨.str _, H, I.tok _, ⟨_, rfl⟩, q⟩
  · obtain ⟨u, rfl, rx⟩ := vals1 r
    cases rx
    exact PySem.P.repr_of_none ⟨.str _, H, I.tok _, ⟨_, rfl⟩, q⟩
  · obtain ⟨u, rfl, rx⟩ := vals1 r
    cases rx
    exact PySem.P.repr_of_bool ⟨.str _, H, I.tok _, ⟨_, rfl⟩, q⟩
  · obtain ⟨u, rfl, t, rfl⟩ := vals1 r
    exact PySem.P.repr_of_str ⟨.str _, H, I.tok _, ⟨_, rfl⟩, q⟩ hz
theorem rk_repr {K : PySem.W.Frag} : RK1 K rRepr dRepr := fun cl E ρ σ G H x a S rx Q h => by
  cases rx with
  | int i =>
    have h' : (if i.natAbs.log2 < 1920 then Tr.ret (PyData.str (toString i)) else .bad).wp (Po K ρ σ (Rp K) G H Q) (Xo cl (E σ) (Owns ρ σ) H) := h
    split at h'
    · exact .inl ⟨i, rfl, by assumption, Po.now h' S (.str _)⟩
    · exact h'.elim
  | non => exact .inr (.inl ⟨rfl, Po.now h S (.str _)⟩)
  | bl b => exact .inr (.inr (.inl ⟨b, rfl, Po.now h S (.str _)⟩))
  | str x =>
    have h' : (if (reprText x).length ≤ sizeLine then Tr.ret (PyData.str (reprText x)) else .bad).wp (Po K ρ σ (Rp K) G H Q) (Xo cl (E σ) (Owns ρ σ) H) := h
    split at h'
    · exact .inr (.inr (.inr ⟨x, rfl, by assumption, Po.now h' S (.str _)⟩))
    · exact h'.elim
  | _ => exact h.elim

/-! ### //, %, max, min -/
def dDiv : PyData → PyData → Tr PyData
  | .int i, .int j => if 0 < j ∧ j < 1073741824 then .ret (.int (i / j)) else .bad
  | _, _ => .bad
def dMod : PyData → PyData → Tr PyData
  | .int i, .int j => if 0 < j then .ret (.int (i % j)) else .bad
  | _, _ => .bad
def dMax : PyData → PyData → Tr PyData
  | .int i, .int j => .ret (.int (if j > i then j else i))
  | _, _ => .bad
def dMin : PyData → PyData → Tr PyData
  | .int i, .int j => .ret (.int (if j < i then j else i))
  | _, _ => .bad
section
variable {K : PySem.W.Frag}
theorem rr_div : RR K (rI CDiv fun i j => .int (i / j)) dDiv := fun cl E ρ σ G H x y a b S rx ry Q h => by
  cases rx with
  | int i =>
    cases ry with
    | int j =>
      have h' : (if 0 < j ∧ j < 1073741824 then Tr.ret (PyData.int (i / j)) else .bad).wp (Po K ρ σ (Rp K) G H Q) (Xo cl (E σ) (Owns ρ σ) H) := h
      split at h'
      · exact ⟨i, j, rfl, rfl, by assumption, Po.now h' S (.int _)⟩
      · exact h'.elim
    | _ => exact h.elim
  | _ => exact h.elim
theorem rr_mod : RR K (rI (fun _ j => 0 < j) fun i j => .int (i % j)) dMod := fun cl E ρ σ G H x y a b S rx ry Q h => by
  cases rx with
  | int i =>
    cases ry with
    | int j =>
      have h' : (if 0 < j then Tr.ret (PyData.int (i % j)) else .bad).wp (Po K ρ σ (Rp K) G H Q) (Xo cl (E σ) (Owns ρ σ) H) := h
      split at h'
      · exact ⟨i, j, rfl, rfl, by assumption, Po.now h' S (.int _)⟩
      · exact h'.elim
    | _ => exact h.elim
  | _ => exact h.elim
@[simp] theorem on2_two (f : PyData → PyData → Tr PyData) (a b : PyData) : on2 f [a, b] = f a b := rfl
theorem rk_max2 : RK K (fun xs H Q => ∃ i j, xs = [.int i, .int j] ∧ Q (.int (if j > i then j else i)) H) (on2 dMax) := fun cl E ρ σ G H vs ds S r Q h => by
  match ds, vs, r, h with
  | [a, b], [x, y], .cons r1 (.cons r2 .nil), h =>
    cases r1 with
    | int i =>
      cases r2 with
      | int j => exact ⟨i, j, rfl, Po.now h S (.int _)⟩
      | _ => exact h.elim
    | _ => exact h.elim
  | [], _, _, h => exact h.elim
  | [_], _, _, h => exact h.elim
  | _ :: _ :: _ :: _, _, _, h => exact h.elim
theorem rk_min2 : RK K (fun xs H Q => ∃ i j, xs = [.int i, .int j] ∧ Q (.int (if j < i then j else i)) H) (on2 dMin) := fun cl E ρ σ G H vs ds S r Q h => by
  match ds, vs, r, h with
  | [a, b], [x, y], .cons r1 (.cons r2 .nil), h =>
    cases r1 with
    | int i =>
      cases r2 with
      | int j => exact ⟨i, j, rfl, Po.now h S (.int _)⟩
      | _ => exact h.elim
    | _ => exact h.elim
  | [], _, _, h => exact h.elim
  | [_], _, _, h => exact h.elim
  | _ :: _ :: _ :: _, _, _, h => exact h.elim
end

/-! ### loops over pairs and triples -/
section
variable {K : PySem.W.Frag} {cl : Ek → Addr} {E : L2.St → Option XK} {ρ : List Sl}
variable {S β : Type} {oc : β → Ct S} {ρ' : S → List Sl} {S1 : Type} {ρs : S1 → List Sl} {r : PyData → β} {tl : TE} {tb u : TS} {fl : Tr PyData} {k : S1 → Tr β} {s0 : S1} {i j l : Nat}
theorem and_two {a b : Bool} (h : (a && b) = true) : a = true ∧ b = true := Bool.and_eq_true_iff.mp h
theorem st_forS2 (hE : ∀ a b, E a = E b) (hr : ∀ d, oc (r d) = .rt d) {f : PyData → PyData → S1 → Tr (Ct S1)} (hl : Ev K cl E tl ρ fl) (w : Wk ρ (ρs s0)) (hi : ∀ s, (nown (ρs s) i && nown (ρs s) j) = true) (hf : ∀ a b s, StG K cl E id ρs tb (((ρs s).set i (.dat a)).set j (.dat b)) (f a b s)) (hk : ∀ s, StG K cl E oc ρ' u (ρs s) (k s)) (ne : i ≠ j := by decide) :
    StG K cl E oc ρ' (tSeq (tFor (iSeq K tl) (gTup K 2 (gCons (gName i) (gCons (gName j) gNil))) tb) u) ρ (fl.bind fun l => (items l).bind fun xs => forC r (fun d s => un2 (fun a b => f a b s) d) k xs s0) :=
  st_forS (vs := [i, j]) hE hr hl w (fun s => tg_tup2 (and_two (hi s)).1 (and_two (hi s)).2 ne List.mem_cons_self (List.mem_cons_of_mem _ List.mem_cons_self)) (fun d s q => by
    unfold un2
    cases e : pair? d with
    | none => rfl
    | some p => rw [e] at q; cases q) (fun d s q => by
    unfold un2
    cases e : pair? d with
    | none => rw [e] at q; cases q
    | some p => exact hf p.1 p.2 s) hk
theorem st_forS3 (hE : ∀ a b, E a = E b) (hr : ∀ d, oc (r d) = .rt d) {f : PyData → PyData → PyData → S1 → Tr (Ct S1)} (hl : Ev K cl E tl ρ fl) (w : Wk ρ (ρs s0)) (hi : ∀ s, (nown (ρs s) i && (nown (ρs s) j && nown (ρs s) l)) = true) (hf : ∀ a b c s, StG K cl E id ρs tb ((((ρs s).set i (.dat a)).set j (.dat b)).set l (.dat c)) (f a b c s)) (hk : ∀ s, StG K cl E oc ρ' u (ρs s) (k s)) (ne : i ≠ j := by decide) (ne2 : i ≠ l := by decide) (ne3 : j ≠ l := by decide) :
    StG K cl E oc ρ' (tSeq (tFor (iSeq K tl) (gTup K 3 (gCons (gName i) (gCons (gName j) (gCons (gName l) gNil)))) tb) u) ρ (fl.bind fun z => (items z).bind fun xs => forC r (fun d s => un3 (fun a b c => f a b c s) d) k xs s0) :=
  st_forS (vs := [i, j, l]) hE hr hl w (fun s => tg_tup3 (and_two (hi s)).1 (and_two (and_two (hi s)).2).1 (and_two (and_two (hi s)).2).2 ne ne2 ne3 List.mem_cons_self (List.mem_cons_of_mem _ List.mem_cons_self) (List.mem_cons_of_mem _ (List.mem_cons_of_mem _ List.mem_cons_self))) (fun d s q => by
    unfold un3
    cases e : trip? d with
    | none => rfl
    | some p => rw [e] at q; cases q) (fun d s q => by
    unfold un3
    cases e : trip? d with
    | none => rw [e] at q; cases q
    | some p => exact hf p.1 p.2.1 p.2.2 s) hk
end

/-! ### all, any -/
def asBools : List PyData → Option (List Bool)
  | [] => some []
  | .bool i :: r => (asBools r).map (i :: ·)
  | _ => none
def dAll : PyData → Tr PyData
  | .list xs => match asBools xs with
    | some bs => .ret (.bool (bs.all id))
    | none => .bad
  | _ => .bad
def dAny : PyData → Tr PyData
  | .list xs => match asBools xs with
    | some bs => .ret (.bool (bs.any id))
    | none => .bad
  | _ => .bad
section
variable {K : PySem.W.Frag}
theorem asBools_vals {G : Hp} : ∀ {ds : List PyData} {xs : List V} {bs : List Bool}, RpAll K G xs ds → asBools ds = some bs → xs = bs.map V.bl
  | [], _, bs, .nil, h => by
    cases h
    rfl
  | .bool i :: r, _, bs, .cons r1 rs, h => by
    simp only [asBools] at h
    cases e : asBools r with
    | none =>
      rw [e] at h
      cases h
    | some ms =>
      rw [e] at h
      cases h
      cases r1
      rw [asBools_vals rs e]
      rfl
  | .none :: _, _, _, _, h => nomatch h
  | .int _ :: _, _, _, _, h => nomatch h
  | .str _ :: _, _, _, _, h => nomatch h
  | .list _ :: _, _, _, _, h => nomatch h
  | .tuple _ :: _, _, _, _, h => nomatch h
  | .dict _ :: _, _, _, _, h => nomatch h
theorem rk_all : RK1 K (rAll K) dAll := fun cl E ρ σ G H x a S rx Q h => by
  cases rx with
  | @lst p xs ds hs hl ha =>
    have h' : (match asBools ds with | some bs => Tr.ret (PyData.bool (bs.all id)) | none => .bad).wp (Po K ρ σ (Rp K) G H Q) (Xo cl (E σ) (Owns ρ σ) H) := h
    cases hd : asBools ds with
    | none =>
      rw [hd] at h'
      exact h'.elim
    | some bs =>
      rw [hd] at h'
      have e2 := asBools_vals ha hd
      subst e2
      exact ⟨p, bs, rfl, S.sub.l hs, Po.now h' S (.bl _)⟩
  | _ => exact h.elim
theorem rk_any : RK1 K (rAny K) dAny := fun cl E ρ σ G H x a S rx Q h => by
  cases rx with
  | @lst p xs ds hs hl ha =>
    have h' : (match asBools ds with | some bs => Tr.ret (PyData.bool (bs.any id)) | none => .bad).wp (Po K ρ σ (Rp K) G H Q) (Xo cl (E σ) (Owns ρ σ) H) := h
    cases hd : asBools ds with
    | none =>
      rw [hd] at h'
      exact h'.elim
    | some bs =>
      rw [hd] at h'
      have e2 := asBools_vals ha hd
      subst e2
      exact ⟨p, bs, rfl, S.sub.l hs, Po.now h' S (.bl _)⟩
  | _ => exact h.elim
end

/-! ### < of data that can be compared place by place -/
def rLtP (K : PySem.W.Frag) : R2 := fun x y H Q => ∃ d e, Dp K H x d ∧ Dp K H y e ∧ PySem.W.alike d e = true ∧ d ≠ .none ∧ min d.depth e.depth ≤ 64 ∧ Q (.bl (PySem.W.dataLt d e)) H
theorem op_ltP {X : Cx} (hu : X.A.units + 64 < cLine) : OpR X (compareOp .Lt) (rLtP X.K) := by
  intro pins s σ H x y v u Q I rx ry h
  obtain ⟨d, e, hd, he, ha, hn, hm, q⟩ := h
  obtain ⟨as, r1⟩ := Dp.reads I d x v hd rx
  obtain ⟨bs, r2⟩ := Dp.reads I e y u he ry
  exact PySem.W.lt_data r1 r2 ha hn (by omega) ⟨.bl _, H, I, rfl, q⟩
def cLtA : PyData → PyData → Tr Bool
  | .int i, .int j => .ret (decide (i < j))
  | .tuple xs, .tuple ys => if PySem.W.alike (.tuple xs) (.tuple ys) = true ∧ min (PyData.tuple xs).depth (PyData.tuple ys).depth ≤ 64 then .ret (PySem.W.dataLt (.tuple xs) (.tuple ys)) else .bad
  | _, _ => .bad
def rLtA (K : PySem.W.Frag) : R2 := fun x y H Q => rI0 (fun i j => .bl (decide (i < j))) x y H Q ∨ rLtP K x y H Q
theorem op_ltA {X : Cx} (hu : X.A.units + 64 < cLine) : OpR X (compareOp .Lt) (rLtA X.K) := op_lt.or (op_ltP hu)
theorem rc_ltA {K : PySem.W.Frag} : RC K (rLtA K) cLtA := fun G H x y a b Er e rx ry Q h => by
  cases rx with
  | int i =>
    cases ry with
    | int j => exact .inl ⟨_, _, rfl, rfl, h⟩
    | _ => exact h.elim
  | @tup t xs ds hs hl ha =>
    cases ry with
    | @tup t' ys es hs' hl' ha' =>
      have h' : (if PySem.W.alike (.tuple ds) (.tuple es) = true ∧ min (PyData.tuple ds).depth (PyData.tuple es).depth ≤ 64 then Tr.ret (PySem.W.dataLt (.tuple ds) (.tuple es)) else .bad).wp (fun k => Q (.bl k) H) Er := h
      split at h'
      · rename_i hz
        exact .inr ⟨_, _, ((Rp.tup hs hl ha).mono e).dp, ((Rp.tup hs' hl' ha').mono e).dp, hz.1, (fun z => nomatch z), hz.2, h'⟩
      · exact h'.elim
    | _ => exact h.elim
  | _ => exact h.elim
end Cg
/-! CgA: lists that a def builds for itself. -/
namespace Cg
open PySem PySem.Spec PyProof.Rows L2
def unL : PyData → List PyData
  | .list xs => xs
  | _ => []
@[simp] theorem unL_list (xs : List PyData) : unL (.list xs) = xs := rfl
section
variable {K : PySem.W.Frag} {cl : Ek → Addr} {E : L2.St → Option XK} {ρ : List Sl} {σ : L2.St} {G H G1 H1 : Hp}
theorem get_lt {α : Type} {l : List α} {i : Nat} {x : α} (h : l[i]? = some x) : i < l.length := (List.getElem?_eq_some_iff.mp h).1
theorem set_self {α : Type} {l : List α} {i : Nat} {x y z : α} (h : l[i]? = some x) (q : (l.set i y)[i]? = some z) : z = y := by
  rw [List.getElem?_set_self (get_lt h)] at q
  exact (Option.some.inj q).symm
/-- what was ours is data from here on -/
theorem freeze (S : Sta K G H ρ σ) {i : Nat} {ds : List PyData} (hi : ρ[i]? = some (.acc ds)) : ∃ G1, Af K ρ σ G H (ρ.set i (.dat (.list ds))) σ G1 H := by
  have hs : i < σ.length := by
    rw [← S.len]
    exact get_lt hi
  have ho : σ[i]? = some σ[i] := List.getElem?_eq_getElem hs
  generalize σ[i] = o at ho
  obtain ⟨a, xs, eo, ha, hl, r, hg⟩ := S.ok i _ o hi ho
  subst eo
  have ow : Owns ρ σ a := ⟨i, _, hi, rfl, ho⟩
  have e : Ex G (upd G a (.lst xs)) := Ex.new hg
  have ne : ∀ (j : Nat) (s : Sl), (ρ.set i (.dat (.list ds)))[j]? = some s → owning s = true → i ≠ j := fun j s h1 h2 z => by
    subst z
    cases set_self hi h1
    cases h2
  refine ⟨upd G a (.lst xs), ⟨e, fun b hb _ hgb => ?_, fun _ _ _ h => h, fun _ h => h⟩, ⟨by rw [List.length_set]; exact S.len, fun b u q => ?_, fun j s o' h1 h2 => ?_, fun j l sj sl b h1 h2 h3 h4 h5 h6 => ?_⟩, fun b h => .inl ?_, fun b h => ⟨?_, h.2⟩⟩
  · rw [upd_ne (fun z => hb (by rw [z]; exact ow))]
    exact hgb
  · by_cases z : b = a
    · rw [z, upd_same] at q
      rw [z, ha]
      exact q
    · rw [upd_ne z] at q
      exact S.sub b u q
  · by_cases z : i = j
    · subst z
      cases set_self hi h1
      rw [ho] at h2
      cases h2
      exact ⟨.ref a, rfl, .lst (SqL.of upd_same) hl (r.mono e)⟩
    · rw [List.getElem?_set_ne z] at h1
      refine (S.ok j s o' h1 h2).grow e (fun b q1 q2 q3 _ => ?_) (fun _ _ _ _ h => h)
      subst q2
      rw [upd_ne (fun y => z (S.dis i j _ s a hi h1 rfl q1 ho (by rw [h2, y])))]
      exact q3
  · have n1 := ne j sj h1 h3
    have n2 := ne l sl h2 h4
    rw [List.getElem?_set_ne n1] at h1
    rw [List.getElem?_set_ne n2] at h2
    exact S.dis j l sj sl b h1 h2 h3 h4 h5 h6
  · obtain ⟨j, s, h1, h2, h3⟩ := h
    rw [List.getElem?_set_ne (ne j s h1 h2)] at h1
    exact ⟨j, s, h1, h2, h3⟩
  · rw [List.getElem?_set_ne (fun z => by
      subst z
      rw [h.1] at hi
      cases hi)]
    exact h.1
/-- a slot that owns nothing takes a new list -/
theorem Sta.newL (S : Sta K G H ρ σ) {i : Nat} {p : Addr} (n : nown ρ i = true) (hp : H p = none) : Af K ρ σ G H (ρ.set i (.acc [])) (σ.set i (some (.ref p))) G (upd H p (.lst [])) := by
  have gp : G p = none := S.sub.back hp
  have old : ∀ (j : Nat) (s : Sl) (b : Addr), ρ[j]? = some s → owning s = true → σ[j]? = some (some (.ref b)) → b ≠ p := fun j s b h1 h2 h3 z => by
    have q := (S.own ⟨j, s, h1, h2, h3⟩).2
    rw [z] at q
    exact q hp
  refine ⟨⟨Ex.refl G, fun _ _ _ h => h, fun b u _ hb => ?_, fun b hb => ?_⟩, ⟨by rw [List.length_set, List.length_set]; exact S.len, fun b u q => ?_, fun j s o h1 h2 => ?_, fun j l sj sl b h1 h2 h3 h4 h5 h6 => ?_⟩, fun b h => ?_, fun b h => ?_⟩
  · rw [upd_ne (ne_of_none hb hp)]
    exact hb
  · rw [upd_ne (fun z => hb (by rw [z]; exact hp))]
    exact hb
  · have := S.sub b u q
    rw [upd_ne (ne_of_none this hp)]
    exact this
  · by_cases z : i = j
    · subst z
      have l1 : i < ρ.length := by
        have := get_lt h1
        rwa [List.length_set] at this
      have l2 : i < σ.length := by
        rw [← S.len]
        exact l1
      rw [List.getElem?_set_self l1] at h1
      rw [List.getElem?_set_self l2] at h2
      cases h1
      cases h2
      exact ⟨p, [], rfl, upd_same, Nat.zero_le _, .nil, gp⟩
    · rw [List.getElem?_set_ne z] at h1 h2
      refine (S.ok j s o h1 h2).grow (Ex.refl G) (fun _ _ _ h _ => h) fun b u q1 q2 h => ?_
      subst q2
      rw [upd_ne (old j s b h1 q1 h2)]
      exact h
  · by_cases z1 : i = j
    · by_cases z2 : i = l
      · exact z1.symm.trans z2
      · exfalso
        subst z1
        have l2 : i < σ.length := by
          have := get_lt h5
          rwa [List.length_set] at this
        rw [List.getElem?_set_self l2] at h5
        rw [List.getElem?_set_ne z2] at h2 h6
        exact old l sl b h2 h4 h6 (by cases h5; rfl)
    · by_cases z2 : i = l
      · exfalso
        subst z2
        have l2 : i < σ.length := by
          have := get_lt h6
          rwa [List.length_set] at this
        rw [List.getElem?_set_self l2] at h6
        rw [List.getElem?_set_ne z1] at h1 h5
        exact old j sj b h1 h3 h5 (by cases h6; rfl)
      · rw [List.getElem?_set_ne z1] at h1 h5
        rw [List.getElem?_set_ne z2] at h2 h6
        exact S.dis j l sj sl b h1 h2 h3 h4 h5 h6
  · obtain ⟨j, s, h1, h2, h3⟩ := h
    by_cases z : i = j
    · subst z
      have l2 : i < σ.length := by
        have := get_lt h3
        rwa [List.length_set] at this
      rw [List.getElem?_set_self l2] at h3
      cases h3
      exact .inr hp
    · rw [List.getElem?_set_ne z] at h1 h3
      exact .inl ⟨j, s, h1, h2, h3⟩
  · have z : i ≠ 0 := fun z => by
      subst z
      have := nown_of n _ h.1
      cases this
    exact ⟨by rw [List.getElem?_set_ne z]; exact h.1, by rw [List.getElem?_set_ne z]; exact h.2⟩
/-- what is ours is put behind -/
theorem Sta.push (S : Sta K G H ρ σ) {i : Nat} {ds : List PyData} {a : Addr} {xs : List V} {v : V} {d : PyData} (hi : ρ[i]? = some (.acc ds)) (ho : σ[i]? = some (some (.ref a))) (ha : H a = some (.lst xs)) (r : RpAll K G xs ds) (rv : Rp K G v d) (hl : ds.length < sizeLine) (hg : G a = none) :
    Af K ρ σ G H (ρ.set i (.acc (ds ++ [d]))) σ G (upd H a (.lst (xs ++ [v]))) := by
  have ow : Owns ρ σ a := ⟨i, _, hi, rfl, ho⟩
  have oth : ∀ (j : Nat) (s : Sl) (b : Addr), i ≠ j → ρ[j]? = some s → owning s = true → σ[j]? = some (some (.ref b)) → b ≠ a := fun j s b z h1 h2 h3 y => z (S.dis i j _ s a hi h1 rfl h2 ho (by rw [h3, y]))
  have sl : ∀ (j : Nat) (s : Sl), (ρ.set i (.acc (ds ++ [d])))[j]? = some s → owning s = true → ∃ s', ρ[j]? = some s' ∧ owning s' = true := fun j s h1 h2 => by
    by_cases z : i = j
    · subst z
      exact ⟨_, hi, rfl⟩
    · rw [List.getElem?_set_ne z] at h1
      exact ⟨s, h1, h2⟩
  refine ⟨⟨Ex.refl G, fun _ _ _ h => h, fun b u hb h => ?_, fun b h => ?_⟩, ⟨by rw [List.length_set]; exact S.len, fun b u q => ?_, fun j s o h1 h2 => ?_, fun j l sj sl' b h1 h2 h3 h4 h5 h6 => ?_⟩, fun b h => .inl ?_, fun b h => ⟨?_, h.2⟩⟩
  · rw [upd_ne (fun z => hb (by rw [z]; exact ow))]
    exact h
  · by_cases z : b = a
    · rw [z, upd_same]
      exact fun y => nomatch y
    · rw [upd_ne z]
      exact h
  · rw [upd_ne (fun z => by
      rw [z, hg] at q
      cases q)]
    exact S.sub b u q
  · by_cases z : i = j
    · subst z
      cases set_self hi h1
      rw [ho] at h2
      cases h2
      refine ⟨a, xs ++ [v], rfl, upd_same, ?_, r.append (.cons rv .nil), hg⟩
      rw [List.length_append, List.length_singleton]
      omega
    · rw [List.getElem?_set_ne z] at h1
      refine (S.ok j s o h1 h2).grow (Ex.refl G) (fun _ _ _ h _ => h) fun b u q1 q2 h => ?_
      subst q2
      rw [upd_ne (oth j s b z h1 q1 h2)]
      exact h
  · obtain ⟨s1, g1, g2⟩ := sl j sj h1 h3
    obtain ⟨s2, g3, g4⟩ := sl l sl' h2 h4
    exact S.dis j l s1 s2 b g1 g3 g2 g4 h5 h6
  · obtain ⟨j, s, h1, h2, h3⟩ := h
    obtain ⟨s1, g1, g2⟩ := sl j s h1 h2
    exact ⟨j, s1, g1, g2, h3⟩
  · rw [List.getElem?_set_ne (fun z => by
      subst z
      rw [h.1] at hi
      cases hi)]
    exact h.1
end
section
variable {K : PySem.W.Frag} {cl : Ek → Addr} {E : L2.St → Option XK} {ρ : List Sl} {S β : Type} {oc : β → Ct S} {ρ' : S → List Sl} {u : TS}
theorem st_freeze (hE : ∀ a b, E a = E b) {i : Nat} {ds : List PyData} {t : Tr β} (hi : ρ[i]? = some (.acc ds)) (k : StG K cl E oc ρ' u (ρ.set i (.dat (.list ds))) t) : StG K cl E oc ρ' u ρ t := fun G H σ hS D q => by
  obtain ⟨G1, a⟩ := freeze hS hi
  exact k G1 H σ a.st D (upS hE a q)
/-- name = [] -/
theorem st_accNew (hE : ∀ a b, E a = E b) {i : Nat} {g : PyData → Tr β} (k : ∀ v, StG K cl E oc ρ' u (ρ.set i (.acc (unL v))) (g v)) (n : nown ρ i = true := by rfl) : StG K cl E oc ρ' (tSeq (tAsg (tLst tNil) (gName i)) u) ρ ((Tr.ret (PyData.list [])).bind g) := fun G H σ hS D q =>
  ⟨Nat.zero_le _, fun p hp => k (.list []) G _ _ (hS.newL n hp).st D (upS hE (hS.newL n hp) q)⟩
/-- at most so many are put behind -/
def dApp (a y : PyData) : Tr PyData := if (unL a).length < 1000000 then .ret (.list (unL a ++ [y])) else .bad
/-- name.append(e) -/
theorem st_append (hE : ∀ a b, E a = E b) {i : Nat} {a : PyData} {te : TE} {f : Tr PyData} {g : PyData → Tr β} (hi : ρ[i]? = some (.acc (unL a))) (h : Ev K cl E te ρ f) (k : ∀ v, StG K cl E oc ρ' u (ρ.set i (.acc (unL v))) (g v)) :
    StG K cl E oc ρ' (tSeq (tDrop (tBM K "list" rAppend (tVar i) (tCons te tNil))) u) ρ (f.bind fun y => (dApp a y).bind g) := fun G H σ hS D q => by
  have hs : i < σ.length := by
    rw [← hS.len]
    exact get_lt hi
  have ho : σ[i]? = some σ[i] := List.getElem?_eq_getElem hs
  generalize σ[i] = o at ho
  obtain ⟨p, xs, eo, hp, hl, r, hg⟩ := hS.ok i _ o hi ho
  subst eo
  refine ⟨.ref p, ho, .inl ⟨rfl, _, SqL.of hp⟩, h.then (g := fun y => (dApp a y).bind g) hS q fun y v G1 H1 af rv w => ?_⟩
  obtain ⟨p', xs', eo, hp', hl', r', hg'⟩ := af.st.ok i _ _ hi ho
  obtain rfl : p = p' := V.ref.inj (Option.some.inj eo)
  have w' : ((if (unL a).length < 1000000 then Tr.ret (PyData.list (unL a ++ [y])) else .bad).bind g).wp (fun b => OutP K ρ σ G1 H1 ρ' D (oc b)) (Xo cl (E σ) (Owns ρ σ) H1) := w
  split at w'
  · rename_i hz
    have hz' : (unL a).length < sizeLine := by rw [sizeLine_eq]; omega
    have a2 := af.st.push hi ho hp' r' rv hz' hg'
    exact ⟨p, xs', v, rfl, rfl, hp', by rw [r'.len]; exact hz', k (.list (unL a ++ [y])) G1 _ σ a2.st D (upS hE a2 w')⟩
  · exact w'.elim
end

/-! ### -x, x ** y -/
def dNeg : PyData → Tr PyData
  | .int i => .ret (.int (-i))
  | _ => .bad
def dPow : PyData → PyData → Tr PyData
  | .int i, .int j => if 0 ≤ j ∧ j ≤ 1000 ∧ i.natAbs < 10000 then .ret (.int (i ^ j.toNat)) else .bad
  | _, _ => .bad
section
variable {K : PySem.W.Frag} {cl : Ek → Addr} {E : L2.St → Option XK} {ρ : List Sl}
theorem ev_neg {te : TE} {f : Tr PyData} (h : Ev K cl E te ρ f) : Ev K cl E (tUn (rU fun i => .int (-i)) te) ρ (f.bind dNeg) := fun G H σ S Q q => h.seq S q fun a x G1 H1 g1 S1 rx q1 => by
  cases rx with
  | int i => exact ⟨i, rfl, Po.now q1 S1 (.int _)⟩
  | _ => exact q1.elim
theorem rr_pow : RR K (rI CPow fun i j => .int (i ^ j.toNat)) dPow := fun cl E ρ σ G H x y a b S rx ry Q h => by
  cases rx with
  | int i =>
    cases ry with
    | int j =>
      have h' : (if 0 ≤ j ∧ j ≤ 1000 ∧ i.natAbs < 10000 then Tr.ret (PyData.int (i ^ j.toNat)) else .bad).wp (Po K ρ σ (Rp K) G H Q) (Xo cl (E σ) (Owns ρ σ) H) := h
      split at h'
      · rename_i hz
        exact ⟨i, j, rfl, rfl, ⟨hz.1, by omega, by omega⟩, Po.now h' S (.int _)⟩
      · exact h'.elim
    | _ => exact h.elim
  | _ => exact h.elim
end
end Cg
/-! CgZ: a comprehension over two at once. -/
namespace Cg
open PySem PySem.Spec PyProof.Rows L2 RZ
def dPairs (xs ys : List PyData) : List PyData := List.zipWith (fun x y => PyData.tuple [x, y]) xs ys
def dZip : PyData → PyData → Tr (List PyData)
  | .tuple xs, .tuple ys => .ret (dPairs xs ys)
  | .list xs, .list ys => .ret (dPairs xs ys)
  | _, _ => .bad
theorem pairs_len (xs ys : List PyData) : (dPairs xs ys).length = min xs.length ys.length := List.length_zipWith
theorem pairs_get {xs ys : List PyData} {i : Nat} {d e : PyData} (h1 : xs[i]? = some d) (h2 : ys[i]? = some e) : (dPairs xs ys)[i]? = some (.tuple [d, e]) := by
  unfold dPairs
  rw [List.getElem?_zipWith, h1, h2]
section
variable {K : PySem.W.Frag} {cl : Ek → Addr} {E : L2.St → Option XK} {ρ : List Sl} {σ : L2.St} {G H G1 H1 : Hp}
theorem walk_zipT {a b : Addr} {xs ys : List V} {n : Nat} (hn : n = min xs.length ys.length) : Walk (ItzT K a b) n (fun H => SqT K H a xs ∧ SqT K H b ys) (YPair (fun i => xs[i]?) (fun i => ys[i]?)) := by
  refine ⟨fun i H hi q => ?_, fun H q => ⟨xs, ys, q.1, q.2, by omega⟩, fun i H x H' hi q y => ?_⟩
  · have l1 : i < xs.length := by omega
    have l2 : i < ys.length := by omega
    exact ⟨xs, ys, xs[i], ys[i], q.1, q.2, List.getElem?_eq_getElem l1, List.getElem?_eq_getElem l2⟩
  · obtain ⟨T, u, v, e1, hT, e2, f1, f2⟩ := y
    exact ⟨T, u, v, e1, hT, e2, f1 xs q.1, f2 ys q.2⟩
theorem Lc.lay {Dl : Addr} {acc : List PyData} {n : Nat} {G' H' : Hp} {T : Addr} {o : HO} (L : Lc K ρ σ G H Dl acc n G' H') (hT : H' T = none) : Lc K ρ σ G H Dl acc n (upd G' T o) (upd H' T o) := by
  obtain ⟨xs, hx, ha⟩ := L.at'
  have ne : Dl ≠ T := ne_of_none hx hT
  exact ⟨L.gr.trans' (Gr.lay hT L.st.sub), L.st.lay hT, L.old, by rw [upd_ne ne]; exact L.out, ⟨xs, by rw [upd_ne ne]; exact hx, ha.mono (Ex.new (L.st.sub.back hT))⟩, L.len⟩
theorem lc_zipW (hE : ∀ a b, E a = E b) {g : TG} {tt : TT} {te : TE} {vs : List Nat} {ρx : PyData → List Sl} {ok : PyData → Bool} {c : PyData → Tr Bool} {f : PyData → Tr PyData} (hv : ∀ i ∈ vs, ρ[i]? = some .any) (tg : Tg K g vs ρ ρx ok) (hb : ∀ d, ok d = false → c d = .bad)
    (ht : ∀ d, ok d = true → EvT K cl E tt (ρx d) (c d)) (he : ∀ d, ok d = true → Ev K cl E te (ρx d) (f d)) {Q : VK} {J : It} {n : Nat} {Gp : Hp → Prop} {xs ys : List V} {ds es : List PyData} (w : Walk J n Gp (YPair (fun i => xs[i]?) (fun i => ys[i]?)))
    (hn : n = min ds.length es.length) (hz : n ≤ sizeLine) (hG : ∀ H', Ex G1 H' → Gp H') (ra : RpAll K G1 xs ds) (rb : RpAll K G1 ys es) (S1 : Sta K G1 H1 ρ σ) (h1 : ((lcT c f [] (dPairs ds es)).bind fun ys => Tr.ret (PyData.list ys)).wp (Po K ρ σ (Rp K) G1 H1 Q) (Xo cl (E σ) (Owns ρ σ) H1)) {Dl : Addr} (hD : H1 Dl = none) :
    ∃ W : Nat → Nat → Hp → Prop, (∃ m, W 0 m (upd H1 Dl (.lst []))) ∧ ∀ i m H, W i m H →
      (J.stop i H ∧ Q (.ref Dl) H) ∨ (J.go i H ∧ ∃ Nx : Hp → Prop, (∀ H', Nx H' → ∃ m', m' < m ∧ W (i + 1) m' H') ∧ ∀ x H', J.yld i H x H' → g x (wipe σ vs) H' fun σ2 H2 => wipe σ2 vs = wipe σ vs ∧ tt σ2 H2 fun b H3 =>
        if b = true then te σ2 H3 fun y H4 => ∃ acc, H4 Dl = some (.lst acc) ∧ acc.length < sizeLine ∧ Nx (upd H4 Dl (.lst (acc ++ [y]))) else Nx H3) := by
  refine lc_it w (Qd := fun H => Q (.ref Dl) H) (fun i H' => ∃ G' acc, Lc K ρ σ G1 H1 Dl acc i G' H' ∧ ((lcT c f acc ((dPairs ds es).drop i)).bind fun ys => Tr.ret (PyData.list ys)).wp (Po K ρ σ (Rp K) G1 H1 Q) (Xo cl (E σ) (Owns ρ σ) H1))
    ⟨G1, [], lc_start S1 hD, h1⟩ (fun i H' _ ⟨G', acc, L, _⟩ => hG H' (L.gr.ex.trans L.st.sub)) (fun i x H2 H' hi ⟨G', acc, L, q⟩ y => ?_) fun H' ⟨G', acc, L, q⟩ => ?_
  · obtain ⟨T, u, v, rfl, hT, rfl, hx, hy⟩ := y
    obtain ⟨d, hd, r1⟩ := ra.getV hx
    obtain ⟨e, he', r2⟩ := rb.getV hy
    rw [drop_cons (pairs_get hd he')] at q
    have L2 := L.lay (o := .tup [u, v]) hT
    refine lc_turn hE hv tg hb ht he S1 L2 (Nat.lt_of_lt_of_le hi hz) (.tup (SqT.of upd_same) (by show 2 ≤ sizeLine; rw [sizeLine_eq]; omega) (.cons (r1.mono L2.gr.ex) (.cons (r2.mono L2.gr.ex) .nil))) (fun acc' G'' H'' L' q' => ⟨G'', acc', L', q'⟩) q
  · have e : (dPairs ds es).drop n = [] := List.drop_eq_nil_of_le (by rw [pairs_len, hn]; exact Nat.le_refl _)
    rw [e] at q
    obtain ⟨G2, g2, S2, r2⟩ := L.done S1 hz
    exact q _ G2 _ g2 S2 r2
theorem ev_lcZ (hE : ∀ a b, E a = E b) {ta tb : TE} {g : TG} {tt : TT} {te : TE} {vs : List Nat} {ρx : PyData → List Sl} {ok : PyData → Bool} {fa fb : Tr PyData} {c : PyData → Tr Bool} {f : PyData → Tr PyData} (ha : Ev K cl E ta ρ fa) (hb2 : Ev K cl E tb ρ fb) (hv : ∀ i ∈ vs, ρ[i]? = some .any) (tg : Tg K g vs ρ ρx ok) (hb : ∀ d, ok d = false → c d = .bad)
    (ht : ∀ d, ok d = true → EvT K cl E tt (ρx d) (c d)) (he : ∀ d, ok d = true → Ev K cl E te (ρx d) (f d)) : Ev K cl E (tLc (iZipA K (tCons ta (tCons tb tNil))) g tt te vs) ρ (fa.bind fun a => fb.bind fun b => (dZip a b).bind fun xs => (lcT c f [] xs).bind fun ys => .ret (.list ys)) :=
  fun G H σ S Q h => ha.seq S h fun a x G1 H1 g1 S1 rx h1 => hb2.seq S1 h1 fun b y G2 H2 g2 S2 ry h2 => by
    have rx' := rx.mono g2.ex
    cases rx' with
    | @tup p xs ds hs hz ra =>
      cases ry with
      | @tup q ys es hs' hz' rb =>
        refine ⟨p, q, xs, ys, rfl, .inr ⟨S2.sub.t hs, S2.sub.t hs', fun Dl hD => ?_⟩⟩
        exact lc_zipW hE hv tg hb ht he (walk_zipT rfl) (by rw [ra.len, rb.len]) (by rw [ra.len, rb.len]; omega) (fun H' e => ⟨e.t hs, e.t hs'⟩) ra rb S2 h2 hD
      | _ => exact h2.elim
    | @lst p xs ds hs hz ra =>
      cases ry with
      | @lst q ys es hs' hz' rb =>
        refine ⟨p, q, xs, ys, rfl, .inl ⟨S2.sub.l hs, S2.sub.l hs', fun Dl hD => ?_⟩⟩
        exact lc_zipW hE hv tg hb ht he (walk_zip rfl) (by rw [ra.len, rb.len]) (by rw [ra.len, rb.len]; omega) (fun H' e => ⟨e.l hs, e.l hs'⟩) ra rb S2 h2 hD
      | _ => exact h2.elim
    | _ =>
      cases ry <;> exact h2.elim
/-- two names -/
theorem ev_lcZ2 (hE : ∀ a b, E a = E b) {ta tb te : TE} {fa fb : Tr PyData} {i j : Nat} {f : PyData → PyData → Tr PyData} (ha : Ev K cl E ta ρ fa) (hb2 : Ev K cl E tb ρ fb) (hv : ([i, j].all fun i => match ρ[i]? with | some .any => true | _ => false) = true) (he : ∀ a b, Ev K cl E te ((ρ.set i (.dat a)).set j (.dat b)) (f a b)) (hi : nown ρ i = true := by rfl) (hj : nown ρ j = true := by rfl) (ne : i ≠ j := by decide) :
    Ev K cl E (tLc (iZipA K (tCons ta (tCons tb tNil))) (gTup K 2 (gCons (gName i) (gCons (gName j) gNil))) tYes te [i, j]) ρ (fa.bind fun a => fb.bind fun b => (dZip a b).bind fun xs => (mapT (un2 f) xs).bind fun ys => .ret (.list ys)) := by
  refine (ev_lcZ hE (c := un2 fun _ _ => .ret true) (f := un2 f) ha hb2 (any_of hv) (tg_tup2 hi hj ne List.mem_cons_self (List.mem_cons_of_mem _ List.mem_cons_self)) (fun d q => ?_) (fun d q => ?_) fun d q => ?_).eq ?_
  · unfold un2
    cases e : pair? d with
    | none => rfl
    | some p => rw [e] at q; cases q
  · unfold un2
    cases e : pair? d with
    | none => rw [e] at q; cases q
    | some p => exact et_yes
  · unfold un2
    cases e : pair? d with
    | none => rw [e] at q; cases q
    | some p => exact he p.1 p.2
  · congr; funext l; congr; funext m; congr; funext xs
    refine lc_map (fun d => ?_) xs
    unfold un2
    cases e : pair? d with
    | none => exact .inr ⟨rfl, rfl⟩
    | some p => exact .inl rfl
end
end Cg
/-! CgD: a dict of defs, read into a name and called. -/
namespace Cg
open PySem PySem.Spec PyProof.Rows L2 ItX
section
variable {K : PySem.W.Frag} {cl : Ek → Addr} {E : L2.St → Option XK} {ρ : List Sl} {σ : L2.St} {G H : Hp}
theorem Sta.putS (S : Sta K G H ρ σ) {i : Nat} {v : V} {t : Sl} (ht : owning t = false) (r : SlOk K G H t (some v)) : Sta K G H (ρ.set i t) (σ.set i (some v)) := by
  refine ⟨by rw [List.length_set, List.length_set]; exact S.len, S.sub, fun j s o h1 h2 => ?_, fun j k sj sk a h1 h2 h3 h4 h5 h6 => ?_⟩
  · by_cases z : i = j
    · subst z
      have hl : i < σ.length := by
        have := get_lt h2
        rwa [List.length_set] at this
      rw [List.getElem?_set_self (by rw [S.len]; exact hl)] at h1
      rw [List.getElem?_set_self hl] at h2
      cases h1
      cases h2
      exact r
    · rw [List.getElem?_set_ne z] at h1 h2
      exact S.ok j s o h1 h2
  · have ne : ∀ (m : Nat) (s : Sl), (ρ.set i t)[m]? = some s → owning s = true → i ≠ m := fun m s q1 q2 z => by
      subst z
      have hl : i < ρ.length := by
        have := get_lt q1
        rwa [List.length_set] at this
      rw [List.getElem?_set_self hl] at q1
      cases q1
      rw [ht] at q2
      cases q2
    have n1 := ne j sj h1 h3
    have n2 := ne k sk h2 h4
    rw [List.getElem?_set_ne n1] at h1 h5
    rw [List.getElem?_set_ne n2] at h2 h6
    exact S.dis j k sj sk a h1 h2 h3 h4 h5 h6
theorem kp_putS {i : Nat} {v : V} {t : Sl} (ht : owning t = false) (n : nown ρ i = true) : Kp ρ σ (ρ.set i t) (σ.set i (some v)) := by
  refine ⟨fun j s h1 h2 => ?_, fun a h => ?_⟩
  · have z : i ≠ j := fun z => by
      subst z
      rw [nown_of n s h1] at h2
      cases h2
    exact ⟨by rw [List.getElem?_set_ne z]; exact h1, List.getElem?_set_ne z⟩
  · obtain ⟨j, s, h1, h2, h3⟩ := h
    by_cases z : i = j
    · subst z
      have hl : i < ρ.length := by
        have := get_lt h1
        rwa [List.length_set] at this
      rw [List.getElem?_set_self hl] at h1
      cases h1
      rw [ht] at h2
      cases h2
    · rw [List.getElem?_set_ne z] at h1 h3
      exact ⟨j, s, h1, h2, h3⟩
end
structure FdAt (w : World) (K : PySem.W.Frag) (p : Addr) (tab : List (Str × Addr)) : Prop where
  ex : ∃ es n, K.lookup p = some ⟨.type "dict", none, .dict es n, #[]⟩ ∧ PySem.W.KeysLit w.params es.toList
  at' : ∀ q ∈ tab, PySem.W.nsIn K p q.1 = some (some (.ref q.2))
/-- the name of the def that is read -/
def fdT (names : List Str) : PyData → Tr Str
  | .str s => match names.find? (fun q => q == s) with
    | some q => .ret q
    | none => .bad
  | _ => .bad
section
variable {w : World} {K : PySem.W.Frag} {cl : Ek → Addr} {E : L2.St → Option XK} {ρ : List Sl} {S β : Type} {oc : β → Ct S} {ρ' : S → List Sl} {u : TS}
theorem st_asgF (hE : ∀ a b, E a = E b) {i : Nat} {p : Addr} {tab : List (Str × Addr)} {tb : TE} {fb : Tr PyData} {g : Str → Tr β} (D : FdAt w K p tab) (hb : Ev K cl E tb ρ fb) (k : ∀ q ∈ tab, StG K cl E oc ρ' u (ρ.set i (.val (.ref q.2))) (g q.1)) (n : nown ρ i = true := by rfl) :
    StG K cl E oc ρ' (tSeq (tAsg (tOp (rIxD K w) (tC (.ref p)) tb) (gName i)) u) ρ (fb.bind fun y => (fdT (tab.map Prod.fst) y).bind g) := fun G H σ hS DD q =>
  hb.then (g := fun y => (fdT (tab.map Prod.fst) y).bind g) hS q fun y v G1 H1 a ry w' => by
    cases ry with
    | str s =>
      have w2 : ((match (tab.map Prod.fst).find? (fun q => q == s) with | some q => Tr.ret q | none => .bad).bind g).wp (fun b => OutP K ρ σ G1 H1 ρ' DD (oc b)) (Xo cl (E σ) (Owns ρ σ) H1) := w'
      cases e : (tab.map Prod.fst).find? (fun q => q == s) with
      | none =>
        rw [e] at w2
        exact w2.elim
      | some z =>
        rw [e] at w2
        have hz := List.mem_of_find?_eq_some e
        have hs : z = s := by simpa using List.find?_some e
        obtain ⟨q, hq, rfl⟩ := List.mem_map.mp hz
        obtain ⟨es, m, hl, hk⟩ := D.ex
        have ht := D.at' q hq
        rw [hs] at ht
        have kp := kp_putS (σ := σ) (v := .ref q.2) (t := .val (.ref q.2)) rfl n
        have S2 := a.st.putS (i := i) (v := .ref q.2) (t := .val (.ref q.2)) rfl rfl
        have a2 : Af K ρ σ G1 H1 (ρ.set i (.val (.ref q.2))) (σ.set i (some (.ref q.2))) G1 H1 := ⟨Gr.refl, S2, fun x z => .inl (kp.bwd x z), fun b z => by
          obtain ⟨q1, q2⟩ := kp.fwd 0 .box z.1 rfl
          exact ⟨q1, q2.trans z.2⟩⟩
        exact ⟨p, s, .ref q.2, rfl, rfl, ⟨es, m, _, hl, hk, ht, rfl⟩, k q hq G1 H1 _ S2 DD (upS hE a2 w2)⟩
    | _ => exact w'.elim
end
/-- a call by one of several readings -/
theorem pe_alt {X : Cx} {e : Expr} {κ : Type} {t : κ → TE} (h : ∀ k, PE X e (t k)) : PE X e (fun σ H Q => ∃ k, t k σ H Q) :=
  ⟨fun pins s σ H Q I ⟨k, q⟩ => (h k).run pins s σ H Q I q⟩
section
variable {K : PySem.W.Frag} {cl : Ek → Addr} {ρ : List Sl}
/-- the call of what was read -/
def tCallF (i n : Nat) (K : PySem.W.Frag) (tab : List (Str × Addr)) (m : Str → List PyData → Tr PyData) (t : TA) : TE := fun σ H Q => ∃ q : { q : Str × Addr // q ∈ tab }, tCallV i q.1.2 (fun vs H Q E => SpN K n (m q.1.1) (vs ++ []) H Q E) E0 t σ H Q
theorem ev_callF {ta : TA} {n i : Nat} {tab : List (Str × Addr)} {q : Str × Addr} {F : ∀ β : Type, (List PyData → Tr β) → Tr β} {m : Str → List PyData → Tr PyData} (hq : q ∈ tab) (hi : ρ[i]? = some (.val (.ref q.2))) (ha : EvA K cl (fun _ => none) ta ρ n F) : Ev K cl (fun _ => none) (tCallF i n K tab m ta) ρ (F _ (m q.1)) :=
  fun G H σ S Q h => by
    have hs : i < σ.length := by
      rw [← S.len]
      exact get_lt hi
    have ho : σ[i]? = some σ[i] := List.getElem?_eq_getElem hs
    generalize σ[i] = o at ho
    have e : o = some (.ref q.2) := S.ok i _ o hi ho
    subst e
    exact ⟨⟨q, hq⟩, ho, ha G H σ S (Rp K) (m q.1) Q _ h fun ds vs G1 H1 g1 S1 rs hl h1 => ⟨ds, G1, by rw [List.append_nil]; exact rs, hl, S1.sub, call_core S1 h1⟩⟩
end
/-! ### a if c else b, as a test -/
def tIfT (tc ta tb : TT) : TT := fun σ H Q => tc σ H fun k H1 => if k = true then ta σ H1 Q else tb σ H1 Q
theorem pt_ifE {X : Cx} {c a b : Expr} {pos : Pos} {tc ta tb : TT} (hc : PT X c tc) (ha : PT X a ta) (hb : PT X b tb) : PT X (.IfExp c a b pos) (tIfT tc ta tb) := by
  refine ⟨fun pins s σ H Q I h => ?_⟩
  rw [PySem.isTrue]
  refine wpAny_bind (thn (hc.run pins s σ H _ I h) fun k s1 ⟨H1, I1, q1⟩ => ?_)
  cases k with
  | true => exact ha.run pins s1 σ H1 Q I1 q1
  | false => exact hb.run pins s1 σ H1 Q I1 q1
theorem et_ifE {K : PySem.W.Frag} {cl : Ek → Addr} {E : L2.St → Option XK} {ρ : List Sl} {tc ta tb : TT} {fc fa fb : Tr Bool} (hc : EvT K cl E tc ρ fc) (ha : EvT K cl E ta ρ fa) (hb : EvT K cl E tb ρ fb) : EvT K cl E (tIfT tc ta tb) ρ (fc.bind fun k => if k then fa else fb) := fun G H σ S Q q => hc.seq S q fun a x G1 H1 g1 S1 rx q1 => by
  cases rx
  cases a with
  | true => exact ha G1 H1 σ S1 Q q1
  | false => exact hb G1 H1 σ S1 Q q1
end Cg
/-! CgN: whole numbers and tuples of such, nested, as keys; sets of them. -/
namespace Cgn
open PySem PySem.Spec PyProof.Rows L2
open SeqAt

/-! ### data that are numbers and tuples of such -/
mutual
def numD : PyData → Bool
  | .int _ => true
  | .tuple xs => numDs xs
  | _ => false
def numDs : List PyData → Bool
  | [] => true
  | x :: xs => numD x && numDs xs
end
mutual
def toK : PyData → NestedKey
  | .int i => .num i
  | .tuple xs => .tup (toKs xs)
  | _ => .none
def toKs : List PyData → List NestedKey
  | [] => []
  | x :: xs => toK x :: toKs xs
end
mutual
theorem toK_depth : ∀ d : PyData, numD d = true → (toK d).depth = d.depth
  | .int _, _ => rfl
  | .tuple xs, h => by
    rw [toK, NestedKey.depth, PyData.depth, toKs_depth xs (by rw [numD] at h; exact h)]
  | .none, h | .bool _, h | .str _, h | .list _, h | .dict _, h => by simp [numD] at h
theorem toKs_depth : ∀ ds : List PyData, numDs ds = true → NestedKey.depthAll (toKs ds) = PyData.depthAll ds
  | [], _ => rfl
  | x :: xs, h => by
    rw [numDs, Bool.and_eq_true] at h
    rw [toKs, NestedKey.depthAll, PyData.depthAll, toK_depth x h.1, toKs_depth xs h.2]
end
mutual
theorem toK_inj : ∀ d e : PyData, numD d = true → numD e = true → toK d = toK e → d = e
  | .int i, .int j, _, _, h => by
    rw [toK, toK] at h
    injection h with h
    rw [h]
  | .int _, .tuple _, _, _, h => by simp [toK] at h
  | .tuple _, .int _, _, _, h => by simp [toK] at h
  | .tuple xs, .tuple ys, h1, h2, h => by
    rw [numD] at h1 h2
    rw [toK, toK] at h
    injection h with h
    rw [toKs_inj xs ys h1 h2 h]
  | .none, _, h, _, _ | .bool _, _, h, _, _ | .str _, _, h, _, _ | .list _, _, h, _, _ | .dict _, _, h, _, _ => by simp [numD] at h
  | .int _, .none, _, h, _ | .int _, .bool _, _, h, _ | .int _, .str _, _, h, _ | .int _, .list _, _, h, _ | .int _, .dict _, _, h, _ => by simp [numD] at h
  | .tuple _, .none, _, h, _ | .tuple _, .bool _, _, h, _ | .tuple _, .str _, _, h, _ | .tuple _, .list _, _, h, _ | .tuple _, .dict _, _, h, _ => by simp [numD] at h
theorem toKs_inj : ∀ ds es : List PyData, numDs ds = true → numDs es = true → toKs ds = toKs es → ds = es
  | [], [], _, _, _ => rfl
  | [], _ :: _, _, _, h => by simp [toKs] at h
  | _ :: _, [], _, _, h => by simp [toKs] at h
  | x :: xs, y :: ys, h1, h2, h => by
    rw [numDs, Bool.and_eq_true] at h1 h2
    rw [toKs, toKs] at h
    injection h with ha hb
    rw [toK_inj x y h1.1 h2.1 ha, toKs_inj xs ys h1.2 h2.2 hb]
end
section
variable {h : Heap}
mutual
theorem nested_of : ∀ (d : PyData) (v : Value) (as : List Addr), numD d = true → Reads h v d as → NestedIs h (toK d) v
  | .int i, _, _, _, r => by
    cases r with
    | int i t => exact .int i t
  | .tuple xs, _, _, q, r => by
    rw [numD] at q
    cases r with
    | tuple h1 h2 h3 h4 => exact .tup h1 h2 h3 (nesteds_of xs _ _ q h4)
  | .none, _, _, h, _ | .bool _, _, _, h, _ | .str _, _, _, h, _ | .list _, _, _, h, _ | .dict _, _, _, h, _ => by simp [numD] at h
theorem nesteds_of : ∀ (ds : List PyData) (vs : List Value) (as : List Addr), numDs ds = true → ReadsAll h vs ds as → NestedAll h (toKs ds) vs
  | [], _, _, _, r => by
    cases r
    exact .nil
  | x :: xs, _, _, q, r => by
    rw [numDs, Bool.and_eq_true] at q
    cases r with
    | cons r1 r2 => exact .cons (nested_of x _ _ q.1 r1) (nesteds_of xs _ _ q.2 r2)
end
end
mutual
theorem numD_plain : ∀ d : PyData, numD d = true → d.plain = true
  | .int _, _ => rfl
  | .tuple xs, h => by
    rw [numD] at h
    show PyData.plainAll xs = true
    exact numDs_plain xs h
  | .none, h | .bool _, h | .str _, h | .list _, h | .dict _, h => by simp [numD] at h
theorem numDs_plain : ∀ ds : List PyData, numDs ds = true → PyData.plainAll ds = true
  | [], _ => rfl
  | x :: xs, h => by
    rw [numDs, Bool.and_eq_true] at h
    show (PyData.plain x && PyData.plainAll xs) = true
    rw [numD_plain x h.1, numDs_plain xs h.2]
    rfl
end
mutual
theorem numD_eqv : ∀ d e : PyData, numD d = true → numD e = true → (PyData.eqv d e = true ↔ d = e)
  | .int i, .int j, _, _ => by simp [PyData.eqv]
  | .int _, .tuple _, _, _ => by simp [PyData.eqv]
  | .tuple _, .int _, _, _ => by simp [PyData.eqv]
  | .tuple xs, .tuple ys, h1, h2 => by
    rw [numD] at h1 h2
    rw [PyData.eqv, numDs_eqv xs ys h1 h2]
    exact ⟨fun e => by rw [e], fun e => by injection e⟩
  | .none, _, h, _ | .bool _, _, h, _ | .str _, _, h, _ | .list _, _, h, _ | .dict _, _, h, _ => by simp [numD] at h
  | .int _, .none, _, h | .int _, .bool _, _, h | .int _, .str _, _, h | .int _, .list _, _, h | .int _, .dict _, _, h => by simp [numD] at h
  | .tuple _, .none, _, h | .tuple _, .bool _, _, h | .tuple _, .str _, _, h | .tuple _, .list _, _, h | .tuple _, .dict _, _, h => by simp [numD] at h
theorem numDs_eqv : ∀ ds es : List PyData, numDs ds = true → numDs es = true → (PyData.eqvAll ds es = true ↔ ds = es)
  | [], [], _, _ => by simp [PyData.eqvAll]
  | [], _ :: _, _, _ => by simp [PyData.eqvAll]
  | _ :: _, [], _, _ => by simp [PyData.eqvAll]
  | x :: xs, y :: ys, h1, h2 => by
    rw [numDs, Bool.and_eq_true] at h1 h2
    rw [PyData.eqvAll, Bool.and_eq_true, numD_eqv x y h1.1 h2.1, numDs_eqv xs ys h1.2 h2.2, List.cons.injEq]
end

/-! ### keys of numbers only, in a heap -/
mutual
def numK : NestedKey → Bool
  | .num _ => true
  | .tup ks => numKs ks
  | _ => false
def numKs : List NestedKey → Bool
  | [] => true
  | k :: ks => numK k && numKs ks
end
mutual
theorem numK_of : ∀ d : PyData, numD d = true → numK (toK d) = true
  | .int _, _ => rfl
  | .tuple xs, h => by
    rw [numD] at h
    rw [toK, numK]
    exact numKs_of xs h
  | .none, h | .bool _, h | .str _, h | .list _, h | .dict _, h => by simp [numD] at h
theorem numKs_of : ∀ ds : List PyData, numDs ds = true → numKs (toKs ds) = true
  | [], _ => rfl
  | x :: xs, h => by
    rw [numDs, Bool.and_eq_true] at h
    rw [toKs, numKs, numK_of x h.1, numKs_of xs h.2]
    rfl
end
/-- at b stands the tuple k, of numbers only, eight deep at most -/
structure At (h : Heap) (k : NestedKey) (b : Addr) : Prop where
  is : NestedIs h k (.ref b)
  dp : k.depth ≤ 8
  nm : numK k = true
theorem At.inj {h : Heap} {x y : NestedKey} {b : Addr} (p : At h x b) (q : At h y b) : x = y := NestedIs.inj _ _ _ p.is q.is
theorem At.keep {h h' : Heap} {k : NestedKey} {b : Addr} (p : At h k b) (q : ∀ c o vs n, h.get? c = some o → o.data = .seq vs n → h'.get? c = some o) : At h' k b := ⟨NestedIs.at q _ _ p.is, p.dp, p.nm⟩
theorem At.all {h h' : Heap} {k : NestedKey} {b : Addr} (p : At h k b) (q : ∀ c o, h.get? c = some o → h'.get? c = some o) : At h' k b := p.keep fun c o _ _ e _ => q c o e
/-- a change at a set's own place -/
theorem At.but {h h' : Heap} {k : NestedKey} {a b : Addr} {o : Obj} {es : Array (Int × Value)} {ep : Nat} {t : SetTable} (p : At h k b) (ho : h.get? a = some o) (hd : o.data = .set es ep t) (s : Heap.SameBut a h h') : At h' k b :=
  p.keep fun c u vs n e f => (s.2 c fun z => by
    subst z
    rw [ho] at e
    cases e
    rw [hd] at f
    cases f).trans e
theorem At.ty {s : Shared} {k : NestedKey} {b : Addr} (p : At s.heap k b) : s.TypeIs (.ref b) "tuple" := by
  cases p.is with
  | tup h1 h2 _ _ => exact ⟨_, h1, h2⟩

section
variable {P : Program} {w : World} {A : Around} {E : Value → Shared → Prop} {s : Shared}

/-! ### what a set asks of its elements -/
mutual
theorem cls_no : ∀ (k : NestedKey) (v : Value) (n : Nat) (A : Around) (E : Value → Shared → Prop) (s : Shared) (Q : Bool → Shared → Prop), NestedIs s.heap k v → k.depth ≤ n → Q false s → wpAny (model P w) A (ofAClassStatement n v) Q E s
  | .none, _, n, A, E, s, Q, x, _, q => by
    cases x
    cases n <;> exact wpAny_pure q
  | .num i, _, n, A, E, s, Q, x, _, q => by
    cases x <;> cases n <;> exact wpAny_pure q
  | .text i, _, n, A, E, s, Q, x, _, q => by
    cases x
    cases n <;> exact wpAny_pure q
  | .tup ks, _, 0, A, E, s, Q, x, hn, q => by
    simp only [NestedKey.depth] at hn
    omega
  | .tup ks, _, n + 1, A, E, s, Q, x, hn, q => by
    cases x with
    | @tup b o vs m _ h1 h2 h3 h4 =>
      simp only [NestedKey.depth] at hn
      have ty : s.TypeIs (.ref b) "tuple" := ⟨o, h1, h2⟩
      unfold ofAClassStatement
      refine wpAny_bind (wpAny_typeOf ty ?_)
      dsimp only
      have e : (("tuple" : String) == "tuple") = true := by decide
      simp only [e, if_true, Bool.not_true, Bool.false_eq_true, if_false]
      try refine wpAny_bind (wpAny_pure ?_)
      try simp only [Bool.not_true, Bool.false_eq_true, if_false]
      show wpAny _ _ (seqItems? (.ref b) >>= _) _ _ s
      refine wpAny_bind (wpAny_seqItems h1 h3 ?_)
      dsimp only
      refine wpAny_bind ?_
      show wpAny _ _ (forIn vs _ _) _ _ s
      rw [← Array.forIn_toList]
      have each : ∀ v ∈ vs.toList, ∀ (A : Around) (E : Value → Shared → Prop) (Q : Bool → Shared → Prop), Q false s → wpAny (model P w) A (ofAClassStatement n v) Q E s := clss_no ks vs.toList n s h4 (by omega)
      refine wpAny_forIn_list _ (fun l r s' => r.1 = none ∧ s' = s ∧ ∀ v ∈ l, v ∈ vs.toList) _ ?_ ?_ _ _ ⟨rfl, rfl, fun v hv => hv⟩
      · rintro v l r s' ⟨hr, rfl, hl⟩
        refine wpAny_bind (each v (hl v List.mem_cons_self) _ _ _ ?_)
        simp only [Bool.false_eq_true, if_false]
        exact wpAny_pure ⟨rfl, rfl, fun u hu => hl u (List.mem_cons_of_mem _ hu)⟩
      · rintro ⟨r1, r2⟩ s' ⟨hr, rfl, _⟩
        simp only at hr
        subst hr
        exact wpAny_pure q
theorem clss_no : ∀ (ks : List NestedKey) (vs : List Value) (n : Nat) (s : Shared), NestedAll s.heap ks vs → NestedKey.depthAll ks ≤ n →
    ∀ v ∈ vs, ∀ (A : Around) (E : Value → Shared → Prop) (Q : Bool → Shared → Prop), Q false s → wpAny (model P w) A (ofAClassStatement n v) Q E s
  | [], _, n, s, x, _, v, hv, A, E, Q, q => by
    cases x
    cases hv
  | k :: ks, _, n, s, x, hn, v, hv, A, E, Q, q => by
    simp only [NestedKey.depthAll] at hn
    cases x with
    | cons x1 x2 =>
      rcases List.mem_cons.mp hv with e | hv
      · subst e
        exact cls_no k _ n A E s Q x1 (by omega) q
      · exact clss_no ks _ n s x2 (by omega) v hv A E Q q
end
mutual
theorem hash_yes : ∀ (k : NestedKey) (v : Value) (n : Nat) (A : Around) (E : Value → Shared → Prop) (s : Shared) (Q : Bool → Shared → Prop), NestedIs s.heap k v → numK k = true → k.depth ≤ n → Q true s → wpAny (model P w) A (hashByValue n v) Q E s
  | .none, _, n, A, E, s, Q, x, hk, _, q => by simp [numK] at hk
  | .text i, _, n, A, E, s, Q, x, hk, _, q => by simp [numK] at hk
  | .num i, _, n, A, E, s, Q, x, _, _, q => by
    cases x <;> cases n <;> exact wpAny_pure q
  | .tup ks, _, 0, A, E, s, Q, x, _, hn, q => by
    simp only [NestedKey.depth] at hn
    omega
  | .tup ks, _, n + 1, A, E, s, Q, x, hk, hn, q => by
    rw [numK] at hk
    cases x with
    | @tup b o vs m _ h1 h2 h3 h4 =>
      simp only [NestedKey.depth] at hn
      have ty : s.TypeIs (.ref b) "tuple" := ⟨o, h1, h2⟩
      unfold hashByValue
      refine wpAny_bind (wpAny_specialOf ty F.slot_tuple_hash.lookup ?_)
      show wpAny _ _ (seqItems? (.ref b) >>= _) _ _ s
      refine wpAny_bind (wpAny_seqItems h1 h3 ?_)
      refine wpAny_bind ?_
      show wpAny _ _ (forIn vs _ _) _ _ s
      rw [← Array.forIn_toList]
      have each : ∀ v ∈ vs.toList, ∀ (A : Around) (E : Value → Shared → Prop) (Q : Bool → Shared → Prop), Q true s → wpAny (model P w) A (hashByValue n v) Q E s := hashs_yes ks vs.toList n s h4 hk (by omega)
      refine wpAny_forIn_list _ (fun l r s' => r.1 = none ∧ s' = s ∧ ∀ v ∈ l, v ∈ vs.toList) _ ?_ ?_ _ _ ⟨rfl, rfl, fun v hv => hv⟩
      · rintro v l r s' ⟨hr, rfl, hl⟩
        refine wpAny_bind (each v (hl v List.mem_cons_self) _ _ _ ?_)
        simp only [Bool.not_true, Bool.false_eq_true, if_false]
        exact wpAny_pure ⟨rfl, rfl, fun u hu => hl u (List.mem_cons_of_mem _ hu)⟩
      · rintro ⟨r1, r2⟩ s' ⟨hr, rfl, _⟩
        simp only at hr
        subst hr
        exact wpAny_pure q
theorem hashs_yes : ∀ (ks : List NestedKey) (vs : List Value) (n : Nat) (s : Shared), NestedAll s.heap ks vs → numKs ks = true → NestedKey.depthAll ks ≤ n →
    ∀ v ∈ vs, ∀ (A : Around) (E : Value → Shared → Prop) (Q : Bool → Shared → Prop), Q true s → wpAny (model P w) A (hashByValue n v) Q E s
  | [], _, n, s, x, _, _, v, hv, A, E, Q, q => by
    cases x
    cases hv
  | k :: ks, _, n, s, x, hk, hn, v, hv, A, E, Q, q => by
    rw [numKs, Bool.and_eq_true] at hk
    simp only [NestedKey.depthAll] at hn
    cases x with
    | cons x1 x2 =>
      rcases List.mem_cons.mp hv with e | hv
      · subst e
        exact hash_yes k _ n A E s Q x1 hk.1 (by omega) q
      · exact hashs_yes ks _ n s x2 hk.2 (by omega) v hv A E Q q
end
theorem At.quiet {k : NestedKey} {b : Addr} {Q : Bool → Shared → Prop} (p : At s.heap k b) (q : Q true s) : wpAny (model P w) A (eqIsQuiet 8 (.ref b)) Q E s := quiet_key k _ 8 s p.is p.dp A E Q q
theorem At.cls {k : NestedKey} {b : Addr} {Q : Bool → Shared → Prop} (p : At s.heap k b) (q : Q false s) : wpAny (model P w) A (ofAClassStatement 8 (.ref b)) Q E s := cls_no k _ 8 A E s Q p.is p.dp q
theorem At.byv {k : NestedKey} {b : Addr} {Q : Bool → Shared → Prop} (p : At s.heap k b) (q : Q true s) : wpAny (model P w) A (hashByValue 8 (.ref b)) Q E s := hash_yes k _ 8 A E s Q p.is p.nm p.dp q
theorem At.eq {k l : NestedKey} {b c : Addr} {Q : Bool → Shared → Prop} (hu : A.units + 8 < cLine) (p : At s.heap k b) (r : At s.heap l c) (q : Q (decide (k = l)) s) : wpAny (model P w) A (eqBool (.ref b) (.ref c)) Q E s :=
  eqAt_key k l A s _ _ p.is r.is (by have := p.dp; omega) _ _ _ _ (by rw [← NestedKey.decide_eq]; exact q)
theorem At.hash {k : NestedKey} {b : Addr} {Q : Int → Shared → Prop} (hu : A.units + 8 < cLine) (p : At s.heap k b) (q : Q (k.hash w) { s with toks := s.toks + k.draws }) : wpAny (model P w) A (pyHash (.ref b)) Q E s :=
  pyHash_key k _ A s Q p.is (by have := p.dp; omega) q
/-- looking for a tuple among tuples tells nothing -/
theorem unseen {k : NestedKey} {b : Addr} {ys : List Value} {Q : Bool → Shared → Prop} (p : At s.heap k b) (hy : ∀ y ∈ ys, ∃ l c, y = Value.ref c ∧ At s.heap l c) (q : Q false s) : wpAny (model P w) A (searchCouldBeSeen (.ref b) ys) Q E s := by
  unfold searchCouldBeSeen
  refine wpAny_bind ?_
  refine wpAny_forIn_list _ (fun l r s' => r.1 = none ∧ s' = s ∧ ∀ y ∈ l, y ∈ ys) _ ?_ ?_ _ _ ⟨rfl, rfl, fun y h => h⟩
  · rintro v l r s' ⟨hr, rfl, hl⟩
    obtain ⟨k', c, rfl, hc⟩ := hy v (hl v List.mem_cons_self)
    have next : ∀ y ∈ l, y ∈ ys := fun u hu => hl u (List.mem_cons_of_mem _ hu)
    dsimp only
    by_cases hv : (b == c || (carriedByValue (.ref b) && carriedByValue (.ref c))) = true
    · exact wp_if_pos hv (wpAny_pure ⟨rfl, rfl, next⟩)
    · refine wp_if_neg hv ?_
      refine wpAny_bind (p.quiet ?_)
      simp only [Bool.not_true, Bool.false_eq_true, if_false]
      refine wpAny_bind (hc.quiet ?_)
      simp only [Bool.not_true, Bool.false_eq_true, if_false]
      refine wpAny_bind (p.cls ?_)
      simp only [Bool.false_eq_true, if_false]
      refine wpAny_bind (hc.cls ?_)
      simp only [Bool.false_eq_true, if_false]
      exact wpAny_pure ⟨rfl, rfl, next⟩
  · rintro ⟨r1, r2⟩ s' ⟨hr, rfl, _⟩
    simp only at hr
    subst hr
    exact wpAny_pure q
end
end Cgn
/-! CgS: set(xs) for a list of nested tuples of numbers, and sorted of that. -/
namespace Cgn
open PySem PySem.Spec PyProof.Rows L2

/-- an element: where its tuple stands, and what it is -/
abbrev Elt := Addr × NestedKey
def ents (w : World) (L : List Elt) : List (Int × Value) := L.map fun p => (p.2.hash w, Value.ref p.1)
def hs (w : World) (L : List Elt) : List Int := L.map fun p => p.2.hash w
theorem ents_len (w : World) (L : List Elt) : (ents w L).length = L.length := List.length_map _
theorem ents_get {w : World} {L : List Elt} {i : Nat} {p : Elt} (h : L[i]? = some p) : (ents w L)[i]? = some (p.2.hash w, Value.ref p.1) := by
  unfold ents
  rw [List.getElem?_map, h]
  rfl
structure SetN (w : World) (h : Heap) (a : Addr) (L : List Elt) (es : Array (Int × Value)) (ep : Nat) (t : SetTable) : Prop where
  ob : ∃ o, h.get? a = some o ∧ o.ExactSet ∧ o.data = .set es ep t
  en : es.toList = ents w L
  tab : TabOk t (hs w L)
  nd : (L.map (·.2)).Nodup
  el : ∀ p ∈ L, At h p.2 p.1
  pl : t.plain = true
  ld : w.params.followText "set-order" = true ∨ t.led = true
  rm : L.length * 5 < t.mask * 3
  fw : L.length < 64

section
variable {P : Program} {w : World} {A : Around} {E : Value → Shared → Prop} {s : Shared} {a : Addr} {L : List Elt} {es : Array (Int × Value)} {ep : Nat} {t : SetTable}
theorem SetN.sz {h : Heap} (R : SetN w h a L es ep t) : es.size = L.length := by
  rw [← Array.length_toList, R.en, ents_len]
theorem SetN.pls {h : Heap} (R : SetN w h a L es ep t) : t.place.toList.length = L.length := by
  have q := R.tab.sz
  unfold hs at q
  rw [List.length_map] at q
  rw [Array.length_toList, q]
theorem fits_of {es : Array (Int × Value)} {t : SetTable} (h1 : t.place.size = es.size) (h2 : t.dummies = #[]) (h3 : es.size ≤ t.mask) : t.fits es.size = true := by
  unfold SetTable.fits SetTable.fill
  rw [h2, Bool.and_eq_true, beq_iff_eq, decide_eq_true_eq]
  show t.place.size = es.size ∧ t.place.size + 0 ≤ t.mask
  omega
theorem SetN.fit {h : Heap} (R : SetN w h a L es ep t) : t.fits es.size = true := by
  have h1 := R.pls
  rw [Array.length_toList] at h1
  have h2 := R.sz
  have h3 := R.rm
  exact fits_of (by omega) R.tab.dm (by omega)
theorem SetN.get {h : Heap} (R : SetN w h a L es ep t) {i : Nat} {p : Elt} (q : L[i]? = some p) : es[i]? = some (p.2.hash w, Value.ref p.1) := by
  rw [← Array.getElem?_toList, R.en]
  exact ents_get q
theorem SetN.way {h : Heap} (R : SetN w h a L es ep t) : ¬ t.gaveWay = true := by
  unfold SetTable.gaveWay
  rw [mask_odd R.tab.mok]
  decide
/-- the k-th place that is looked at -/
abbrev pth (t : SetTable) (h : Int) : SetTable.Probe := runAt t.mask (SetTable.bits h % (t.mask + 1)) (SetTable.bits h)
theorem nth_dummy (m : Nat) : ∀ (n : Nat) (p : SetTable.Probe), p.dummy = none → (nth m p n).dummy = none
  | 0, p, h => h
  | n + 1, p, h => nth_dummy m n (adv m p) (by
    unfold adv
    split <;> exact h)

/-- the search, from its c-th place on; K is the first free one -/
theorem seek (R : SetN w s.heap a L es ep t) {x : Addr} {k : NestedKey} (hx : At s.heap k x) (hu : A.units + 8 < cLine) {K : Nat} (hKf : K < 10 * SetTable.turns t.mask)
    (hK : way t.mask (k.hash w) K ∉ t.place.toList) (hKb : ∀ c, c < K → way t.mask (k.hash w) c ∈ t.place.toList) {Q : SetFound → Shared → Prop}
    (old : k ∈ L.map (·.2) → Q (.there none) s) (new : k ∉ L.map (·.2) → Q (.free (way t.mask (k.hash w) K) false) s) :
    ∀ (f c : Nat) (st : Option SetTable.Probe), st.getD (t.probeStart (k.hash w)) = nth t.mask (pth t (k.hash w)) c → c ≤ K → K - c < f →
      (∀ (i : Nat) (p : Elt), L[i]? = some p → p.2 = k → ∃ c', c ≤ c' ∧ c' < K ∧ t.place.toList[i]? = some (way t.mask (k.hash w) c')) →
      wpAny (model P w) A (setSearchFrom a (.ref x) (k.hash w) true f st) Q E s
  | 0, _, _, _, _, hf, _ => absurd hf (Nat.not_lt_zero _)
  | f + 1, c, st, hst, hc, hf, hre => by
    obtain ⟨o, ho, hex, hd⟩ := R.ob
    rw [setSearchFrom_succ]
    refine wpAny_bind (wpAny_setState_of ho hd R.fit ?_)
    dsimp only
    refine wp_if_neg R.way ?_
    try refine wpAny_bind (wpAny_pure ?_)
    have sh : ∀ q, nth t.mask (nth t.mask (pth t (k.hash w)) c) q = nth t.mask (pth t (k.hash w)) (c + q) := fun q => (nth_add t.mask c _ q).symm
    have pl : ∀ q, (nth t.mask (nth t.mask (pth t (k.hash w)) c) q).j = way t.mask (k.hash w) (c + q) := fun q => congrArg SetTable.Probe.j (sh q)
    have spec := go_spec t R.tab.ris R.tab.dm (fun i => (es[i]?.map (·.1)).getD 0) (k.hash w) (10 * SetTable.turns t.mask) (K - c) _ (nth_dummy t.mask c (pth t (k.hash w)) rfl) (by omega)
      (fun q hq => by rw [pl]; exact hKb (c + q) (by omega)) (by rw [pl, show c + (K - c) = K by omega]; exact hK)
    have hat : ∀ (i : Nat) (p : Elt), L[i]? = some p → (fun i => (es[i]?.map (·.1)).getD 0) i = p.2.hash w := fun i p hp => by
      show (es[i]?.map (·.1)).getD 0 = _
      rw [R.get hp]
      rfl
    rcases spec with ⟨q, i, hq, hi, hh, hno, hpr⟩ | ⟨hno, hpr⟩
    · have met : t.probe (fun i => (es[i]?.map (·.1)).getD 0) (k.hash w) (st.getD (t.probeStart (k.hash w))) = some (.candidate (way t.mask (k.hash w) (c + q)) i (nth t.mask (pth t (k.hash w)) (c + (q + 1)))) := by
        rw [hst, ← pl, ← sh]
        exact hpr
      rw [met]
      dsimp only
      rw [pl] at hi
      have hil : i < L.length := by
        have := (List.getElem?_eq_some_iff.mp hi).1
        rw [R.pls] at this
        exact this
      obtain ⟨p, hp⟩ : ∃ p, L[i]? = some p := ⟨_, List.getElem?_eq_getElem hil⟩
      have hm : p ∈ L := List.mem_of_getElem? hp
      have hpt := R.el p hm
      have more : wpAny (model P w) A (searchRest a (.ref x) (k.hash w) true f es t (way t.mask (k.hash w) (c + q)) i (nth t.mask (pth t (k.hash w)) (c + (q + 1)))) Q E s := by
        unfold searchRest
        rw [R.get hp]
        dsimp only
        refine wpAny_bind (wpAny_holding (hpt.eq hu hx ?_))
        refine wpAny_bind (wpAny_setState_of ho hd R.fit ?_)
        dsimp only
        by_cases hkk : p.2 = k
        · refine wp_if_pos (by simp [hkk]) ?_
          exact wpAny_pure (old (List.mem_map.mpr ⟨p, hm, hkk⟩))
        · refine wp_if_neg (by simp [hkk]) ?_
          try refine wpAny_bind (wpAny_pure ?_)
          rw [sameMem]
          dsimp only
          have hsl : t.slot (way t.mask (k.hash w) (c + q)) = .live i := slot_live R.tab.ris hi
          simp only [if_true, hsl, R.get hp]
          refine wpAny_bind (wpAny_isSame_ref_self (wpAny_bind (wpAny_pure ?_)))
          simp only [if_true]
          refine wp_if_neg (by simp [hkk]) ?_
          refine seek R hx hu hKf hK hKb old new f (c + (q + 1)) _ rfl (by omega) (by omega) fun i0 p0 h0 hk0 => ?_
          obtain ⟨c', a1, a2, a3⟩ := hre i0 p0 h0 hk0
          refine ⟨c', ?_, a2, a3⟩
          have n1 : ¬ c' < c + q := fun z => hno (c' - c) i0 (by omega) (by rw [pl, show c + (c' - c) = c' by omega]; exact a3) ((hat i0 p0 h0).trans (congrArg (NestedKey.hash w) hk0))
          have n2 : c' ≠ c + q := fun z => by
            rw [z] at a3
            have s0 := slot_live R.tab.ris a3
            rw [hsl] at s0
            injection s0 with s0
            rw [← s0, hp] at h0
            exact hkk ((congrArg Prod.snd (Option.some.inj h0)).trans hk0)
          omega
      by_cases hl : t.led = true
      · refine wp_if_neg (by simp [hl]) ?_
        try refine wpAny_bind (wpAny_pure ?_)
        exact more
      · refine wp_if_pos (by simp [hl]) ?_
        refine wpAny_bind (unseen hx (fun y hy => ?_) ?_)
        · obtain ⟨e, he, ee⟩ := List.mem_map.mp hy
          have he1 : e ∈ es ∧ e.1 = k.hash w := by simpa using he
          have he2 : e ∈ ents w L := by
            rw [← R.en]
            simpa using he1.1
          obtain ⟨r, hr, er⟩ := List.mem_map.mp he2
          exact ⟨r.2, r.1, by rw [← ee, ← er], R.el r hr⟩
        · refine wp_if_neg (by decide) ?_
          try refine wpAny_bind (wpAny_pure ?_)
          exact more
    · have met : t.probe (fun i => (es[i]?.map (·.1)).getD 0) (k.hash w) (st.getD (t.probeStart (k.hash w))) = some (.empty (way t.mask (k.hash w) K) none) := by
        have e2 : way t.mask (k.hash w) K = (nth t.mask (nth t.mask (pth t (k.hash w)) c) (K - c)).j := by
          rw [pl, show c + (K - c) = K by omega]
        rw [hst, e2]
        exact hpr
      rw [met]
      dsimp only
      refine wpAny_pure (new fun hm => ?_)
      obtain ⟨p0, h0, hk0⟩ := List.mem_map.mp hm
      obtain ⟨i0, hi0, e0⟩ := List.getElem_of_mem h0
      have h00 : L[i0]? = some p0 := by rw [List.getElem?_eq_getElem hi0, e0]
      obtain ⟨c', a1, a2, a3⟩ := hre i0 p0 h00 hk0
      exact hno (c' - c) i0 (by omega) (by rw [pl, show c + (c' - c) = c' by omega]; exact a3) ((hat i0 p0 h00).trans (congrArg (NestedKey.hash w) hk0))

theorem seek0 (R : SetN w s.heap a L es ep t) {x : Addr} {k : NestedKey} (hx : At s.heap k x) (hu : A.units + 8 < cLine) {Q : SetFound → Shared → Prop}
    (old : k ∈ L.map (·.2) → Q (.there none) s)
    (new : ∀ K, k ∉ L.map (·.2) → way t.mask (k.hash w) K ∉ t.place.toList → (∀ c, c < K → way t.mask (k.hash w) c ∈ t.place.toList) → Q (.free (way t.mask (k.hash w) K) false) s) :
    wpAny (model P w) A (setSearch a (.ref x) (k.hash w) true) Q E s := by
  have hrm := R.rm
  have hlen : (hs w L).length = L.length := List.length_map _
  obtain ⟨K, hKf, hK, hKb⟩ := R.tab.first (by omega) (k.hash w)
  have big : K < 100000 := by
    have : 10 * SetTable.turns t.mask ≤ 1420 := by
      unfold SetTable.turns
      rcases R.tab.mok with e | e | e <;> omega
    omega
  unfold setSearch
  refine seek R hx hu hKf hK hKb old (fun hn => new K hn hK hKb) 100000 0 none rfl (Nat.zero_le _) (by omega) fun i p hp hk => ?_
  have hi : (hs w L)[i]? = some (k.hash w) := by
    unfold hs
    rw [List.getElem?_map, hp, ← hk]
    rfl
  have hil : i < t.place.toList.length := by
    rw [R.pls]
    exact (List.getElem?_eq_some_iff.mp hp).1
  have hj := List.getElem?_eq_getElem hil
  obtain ⟨c, hc, e⟩ := R.tab.before hK hi hj
  exact ⟨c, Nat.zero_le _, hc, by rw [hj, e]⟩

/-! ### laid anew -/
theorem pick_all (L : List Elt) (es : Array (Int × Value)) (order : Array Nat) (hr : es.toList = ents w L) (hp : order.toList.Perm (List.range L.length)) :
    ∃ M, (order.filterMap (es[·]?)).toList = ents w M ∧ M.Perm L ∧ hs w M = order.toList.map fun i => (es.map (·.1)).getD i 0 := by
  have hsz : es.size = L.length := by rw [← Array.length_toList, hr, ents_len]
  have ent : ∀ i (h : i < L.length), es[i]? = some ((L[i]).2.hash w, Value.ref (L[i]).1) := fun i h => by
    rw [← Array.getElem?_toList, hr]
    exact ents_get (List.getElem?_eq_getElem h)
  have key : ∀ l : List Nat, (∀ i ∈ l, i < L.length) → l.filterMap (fun i => es[i]?) = ents w (l.filterMap (fun i => L[i]?)) ∧ hs w (l.filterMap (fun i => L[i]?)) = l.map fun i => (es.map (·.1)).getD i 0 := by
    intro l
    induction l with
    | nil => exact fun _ => ⟨rfl, rfl⟩
    | cons i l ih =>
      intro hl
      have hi := hl i List.mem_cons_self
      obtain ⟨e1, e2⟩ := ih fun j hj => hl j (List.mem_cons_of_mem _ hj)
      have e3 : (es.map (·.1)).getD i 0 = (L[i]).2.hash w := by
        have e5 : (es.map (·.1))[i]? = some ((L[i]).2.hash w) := by
          rw [Array.getElem?_map, ent i hi]
          rfl
        simp [Array.getD_eq_getD_getElem?, e5]
      rw [List.filterMap_cons_some (ent i hi), List.filterMap_cons_some (List.getElem?_eq_getElem hi), e1, List.map_cons, e3]
      refine ⟨rfl, ?_⟩
      rw [← e2]
      rfl
  obtain ⟨e1, e2⟩ := key order.toList fun i hi => List.mem_range.mp (hp.mem_iff.mp hi)
  refine ⟨_, by first | (rw [Array.toList_filterMap]; exact e1) | simpa using e1, ?_, e2⟩
  refine (hp.filterMap _).trans (List.Perm.of_eq ?_)
  have upto : ∀ n, n ≤ L.length → (List.range n).filterMap (fun i => L[i]?) = L.take n := by
    intro n
    induction n with
    | zero => exact fun _ => rfl
    | succ n ih =>
      intro hn
      have lt : n < L.length := hn
      rw [List.range_succ, List.filterMap_append, ih (Nat.le_of_lt lt), List.take_succ, List.getElem?_eq_getElem lt, List.filterMap_cons_some (List.getElem?_eq_getElem lt)]
      rfl
  rw [upto L.length (Nat.le_refl _), List.take_length]
theorem grow {o : Obj} (ho : s.heap.get? a = some o) (hex : o.ExactSet) (hd : o.data = .set es ep t) (hen : es.toList = ents w L) (hsz : t.place.size = es.size) (hdm : t.dummies = #[]) (hfl : es.size ≤ t.mask)
    (nd : (L.map (·.2)).Nodup) (el : ∀ p ∈ L, At s.heap p.2 p.1) (pl : t.plain = true) (ld : w.params.followText "set-order" = true ∨ t.led = true) (few : L.length < 64) {wanted M : Nat}
    (hw : SetTable.sizeAbove wanted - 1 = M) (hM : MaskOk M) (hw2 : SetTable.sizeAbove wanted ≤ 128) (hn : L.length * 5 < M * 3) {Q : Unit → Shared → Prop}
    (hQ : ∀ h' L' es' ep' t', Heap.SameBut a s.heap h' → SetN w h' a L' es' ep' t' → L'.Perm L → Q () { s with heap := h' }) : wpAny (model P w) A (setRelay a wanted) Q E s := by
  have hsl : es.size = L.length := by rw [← Array.length_toList, hen, ents_len]
  obtain ⟨t', order, e, hp, T, em, el', ep', ed⟩ := relaid_ok t (hs := es.map (·.1)) (wanted := wanted) hw hM (by rw [Array.size_map, hsl]; omega)
  rw [Array.size_map, hsl] at hp
  obtain ⟨L2, r1, r2, r3⟩ := pick_all (w := w) L es order hen hp
  rw [← r3] at T
  have hs2 : (order.filterMap (es[·]?)).size = es.size := by rw [← Array.length_toList, r1, ents_len, r2.length_eq, hsl]
  rw [setRelay_eq]
  refine wpAny_bind (wpAny_setState_of ho hd (fits_of hsz hdm hfl) ?_)
  dsimp only
  refine wp_if_neg (by rw [sizeLine_eq]; omega) ?_
  try refine wpAny_bind (wpAny_pure ?_)
  rw [e]
  dsimp only
  refine wpAny_bind ?_
  refine wp_if_neg (by rw [hs2]; simp) ?_
  try refine wpAny_bind (wpAny_pure ?_)
  refine wpAny_pure ?_
  dsimp only
  refine wpAny_storeSet_of ho hd ?_ (by rw [hs2, hsl, sizeLine_eq]; omega)
  have sb : Heap.SameBut a s.heap (s.heap.update a (Obj.putSet (order.filterMap (es[·]?)) t')) := Heap.SameBut.update ..
  refine hQ _ L2 (order.filterMap (es[·]?)) (ep + 1) t' sb ⟨⟨_, store_at ho hd, ⟨hex.1, hex.2.1, hex.2.2⟩, rfl⟩, r1, T, (r2.map (·.2)).nodup_iff.mpr nd, fun p hpm => (el p (r2.mem_iff.mp hpm)).but ho hd sb, by rw [ep']; exact pl, by rw [el']; exact ld, ?_, by rw [r2.length_eq]; exact few⟩ r2
  rw [r2.length_eq, em]
  exact hn

/-! ### one element more -/
theorem ents_ins (L : List Elt) (p : Nat) (x : Addr) (k : NestedKey) : ents w (L.take p ++ (x, k) :: L.drop p) = (ents w L).take p ++ (k.hash w, Value.ref x) :: (ents w L).drop p := by
  unfold ents
  rw [List.map_append, List.map_cons, List.map_take, List.map_drop]
theorem hs_ins (L : List Elt) (p : Nat) (x : Addr) (k : NestedKey) : hs w (L.take p ++ (x, k) :: L.drop p) = (hs w L).take p ++ k.hash w :: (hs w L).drop p := by
  unfold hs
  rw [List.map_append, List.map_cons, List.map_take, List.map_drop]
theorem put_in (R : SetN w s.heap a L es ep t) {x : Addr} {k : NestedKey} (hx : At s.heap k x) (hu : A.units + 8 < cLine) (hfew : L.length + 1 < 64) {Q : Bool → Shared → Prop}
    (hQ : ∀ b h' L' es' ep' t', Heap.SameBut a s.heap h' → SetN w h' a L' es' ep' t' → (k ∈ L.map (·.2) → L' = L) → (k ∉ L.map (·.2) → L'.Perm ((x, k) :: L)) → Q b { s with heap := h' }) :
    wpAny (model P w) A (setAddHashed a (.ref x) (k.hash w)) Q E s := by
  obtain ⟨o, ho, hex, hd⟩ := R.ob
  have hsl := R.sz
  have hrm := R.rm
  have hhl : (hs w L).length = L.length := List.length_map _
  unfold setAddHashed
  refine wpAny_holding ?_
  rw [show (100000 : Nat) = 99999 + 1 from rfl, setAddHashedIn_succ]
  refine wpAny_bind (wpAny_setState_of ho hd R.fit ?_)
  dsimp only
  refine wp_if_neg (by simp [byScan, Value.scannable]) ?_
  try refine wpAny_bind (wpAny_pure ?_)
  refine wpAny_bind (seek0 R hx hu (fun hm => ?_) fun K hm hK hb => ?_)
  · dsimp only
    exact wpAny_pure (hQ false s.heap L es ep t (Heap.SameBut.refl a s.heap) R (fun _ => rfl) fun z => absurd hm z)
  · dsimp only
    refine wpAny_bind (wpAny_setState_of ho hd R.fit ?_)
    dsimp only
    obtain ⟨q1, q2, q3, q4, q5, q6, q7, q8, q9⟩ := R.tab.put hK hb
    have hp1 : (t.put (way t.mask (k.hash w) K)).1.plain = true := by rw [q6]; exact R.pl
    generalize hpt : t.put (way t.mask (k.hash w) K) = pt at q1 q3 q4 q5 q6 q7 q8 q9 hp1 ⊢
    obtain ⟨t1, p⟩ := pt
    dsimp only at q1 q3 q4 q5 q6 q7 q8 q9 hp1 ⊢
    subst q1
    first
      | (refine wpAny_bind ?_; refine wp_if_pos hp1 ?_; refine hx.byv ?_)
      | refine wp_if_pos hp1 (wpAny_bind (hx.byv ?_))
    simp only [if_true]
    have hin : (SetTable.insertAt es (SetTable.below t.place (way t.mask (k.hash w) K)) (k.hash w, Value.ref x)).toList = ents w (L.take (SetTable.below t.place (way t.mask (k.hash w) K)) ++ (x, k) :: L.drop (SetTable.below t.place (way t.mask (k.hash w) K))) := by
      rw [SetTable.toList_insertAt, ents_ins, R.en]
    generalize SetTable.below t.place (way t.mask (k.hash w) K) = p at q2 q3 hin ⊢
    have pm := put_perm L p (x, k)
    have hlen : (L.take p ++ (x, k) :: L.drop p).length = L.length + 1 := pm.length_eq
    rw [← hs_ins L p x k] at q3
    have nd1 : ((L.take p ++ (x, k) :: L.drop p).map (·.2)).Nodup := (pm.map (·.2)).nodup_iff.mpr (by
      rw [List.map_cons]
      exact List.nodup_cons.mpr ⟨hm, R.nd⟩)
    have hes : (SetTable.insertAt es p (k.hash w, Value.ref x)).size = L.length + 1 := by rw [← Array.length_toList, hin, ents_len, hlen]
    generalize SetTable.insertAt es p (k.hash w, Value.ref x) = es1 at hin hes ⊢
    generalize L.take p ++ (x, k) :: L.drop p = L1 at pm hlen q3 nd1 hin
    have hh1 : (hs w L1).length = L.length + 1 := by
      unfold hs
      rw [List.length_map, hlen]
    refine wpAny_bind (wpAny_storeSet_of ho hd ?_ (by rw [hes, sizeLine_eq]; omega))
    have sb : Heap.SameBut a s.heap (s.heap.update a (Obj.putSet es1 t1)) := Heap.SameBut.update ..
    have ho1 := store_at (es' := es1) (t' := t1) ho hd
    generalize s.heap.update a (Obj.putSet es1 t1) = h1 at sb ho1 ⊢
    have el1 : ∀ p ∈ L1, At h1 p.2 p.1 := fun p hp => by
      rcases List.mem_cons.mp (pm.mem_iff.mp hp) with e | hp
      · rw [e]
        exact hx.but ho hd sb
      · exact (R.el p hp).but ho hd sb
    have ld1 : w.params.followText "set-order" = true ∨ t1.led = true := by rw [q5]; exact R.ld
    by_cases hf : t1.tooFull = true
    · first
        | (refine wpAny_bind ?_; refine wp_if_pos (by simp [hf]) ?_)
        | (refine wp_if_pos (by simp [hf]) ?_; refine wpAny_bind ?_)
      have full : (L.length + 1) * 5 ≥ t1.mask * 3 := by
        have z := hf
        unfold SetTable.tooFull at z
        rw [decide_eq_true_eq, q9, hhl] at z
        exact z
      rw [hsl]
      have hsz1 : t1.place.size = es1.size := by
        rw [q3.sz, hh1, hes]
      have two : (t.mask = 7 ∧ L.length = 4) ∨ (t.mask = 31 ∧ L.length = 18) := by
        rcases R.tab.mok with e | e | e
        · left
          rw [q4, e] at full
          rw [e] at hrm
          exact ⟨e, by omega⟩
        · right
          rw [q4, e] at full
          rw [e] at hrm
          exact ⟨e, by omega⟩
        · exfalso
          rw [q4, e] at full
          omega
      have go : ∀ M, SetTable.sizeAbove (SetTable.grown (L.length + 1)) - 1 = M → MaskOk M → SetTable.sizeAbove (SetTable.grown (L.length + 1)) ≤ 128 → (L.length + 1) * 5 < M * 3 →
          wpAny (model P w) A (setRelay a (SetTable.grown (L.length + 1))) (fun _ s' => wpAny (model P w) A (pure true) Q E s') E { s with heap := h1 } := fun M h1' h2' h3' h4' => by
        refine grow (s := { s with heap := h1 }) ho1 ⟨hex.1, hex.2.1, hex.2.2⟩ rfl hin hsz1 q3.dm (by rw [hes, q4]; rcases two with ⟨e, e2⟩ | ⟨e, e2⟩ <;> omega) nd1 el1 hp1 ld1 (by rw [hlen]; exact hfew) h1' h2' h3' (by rw [hlen]; exact h4') ?_
        intro h2 L2 es2 ep2 t2 sb2 R2 pm2
        exact wpAny_pure (hQ true h2 L2 es2 ep2 t2 (sb.trans sb2) R2 (fun z => absurd z hm) fun _ => pm2.trans pm)
      rcases two with ⟨_, e2⟩ | ⟨_, e2⟩
      · exact go 31 (by rw [e2, size_20]) (.inr (.inl rfl)) (by rw [e2, size_20]; decide) (by omega)
      · exact go 127 (by rw [e2, size_76]) (.inr (.inr rfl)) (by rw [e2, size_76]; decide) (by omega)
    · first
        | refine wp_if_neg (by simp [hf]) ?_
        | (refine wpAny_bind ?_; refine wp_if_neg (by simp [hf]) ?_; refine wpAny_pure ?_)
      refine wpAny_pure (hQ true h1 L1 es1 (ep + 1) t1 sb ⟨⟨_, ho1, ⟨hex.1, hex.2.1, hex.2.2⟩, rfl⟩, hin, q3, nd1, el1, hp1, ld1, ?_, by rw [hlen]; exact hfew⟩ (fun z => absurd z hm) fun _ => pm)
      have z := hf
      unfold SetTable.tooFull at z
      rw [decide_eq_true_eq, q9, hhl] at z
      rw [hlen]
      omega
end
end Cgn
/-! CgT: set(xs) is called. -/
namespace Cgn
open PySem PySem.Spec PyProof.Rows L2

/-- what has come into the set of the first i items -/
structure Upto (ks : List Elt) (i : Nat) (L : List Elt) : Prop where
  sub : ∀ p ∈ L, p ∈ ks.take i
  all : ∀ p ∈ ks.take i, p.2 ∈ L.map (·.2)
  len : L.length ≤ i
theorem Upto.none (ks : List Elt) : Upto ks 0 [] := ⟨fun p h => (by cases h), fun p h => (by simp at h), Nat.le_refl _⟩
theorem Upto.old {ks L : List Elt} {i : Nat} {x : Elt} (g : Upto ks i L) (h : ks[i]? = some x) (hm : x.2 ∈ L.map (·.2)) : Upto ks (i + 1) L := by
  have e : ks.take (i + 1) = ks.take i ++ [x] := take_next h
  refine ⟨fun p hp => by rw [e]; exact List.mem_append_left _ (g.sub p hp), fun p hp => ?_, Nat.le_succ_of_le g.len⟩
  rw [e] at hp
  rcases List.mem_append.mp hp with z | z
  · exact g.all p z
  · rw [List.mem_singleton.mp z]
    exact hm
theorem Upto.new {ks L L' : List Elt} {i : Nat} {x : Elt} (g : Upto ks i L) (h : ks[i]? = some x) (pm : L'.Perm (x :: L)) : Upto ks (i + 1) L' := by
  have e : ks.take (i + 1) = ks.take i ++ [x] := take_next h
  refine ⟨fun p hp => ?_, fun p hp => ?_, ?_⟩
  · rw [e]
    rcases List.mem_cons.mp (pm.mem_iff.mp hp) with z | z
    · rw [z]
      exact List.mem_append_right _ (List.mem_singleton.mpr rfl)
    · exact List.mem_append_left _ (g.sub p z)
  · rw [(pm.map (·.2)).mem_iff, List.map_cons]
    rw [e] at hp
    rcases List.mem_append.mp hp with z | z
    · exact List.mem_cons_of_mem _ (g.all p z)
    · rw [List.mem_singleton.mp z]
      exact List.mem_cons_self
  · rw [pm.length_eq, List.length_cons]
    exact Nat.succ_le_succ g.len

section
variable {P : Program} {w : World} {A : Around} {E : Value → Shared → Prop} {s : Shared}
theorem SetN.keep {h h' : Heap} {a : Addr} {L : List Elt} {es : Array (Int × Value)} {ep : Nat} {t : SetTable} (R : SetN w h a L es ep t) (ha : ∀ o, h.get? a = some o → h'.get? a = some o) (ht : ∀ p ∈ L, At h' p.2 p.1) : SetN w h' a L es ep t := by
  obtain ⟨o, ho, r⟩ := R.ob
  exact ⟨⟨o, ha o ho, r⟩, R.en, R.tab, R.nd, ht, R.pl, R.ld, R.rm, R.fw⟩
/-- set() as it is made -/
def set0 (w : World) : Obj := { cls := .type "set", dict := none, data := .set #[] 0 (.fresh 0 0 (!w.params.followText "set-order")) }
theorem SetN.empty {h : Heap} {a : Addr} (ho : h.get? a = some (set0 w)) : SetN w h a [] #[] 0 (.fresh 0 0 (!w.params.followText "set-order")) where
  ob := ⟨_, ho, ⟨rfl, rfl, rfl⟩, rfl⟩
  en := rfl
  tab := ⟨List.Pairwise.nil, rfl, rfl, .inl rfl, fun x hx => (by cases hx), fun i h j hi => (by simp [hs] at hi)⟩
  nd := List.nodup_nil
  el := fun p hp => (by cases hp)
  pl := rfl
  ld := by
    show _ ∨ (!w.params.followText "set-order") = true
    cases w.params.followText "set-order"
    · exact .inr rfl
    · exact .inl rfl
  rm := by
    show 0 * 5 < 7 * 3
    decide
  fw := by
    show 0 < 64
    decide

theorem loop {I : Addr} {fp wr : List Addr} {G : Array GenState → Array GenState → Prop} {n : Nat} {Pv : Nat → Value → Prop} {St : Nat → Shared → Prop} {R : Result → Shared → Prop}
    (W : WalksS P w A.in1 I fp wr G n Pv St) (S : Addr) (hSf : S ∉ fp) (ks : List Elt) (hn : n = ks.length) (hfew : ks.length < 64) (hval : ∀ i v, Pv i v → ∃ p, ks[i]? = some p ∧ v = .ref p.1)
    (h0 : Heap) (hk : ∀ p ∈ ks, At h0 p.2 p.1) (hS0 : h0.get? S = none) (hw0 : ∀ b ∈ wr, h0.get? b = none) (hu : A.in1.units + 8 < cLine) :
    ∀ (k i : Nat) (s : Shared), n - i = k → i ≤ n → St i s → (∀ b o, h0.get? b = some o → s.heap.get? b = some o) → (∃ L es ep t, SetN w s.heap S L es ep t ∧ Upto ks i L) →
      (∀ s' L es ep t, Moved (S :: wr) G s s' → SetN w s'.heap S L es ep t → Upto ks n L → (∀ b o, h0.get? b = some o → s'.heap.get? b = some o) → R (.ok (.ret .none)) s') →
      codeAny (model P w) A (.builtin "set.update.loop" ⟨[.ref S, .ref I], []⟩) R s := by
  have hSw : S ∉ wr := fun h => hSf (W.sub _ h)
  have up : ∀ b ∈ wr, b ∈ S :: wr := fun b hb => List.mem_cons_of_mem _ hb
  have still : ∀ {s s' : Shared}, Moved wr G s s' → (∀ b o, h0.get? b = some o → s.heap.get? b = some o) → ∀ b o, h0.get? b = some o → s'.heap.get? b = some o := fun hm hkp b o e =>
    hm.heap b o (fun hb => by
      rw [hw0 b hb] at e
      cases e) (hkp b o e)
  intro k
  induction k with
  | zero =>
    intro i s hk' hi hst hkp ⟨L, es, ep, t, hS, g⟩ hR
    have hin : i = n := by omega
    subst hin
    refine codeAny_builtin F.entry_set_update_loop ?_
    rw [Around.under_plainId F.plain_set_update_loop _]
    show wpAny _ A.in1 (pyNext (.ref I) >>= _) _ _ s
    refine wpAny_bind (W.done s _ _ hst fun s' hm => ?_)
    show wpAny _ A.in1 (ret Value.none) _ _ s'
    have q := still hm hkp
    exact wpAny_pure (hR s' L es ep t (hm.mono up) (hS.keep (fun o e => hm.heap S o hSw e) fun p hp => (hk p (List.mem_of_mem_take (g.sub p hp))).all q) g q)
  | succ k ih =>
    intro i s hk' hi hst hkp ⟨L, es, ep, t, hS, g⟩ hR
    have lt : i < n := by omega
    refine codeAny_builtin F.entry_set_update_loop ?_
    rw [Around.under_plainId F.plain_set_update_loop _]
    show wpAny _ A.in1 (pyNext (.ref I) >>= _) _ _ s
    refine wpAny_bind (W.item i s _ _ lt hst fun v s' hP hst' hm => ?_)
    obtain ⟨p, hp, rfl⟩ := hval i v hP
    have q := still hm hkp
    have hS' : SetN w s'.heap S L es ep t := hS.keep (fun o e => hm.heap S o hSw e) fun r hr => (hk r (List.mem_of_mem_take (g.sub r hr))).all q
    have hx : At s'.heap p.2 p.1 := (hk p (List.mem_of_getElem? hp)).all q
    show wpAny _ A.in1 (holding [Value.ref p.1] (setAdd S (.ref p.1)) >>= _) _ _ s'
    refine wpAny_bind (wpAny_holding ?_)
    unfold setAdd
    refine wpAny_holding ?_
    refine wpAny_bind (hx.hash hu ?_)
    refine put_in (s := { s' with toks := s'.toks + p.2.draws }) hS' hx hu (by have := g.len; omega) fun b h' L' es' ep' t' hsb hS2 c1 c2 => ?_
    have g' : Upto ks (i + 1) L' := by
      rcases Classical.em (p.2 ∈ L.map (·.2)) with c | c
      · rw [c1 c]
        exact g.old hp c
      · exact g.new hp (c2 c)
    have q2 : ∀ b o, h0.get? b = some o → h'.get? b = some o := fun b o e => (hsb.2 b (fun z => by
      rw [z, hS0] at e
      cases e)).trans (q b o e)
    refine wpAny_pure ⟨plainId_quiet F.plain_set_update_loop _, ih (i + 1) _ (by omega) lt (W.frame _ s' _ _ hst' (Nat.le_add_right _ _) fun b hb o e => ?_) q2 ⟨L', es', ep', t', hS2, g'⟩ fun s'' L2 es2 ep2 t2 hm'' hS'' g'' q'' => ?_⟩
    · rw [hsb.2 b (fun h : b = S => hSf (by rw [← h]; exact hb))]
      exact e
    · refine hR s'' L2 es2 ep2 t2 (Moved.trans W.gtrans ((hm.mono up).then_heap (Nat.le_add_right _ _) fun b o hb e => ?_) hm'') hS'' g'' q''
      rw [hsb.2 b (fun h : b = S => hb (by rw [h]; exact List.mem_cons_self))]
      exact e

set_option maxRecDepth 100000 in
set_option maxHeartbeats 3200000 in
/-- set(xs) for a list: what its loop does is what it does -/
theorem set_call {l : Addr} {items : Array Value} {Fin : Heap → Prop} {Q : Value → Shared → Prop} (hl : s.heap.IsList l items)
    (run : ∀ (s₂ : Shared) (I : Addr) (R : Result → Shared → Prop), s₂ = { s with heap := (s.heap.push (set0 w)).push { cls := .type "list_iterator", data := .fields #[.ref l, .int 0 0] } } → I = (s.heap.push (set0 w)).objs.size →
      (∀ s' : Shared, s'.gens = s.gens → s'.drawn = s.drawn → s'.os = s.os → Fin s'.heap → (∀ b o, s.heap.get? b = some o → s'.heap.get? b = some o) → R (.ok (.ret .none)) s') → codeAny (model P w) A.in1.in1 (.builtin "set.update.loop" ⟨[.ref s.heap.objs.size, .ref I], []⟩) R s₂)
    (h : ∀ (h' : Heap) (tk : Nat), Fin h' → (∀ b o, s.heap.get? b = some o → h'.get? b = some o) → Q (.ref s.heap.objs.size) { s with heap := h', toks := tk }) :
    wpAny (model P w) A (call (.type "set") [.ref l]) Q E s := by
  obtain ⟨c, tl, hmro⟩ := F.called_set.mro
  have hmade := F.called_set.made
  have hsub := F.called_set.sub
  refine wpAny_call (codeAny_of_tree ?_)
  show wpAny _ _ (callAny (.type "set") _) _ _ _
  refine wpAny_pure ⟨Code.quiet_builtin _ (by decide +kernel), codeAny_builtin F.entry_type_call ?_⟩
  rw [Around.under_plain (weight_type_call_type "set" [.ref l] []) rfl]
  have h1 := F.called_set.notType
  have h2 := F.called_set.canCreate
  have hct := F.typeCall_set_1 (.ref l)
  repeat (any_goals (first | assumption | wp_step))
  refine codeAny_mono (code_set_led1 (.ref l) (E := E) (Q₁ := fun obj s₁ => obj = .ref s.heap.objs.size ∧ s₁ = { s with heap := s.heap.push (set0 w) }) ⟨rfl, rfl⟩) fun r s₁ hr => ?_
  cases r with
  | error e => exact hr
  | ok fl =>
    cases fl with
    | ret obj =>
      obtain ⟨rfl, rfl⟩ := hr
      have hS : (s.heap.push (set0 w)).get? s.heap.objs.size = some (set0 w) := Heap.get?_push_size _ rfl
      have hT : Shared.TypeIs { s with heap := s.heap.push (set0 w) } (.ref s.heap.objs.size) "set" := ⟨_, hS, rfl⟩
      have hli := F.called_set.init.lookup
      have hbi := F.called_set.init.bind (.ref s.heap.objs.size)
      repeat (any_goals (first | assumption | wp_step))
      refine codeAny_mono (codeAny_call_builtin (R := wants (fun r s₂ => r = .none ∧ ∃ h' tk, s₂ = { s with heap := h', toks := tk } ∧ Fin h' ∧ (∀ b o, s.heap.get? b = some o → h'.get? b = some o)) E) F.called_set.init.plain F.entry_set_init (check_set_init_1 hT ?_)) fun r₂ s₂ hr₂ => ?_
      · obtain ⟨ol, hol, hcl, nl, hdl⟩ := hl
        obtain ⟨ocls, odict, odata, oslots⟩ := ol
        simp only at hcl hdl
        subst hcl
        subst hdl
        have hol' : (s.heap.push (set0 w)).get? l = some { cls := .type "list", dict := odict, data := .seq items nl, slots := oslots } := Heap.get?_push_of_some _ hol
        have hsls := F.sub_list_set
        have hslf := F.sub_list_frozenset
        have hne : (Value.type "list" == Value.type "dict") = false := by decide
        have hl1 : (s.heap.push (set0 w)).IsList l items := ⟨_, hol', rfl, nl, rfl⟩
        unfold Builtin.«set.__init__» noKeywords Builtin.Frozenset.updateFrom
        generalize hPI : pyIter = PI
        wp_walk
        subst hPI
        refine wpAny_pyIter_list hl1 ?_
        refine wpAny_bind (wpAny_runValue ?_)
        refine run _ _ _ rfl rfl ?_
        intro s' eg ed eo fin hkp
        obtain ⟨h', g2, d', tk', os'⟩ := s'
        simp only at eg ed eo
        subst eg ed eo
        show wpAny _ _ _ _ _ _
        refine wpAny_pure ?_
        show wpAny _ _ (ret Value.none) _ _ _
        exact wpAny_pure ⟨rfl, h', tk', rfl, fin, hkp⟩
      · cases r₂ with
        | error e => exact hr₂
        | ok fl₂ =>
          cases fl₂ with
          | ret r =>
            obtain ⟨rfl, h', tk, rfl, fin, hk'⟩ := hr₂
            repeat (any_goals (first | assumption | wp_step))
            exact h _ _ fin hk'
          | _ => exact hr₂.elim
    | _ => exact hr.elim

/-- a set that can be walked, its elements -/
def SetV (w : World) (h : Heap) (a : Addr) (vs : List Value) : Prop :=
  ∃ o es ep t, h.get? a = some o ∧ o.ExactSet ∧ o.data = .set es ep t ∧ es.toList.map (·.2) = vs ∧ t.fits es.size = true ∧ es.size < scanBound ∧ Ris t.place.toList ∧ (w.params.followText "set-order" = true ∨ t.led = true)
theorem SetN.v {h : Heap} {a : Addr} {L : List Elt} {es : Array (Int × Value)} {ep : Nat} {t : SetTable} (R : SetN w h a L es ep t) : SetV w h a (L.map fun p => Value.ref p.1) := by
  obtain ⟨o, ho, hex, hd⟩ := R.ob
  have q := R.fw
  refine ⟨o, es, ep, t, ho, hex, hd, ?_, R.fit, by rw [R.sz]; unfold scanBound; omega, R.tab.ris, R.ld⟩
  rw [R.en]
  unfold ents
  rw [List.map_map]
  rfl
theorem none_at {h : Heap} {b : Addr} (hb : h.objs.size ≤ b) : h.get? b = none := by
  cases q : h.get? b with
  | none => rfl
  | some o => exact absurd (Nat.lt_of_lt_of_le (Heap.lt_size q) hb) (Nat.lt_irrefl _)
/-- set(xs), xs nested tuples -/
theorem set_of {l : Addr} {items : Array Value} (ks : List Elt) {Q : Value → Shared → Prop} (hh : A.handled = none) (hl : s.heap.IsList l items) (hit : items.toList = ks.map fun p => Value.ref p.1)
    (hk : ∀ p ∈ ks, At s.heap p.2 p.1) (hfew : ks.length < 64) (hu : A.units + 16 < cLine)
    (h : ∀ (h' : Heap) (tk : Nat) (L : List Elt), SetV w h' s.heap.objs.size (L.map fun p => Value.ref p.1) → (L.map (·.2)).Nodup → (∀ p ∈ L, p ∈ ks) → (∀ p ∈ ks, p.2 ∈ L.map (·.2)) → (∀ b o, s.heap.get? b = some o → h'.get? b = some o) → Q (.ref s.heap.objs.size) { s with heap := h', toks := tk }) :
    wpAny (model P w) A (call (.type "set") [.ref l]) Q E s := by
  have hisz : items.size = ks.length := by
    rw [← Array.length_toList, hit, List.length_map]
  refine set_call (Fin := fun h' => ∃ L es ep t, SetN w h' s.heap.objs.size L es ep t ∧ Upto ks ks.length L) hl ?_ fun h' tk ⟨L, es, ep, t, R, g⟩ hkp => ?_
  · rintro s₂ I R rfl rfl hR
    obtain ⟨ol, hol, hcl, nl, hdl⟩ := id hl
    have hS : (s.heap.push (set0 w)).get? s.heap.objs.size = some (set0 w) := Heap.get?_push_size _ rfl
    have hl1 : (s.heap.push (set0 w)).IsList l items := ⟨_, Heap.get?_push_of_some _ hol, hcl, nl, hdl⟩
    have hlS : l < s.heap.objs.size := Heap.lt_size hol
    have hh3 : A.in1.in1.in1.handled = none := by simp [hh]
    have hneI : l ≠ (s.heap.push (set0 w)).objs.size := by
      rw [Heap.size_push]
      exact Nat.ne_of_lt (Nat.lt_succ_of_lt hlS)
    have hSf : s.heap.objs.size ∉ [(s.heap.push (set0 w)).objs.size, l] := by
      rw [Heap.size_push]
      simp only [List.mem_cons, List.mem_singleton, List.not_mem_nil, or_false, not_or]
      exact ⟨Nat.ne_of_lt (Nat.lt_succ_self _), Nat.ne_of_gt hlS⟩
    have hval : ∀ (i : Nat) (v : Value), items[i]? = some v → ∃ p, ks[i]? = some p ∧ v = .ref p.1 := fun i v hv => by
      have q : items.toList[i]? = some v := by rw [Array.getElem?_toList]; exact hv
      rw [hit, List.getElem?_map] at q
      cases hq : ks[i]? with
      | none =>
        rw [hq] at q
        cases q
      | some p =>
        rw [hq] at q
        exact ⟨p, rfl, (Option.some.inj q).symm⟩
    refine loop ((Walks.list hh3 _ l hneI items).toS) s.heap.objs.size
      hSf ks hisz hfew hval s.heap hk (none_at (Nat.le_refl _)) (fun b hb => none_at (by
        rw [List.mem_singleton.mp hb, Heap.size_push]
        exact Nat.le_succ _)) (by simp only [Around.in1]; omega) (items.size - 0) 0 _ (by omega) (Nat.zero_le _)
      ⟨⟨_, Heap.get?_push_size _ rfl, rfl, rfl⟩, (hl1.push _)⟩ (fun b o e => Heap.get?_push_of_some _ (Heap.get?_push_of_some _ e)) ?first ?last
    case first =>
      have hget : ((s.heap.push (set0 w)).push { cls := .type "list_iterator", data := .fields #[.ref l, .int 0 0] }).get? s.heap.objs.size = some (set0 w) := Heap.get?_push_of_some _ hS
      exact ⟨[], #[], 0, _, SetN.empty hget, Upto.none ks⟩
    case last =>
      intro s' L es ep t hm hS' g' hkp
      rw [hisz] at g'
      exact hR s' hm.gens hm.drawn hm.os ⟨L, es, ep, t, hS', g'⟩ hkp
  · exact h h' tk L R.v R.nd (fun p hp => List.mem_of_mem_take (g.sub p hp)) (fun p hp => g.all p (by rw [List.take_length]; exact hp)) hkp
/-- set(xs), xs ints -/
theorem set_ints {l : Addr} {items : Array Value} (ns : List Int) {Q : Value → Shared → Prop} (hh : A.handled = none) (hl : s.heap.IsList l items) (hit : IntsAre items.toList ns) (hb : ns.length + 1 < scanBound)
    (h : ∀ (h' : Heap) (tk : Nat) (vs : List Value) (ms : List Int), SetV w h' s.heap.objs.size vs → IntsAre vs ms → ms.Nodup → (∀ k, k ∈ ms ↔ k ∈ ns) → (∀ b o, s.heap.get? b = some o → h'.get? b = some o) → Q (.ref s.heap.objs.size) { s with heap := h', toks := tk }) :
    wpAny (model P w) A (call (.type "set") [.ref l]) Q E s := by
  have hisz : items.size = ns.length := by
    have q := IntsAre.length hit
    rw [Array.length_toList] at q
    exact q
  refine set_call (Fin := fun h' => ∃ c, SetR w h' s.heap.objs.size (fun j => decide (j ∈ ns)) c) hl ?_ fun h' tk ⟨c, R⟩ hkp => ?_
  · rintro s₂ I R rfl rfl hR
    obtain ⟨ol, hol, hcl, nl, hdl⟩ := id hl
    have hS : (s.heap.push (set0 w)).get? s.heap.objs.size = some (set0 w) := Heap.get?_push_size _ rfl
    have hl1 : (s.heap.push (set0 w)).IsList l items := ⟨_, Heap.get?_push_of_some _ hol, hcl, nl, hdl⟩
    have hlS : l < s.heap.objs.size := Heap.lt_size hol
    have hh3 : A.in1.in1.in1.handled = none := by simp [hh]
    have hneI : l ≠ (s.heap.push (set0 w)).objs.size := by
      rw [Heap.size_push]
      exact Nat.ne_of_lt (Nat.lt_succ_of_lt hlS)
    have hSf : s.heap.objs.size ∉ [(s.heap.push (set0 w)).objs.size, l] := by
      rw [Heap.size_push]
      simp only [List.mem_cons, List.mem_singleton, List.not_mem_nil, or_false, not_or]
      exact ⟨Nat.ne_of_lt (Nat.lt_succ_self _), Nat.ne_of_gt hlS⟩
    have hval : ∀ (i : Nat) (v : Value), items[i]? = some v → ∃ k t, ns[i]? = some k ∧ v = .int k t := fun i v hv => by
      have hi : i < ns.length := by rw [← hisz]; exact (Array.getElem?_eq_some_iff.mp hv).1
      obtain ⟨t, e⟩ := PyProof.Rows.IntsAre.int_at hit i v (by rw [Array.getElem?_toList]; exact hv)
      refine ⟨ns[i], t, List.getElem?_eq_getElem hi, ?_⟩
      rw [e, List.getD_eq_getElem?_getD, List.getElem?_eq_getElem hi]
      rfl
    refine set_update_ints ((Walks.list hh3 _ l hneI items).toS) s.heap.objs.size hSf ns hisz hb hval (items.size - 0) 0 _ (by omega) (Nat.zero_le _) ⟨⟨_, Heap.get?_push_size _ rfl, rfl, rfl⟩, (hl1.push _)⟩ ?first ?last
    case first =>
      have hget : ((s.heap.push (set0 w)).push { cls := .type "list_iterator", data := .fields #[.ref l, .int 0 0] }).get? s.heap.objs.size = some (set0 w) := Heap.get?_push_of_some _ hS
      exact ⟨0, Nat.le_refl 0, setR_new_at hget⟩
    case last =>
      intro s' c hm hc hS'
      refine hR s' hm.gens hm.drawn hm.os ⟨c, hS'⟩ fun b o e => ?_
      have hb0 : b < s.heap.objs.size := Heap.lt_size e
      refine hm.heap b o ?_ (Heap.get?_push_of_some _ (Heap.get?_push_of_some _ e))
      simp only [List.mem_cons, List.mem_singleton, List.not_mem_nil, or_false, not_or]
      refine ⟨Nat.ne_of_lt hb0, ?_⟩
      rw [Heap.size_push]
      exact Nat.ne_of_lt (Nat.lt_succ_of_lt hb0)
  · obtain ⟨o, es, ep, t, ho, hex, hd, hg, hnd, hmem, hsz, hf, hn, hris, hld⟩ := R
    have allI : ∀ l : List (Int × Value), (∀ e ∈ l, GoodE e) → IntsAre (l.map (·.2)) (l.map keyOf) := by
      intro l
      induction l with
      | nil => exact fun _ => .nil
      | cons e l ih =>
        intro z
        have q := z e List.mem_cons_self
        have r := ih fun y hy => z y (List.mem_cons_of_mem _ hy)
        obtain ⟨hv, x⟩ := e
        obtain ⟨k, tk, hx, _⟩ := q
        simp only at hx
        subst hx
        exact .cons _ _ r
    refine h h' tk (es.toList.map (·.2)) (es.toList.map keyOf) ⟨o, es, ep, t, ho, hex, hd, rfl, hf, hsz, hris, hld⟩ (allI _ hg) hnd (fun k => ?_) hkp
    rw [← hmem k, decide_eq_true_eq]
end
end Cgn
/-! CgO: the order of numbers, texts and tuples of such, as far as it is asked; sorted by it. -/
namespace Cgo
open PySem PySem.Spec PyProof.Rows L2
open PySem.SeqAt
open AutoSeq1 (wpAny_loadPart')
open MeetsSeq MeetsSeq2 MeetsSeq3 SeqRoads2

/-! ### data of numbers, texts and tuples -/
mutual
def sig : PyData → Bool
  | .int _ => true
  | .str _ => true
  | .tuple xs => sigs xs
  | _ => false
def sigs : List PyData → Bool
  | [] => true
  | x :: xs => sig x && sigs xs
end
mutual
theorem sig_plain : ∀ d : PyData, sig d = true → d.plain = true
  | .int _, _ => rfl
  | .str _, _ => rfl
  | .tuple xs, h => by
    rw [sig] at h
    show PyData.plainAll xs = true
    exact sigs_plain xs h
  | .none, h | .bool _, h | .list _, h | .dict _, h => by simp [sig] at h
theorem sigs_plain : ∀ ds : List PyData, sigs ds = true → PyData.plainAll ds = true
  | [], _ => rfl
  | x :: xs, h => by
    rw [sigs, Bool.and_eq_true] at h
    show (PyData.plain x && PyData.plainAll xs) = true
    rw [sig_plain x h.1, sigs_plain xs h.2]
    rfl
end
mutual
theorem sig_eqv : ∀ d e : PyData, sig d = true → sig e = true → (PyData.eqv d e = true ↔ d = e)
  | .int i, .int j, _, _ => by simp [PyData.eqv]
  | .str i, .str j, _, _ => by simp [PyData.eqv]
  | .int _, .str _, _, _ => by simp [PyData.eqv]
  | .str _, .int _, _, _ => by simp [PyData.eqv]
  | .int _, .tuple _, _, _ => by simp [PyData.eqv]
  | .str _, .tuple _, _, _ => by simp [PyData.eqv]
  | .tuple _, .int _, _, _ => by simp [PyData.eqv]
  | .tuple _, .str _, _, _ => by simp [PyData.eqv]
  | .tuple xs, .tuple ys, h1, h2 => by
    rw [sig] at h1 h2
    rw [PyData.eqv, sigs_eqv xs ys h1 h2]
    exact ⟨fun e => by rw [e], fun e => by injection e⟩
  | .none, _, h, _ | .bool _, _, h, _ | .list _, _, h, _ | .dict _, _, h, _ => by simp [sig] at h
  | .int _, .none, _, h | .int _, .bool _, _, h | .int _, .list _, _, h | .int _, .dict _, _, h => by simp [sig] at h
  | .str _, .none, _, h | .str _, .bool _, _, h | .str _, .list _, _, h | .str _, .dict _, _, h => by simp [sig] at h
  | .tuple _, .none, _, h | .tuple _, .bool _, _, h | .tuple _, .list _, _, h | .tuple _, .dict _, _, h => by simp [sig] at h
theorem sigs_eqv : ∀ ds es : List PyData, sigs ds = true → sigs es = true → (PyData.eqvAll ds es = true ↔ ds = es)
  | [], [], _, _ => by simp [PyData.eqvAll]
  | [], _ :: _, _, _ => by simp [PyData.eqvAll]
  | _ :: _, [], _, _ => by simp [PyData.eqvAll]
  | x :: xs, y :: ys, h1, h2 => by
    rw [sigs, Bool.and_eq_true] at h1 h2
    rw [PyData.eqvAll, Bool.and_eq_true, sig_eqv x y h1.1 h2.1, sigs_eqv xs ys h1.2 h2.2, List.cons.injEq]
end
mutual
/-- x < y, where it is told -/
def ltD : PyData → PyData → Option Bool
  | .int i, .int j => some (decide (i < j))
  | .str x, .str y => some (decide (x.cps.toList < y.cps.toList))
  | .tuple xs, .tuple ys => ltDs xs ys
  | _, _ => none
def ltDs : List PyData → List PyData → Option Bool
  | [], [] => some false
  | [], _ :: _ => some true
  | _ :: _, [] => some false
  | x :: xs, y :: ys => if PyData.eqv x y = true then ltDs xs ys else ltD x y
end

/-! ### what a datum's signs say -/
abbrev Lex (l m : List (Int ⊕ List Nat)) : Bool := PyProof.Rows.lexLt itemOrd l m
theorem lex_app : ∀ (p l m : List (Int ⊕ List Nat)), Lex (p ++ l) (p ++ m) = Lex l m
  | [], _, _ => rfl
  | x :: p, l, m => (lex_self (O := itemOrd) x _ _).trans (lex_app p l m)
mutual
theorem lt_toks : ∀ (x y : PyData) (k : Bool) (l m : List (Int ⊕ List Nat)), sig x = true → sig y = true → x ≠ y → ltD x y = some k → Lex (PySem.W.keyToks x ++ l) (PySem.W.keyToks y ++ m) = k
  | .int i, .int j, k, l, m, _, _, ne, h => by
    rw [ltD, Option.some.injEq] at h
    rw [← h, PySem.W.keyToks, PySem.W.keyToks]
    exact lex_diff (O := itemOrd) (x := Sum.inl i) (y := Sum.inl j) (fun e => ne (by rw [Sum.inl.inj e]))
  | .str i, .str j, k, l, m, _, _, ne, h => by
    rw [ltD, Option.some.injEq] at h
    rw [← h, PySem.W.keyToks, PySem.W.keyToks]
    refine lex_diff (O := itemOrd) (x := Sum.inr i.cps.toList) (y := Sum.inr j.cps.toList) (fun e => ne ?_)
    have e2 : i.cps.toList = j.cps.toList := Sum.inr.inj e
    have e3 : i.cps = j.cps := by
      have := congrArg List.toArray e2
      simpa using this
    have e4 : i = j := by
      cases i
      cases j
      simp only at e3
      subst e3
      rfl
    rw [e4]
  | .tuple xs, .tuple ys, k, l, m, h1, h2, ne, h => by
    rw [sig] at h1 h2
    rw [ltD] at h
    rw [PySem.W.keyToks, PySem.W.keyToks]
    exact lts_toks xs ys k l m h1 h2 (fun e => ne (by rw [e])) h
  | .none, _, _, _, _, h, _, _, _ | .bool _, _, _, _, _, h, _, _, _ | .list _, _, _, _, _, h, _, _, _ | .dict _, _, _, _, _, h, _, _, _ => by simp [sig] at h
  | .int _, .none, _, _, _, _, _, _, h | .int _, .bool _, _, _, _, _, _, _, h | .int _, .str _, _, _, _, _, _, _, h | .int _, .list _, _, _, _, _, _, _, h | .int _, .tuple _, _, _, _, _, _, _, h | .int _, .dict _, _, _, _, _, _, _, h => by simp [ltD] at h
  | .str _, .none, _, _, _, _, _, _, h | .str _, .bool _, _, _, _, _, _, _, h | .str _, .int _, _, _, _, _, _, _, h | .str _, .list _, _, _, _, _, _, _, h | .str _, .tuple _, _, _, _, _, _, _, h | .str _, .dict _, _, _, _, _, _, _, h => by simp [ltD] at h
  | .tuple _, .none, _, _, _, _, _, _, h | .tuple _, .bool _, _, _, _, _, _, _, h | .tuple _, .int _, _, _, _, _, _, _, h | .tuple _, .str _, _, _, _, _, _, _, h | .tuple _, .list _, _, _, _, _, _, _, h | .tuple _, .dict _, _, _, _, _, _, _, h => by simp [ltD] at h
theorem lts_toks : ∀ (xs ys : List PyData) (k : Bool) (l m : List (Int ⊕ List Nat)), sigs xs = true → sigs ys = true → xs ≠ ys → ltDs xs ys = some k → Lex (PySem.W.keyToksAll xs ++ l) (PySem.W.keyToksAll ys ++ m) = k
  | [], [], _, _, _, _, _, ne, _ => absurd rfl ne
  | [], y :: ys, k, l, m, _, _, _, h => by
    rw [ltDs, Option.some.injEq] at h
    rw [← h, PySem.W.keyToksAll, PySem.W.keyToksAll]
    exact lex_diff (O := itemOrd) (x := Sum.inl 0) (y := Sum.inl 1) (by simp)
  | x :: xs, [], k, l, m, _, _, _, h => by
    rw [ltDs, Option.some.injEq] at h
    rw [← h, PySem.W.keyToksAll, PySem.W.keyToksAll]
    exact lex_diff (O := itemOrd) (x := Sum.inl 1) (y := Sum.inl 0) (by simp)
  | x :: xs, y :: ys, k, l, m, h1, h2, ne, h => by
    rw [sigs, Bool.and_eq_true] at h1 h2
    rw [ltDs] at h
    rw [PySem.W.keyToksAll, PySem.W.keyToksAll]
    refine (lex_self (O := itemOrd) (Sum.inl 1) _ _).trans ?_
    show Lex ((PySem.W.keyToks x ++ PySem.W.keyToksAll xs) ++ l) ((PySem.W.keyToks y ++ PySem.W.keyToksAll ys) ++ m) = k
    rw [List.append_assoc, List.append_assoc]
    by_cases e : x = y
    · rw [if_pos ((sig_eqv x y h1.1 h2.1).mpr e)] at h
      subst e
      exact (lex_app _ _ _).trans (lts_toks xs ys k l m h1.2 h2.2 (fun z => ne (by rw [z])) h)
    · rw [if_neg (fun z => e ((sig_eqv x y h1.1 h2.1).mp z))] at h
      exact lt_toks x y k _ _ h1.1 h2.1 e h
end
mutual
theorem lt_self : ∀ x : PyData, sig x = true → ltD x x = some false
  | .int i, _ => by simp [ltD]
  | .str i, _ => by
    rw [ltD, Option.some.injEq, decide_eq_false_iff_not]
    exact List.lt_irrefl _
  | .tuple xs, h => by
    rw [sig] at h
    rw [ltD]
    exact lts_self xs h
  | .none, h | .bool _, h | .list _, h | .dict _, h => by simp [sig] at h
theorem lts_self : ∀ xs : List PyData, sigs xs = true → ltDs xs xs = some false
  | [], _ => rfl
  | x :: xs, h => by
    rw [sigs, Bool.and_eq_true] at h
    rw [ltDs, if_pos ((sig_eqv x x h.1 h.1).mpr rfl)]
    exact lts_self xs h.2
end
theorem lt_data {x y : PyData} {k : Bool} (hx : sig x = true) (hy : sig y = true) (h : ltD x y = some k) : PySem.W.dataLt x y = k := by
  unfold PySem.W.dataLt
  by_cases e : x = y
  · subst e
    rw [lt_self x hx] at h
    rw [← Option.some.inj h]
    exact lex_irrefl (O := itemOrd) _
  · have q := lt_toks x y k [] [] hx hy e h
    rw [List.append_nil, List.append_nil] at q
    exact q

/-! ### < of tuples, item by item -/
/-- from here on the first ones decide -/
inductive LtRun (A : Around) (s : Shared) : List Value → List Value → Bool → Prop
  | nil : LtRun A s [] [] false
  | less {v vs} : LtRun A s [] (v :: vs) true
  | more {u us} : LtRun A s (u :: us) [] false
  | same {u us v vs k} : EqAt A s u v true → LtRun A s us vs k → LtRun A s (u :: us) (v :: vs) k
  | diff {u us v vs k} : EqAt A s u v false → RcLt A s u v k → LtRun A s (u :: us) (v :: vs) k


theorem tup_lt (l b : Addr) (items items2 : Array Value) (n n2 : Nat) (dd dd2 : Option Addr) (sl sl2 : Array (Option Value)) (k : Bool) :
    Meets (Builtin.«tuple.__lt__» ⟨[.ref l, .ref b], []⟩)
      (fun A R s => s.heap.get? l = some { cls := .type "tuple", dict := dd, data := .seq items n, slots := sl } ∧ s.heap.get? b = some { cls := .type "tuple", dict := dd2, data := .seq items2 n2, slots := sl2 } ∧
        LtRun A.in1 s items.toList items2.toList k ∧ R (.ok (.ret (.bool k))) s) :=
  .of_wp fun prog w A R s h => by
    obtain ⟨hp, g, d, tk, os⟩ := s
    obtain ⟨hl, hb, he, h⟩ := h
    have f2 := AutoSeq1.sub_tuple_tuple
    wp_walk using wpAny_loadPart' hl, wpAny_loadPart' hb, wpAny_forIn_list _ (fun rest b s' => b.1 = none ∧ s' = ⟨hp, g, d, tk, os⟩ ∧ ∃ us vs, rest = us.zip vs ∧ us.length + items2.size = vs.length + items.size ∧ LtRun A.in1 ⟨hp, g, d, tk, os⟩ us vs k) _
    case turn =>
      rintro ⟨y, x⟩ rest b s' ⟨hb', rfl, us, vs, hz, hlen, run⟩
      cases run with
      | nil => cases hz
      | less => cases hz
      | more => cases hz
      | same e r =>
        rw [List.zip_cons_cons] at hz
        injection hz with h1 h2
        injection h1 with h1 h3
        subst h1 h3
        refine wpAny_bind (e prog w _ _ ?_)
        wp_walk
        exact ⟨rfl, rfl, _, _, h2, by simpa [Nat.add_right_comm, Nat.succ_add] using hlen, r⟩
      | diff e r =>
        rw [List.zip_cons_cons] at hz
        injection hz with h1 h2
        injection h1 with h1 h3
        subst h1 h3
        refine wpAny_bind (e prog w _ _ ?_)
        have r' := r prog w
        generalize PySem.richCompare .Lt y x = rc at r' ⊢
        wp_walk
        refine r' _ _ ?_
        wp_walk
        exact ⟨_, rfl, h⟩
    case fin =>
      rintro ⟨b1, b2⟩ s' ⟨hb', rfl, us, vs, hz, hlen, run⟩
      simp only at hb'
      subst hb'
      have e : k = decide (items.size < items2.size) := by
        cases run with
        | nil =>
          simp only [List.length_nil] at hlen
          exact (decide_eq_false (by omega)).symm
        | less =>
          simp only [List.length_nil, List.length_cons] at hlen
          exact (decide_eq_true (by omega)).symm
        | more =>
          simp only [List.length_nil, List.length_cons] at hlen
          exact (decide_eq_false (by omega)).symm
        | same e r => cases hz
        | diff e r => cases hz
      wp_walk
      exact ⟨_, rfl, by simpa [Builtin.Tuple.tupleCompareSizes, e] using h⟩
    case h =>
      exact ⟨rfl, rfl, items.toList, items2.toList, rfl, by simp [Nat.add_comm], he⟩
section
variable {A : Around} {s : Shared}
theorem RcLt.tup {l b : Addr} {items items2 : Array Value} {k : Bool} (hl : s.heap.IsTuple l items) (hb : s.heap.IsTuple b items2) (hu : A.units < cLine) (r : LtRun A.in1 s items.toList items2.toList k) : RcLt A s (.ref l) (.ref b) k := fun prog w E Q h => by
  obtain ⟨⟨cls, dd, data, sl⟩, ho, hc, n, hd⟩ := id hl
  obtain ⟨⟨cls2, dd2, data2, sl2⟩, ho2, hc2, n2, hd2⟩ := id hb
  simp only at hc hd hc2 hd2
  subst hc hd hc2 hd2
  exact richCompare_meets_room (op := .Lt) ⟨_, ho, rfl⟩ ⟨_, ho2, rfl⟩ F.slot_tuple_lt F.entry_tuple_lt (F.args_tuple_lt_2 _ _) (tup_lt l b items items2 n n2 dd dd2 sl sl2 k)
    ⟨ho, ho2, r, show Value.bool k ≠ Value.notImplemented ∧ Q (.bool k) s from ⟨(fun x => nomatch x), h⟩⟩ hu
theorem call_tup_lt {prog : Program} {w : World} {E : Value → Shared → Prop} {Q : Value → Shared → Prop} {l b : Addr} {items items2 : Array Value} {k : Bool} (hl : s.heap.IsTuple l items) (hb : s.heap.IsTuple b items2) (r : LtRun A.in1 s items.toList items2.toList k) (h : Q (.bool k) s) :
    wpAny (model prog w) A (call (.builtin "tuple.__lt__") [.ref l, .ref b]) Q E s := by
  obtain ⟨⟨cls, dd, data, sl⟩, ho, hc, n, hd⟩ := id hl
  obtain ⟨⟨cls2, dd2, data2, sl2⟩, ho2, hc2, n2, hd2⟩ := id hb
  simp only at hc hd hc2 hd2
  subst hc hd hc2 hd2
  exact call_meets F.slot_tuple_lt ⟨_, ho, rfl⟩ F.entry_tuple_lt (F.args_tuple_lt_2 _ _) (tup_lt l b items items2 n n2 dd dd2 sl sl2 k) ⟨ho, ho2, r, h⟩
theorem room_down {A : Around} {x y : PyData} {xs ys : List PyData} (h : A.units + min (PyData.depth (.tuple xs)) (PyData.depth (.tuple ys)) < cLine) : A.in1.units + min (PyData.depthAll xs) (PyData.depthAll ys) < cLine := by
  simp only [PyData.depth] at h
  show A.units + 1 + _ < _
  omega
mutual
theorem rc_lt : ∀ (x y : PyData) (A : Around) (a b : Value) (as bs : List Addr) (k : Bool), Reads s.heap a x as → Reads s.heap b y bs → sig x = true → sig y = true → ltD x y = some k → A.units + min x.depth y.depth < cLine → RcLt A s a b k
  | .int i, .int j, A, a, b, as, bs, k, ra, rb, _, _, h, _ => by
    cases ra
    cases rb
    intro prog w E Q hq
    rw [ltD, Option.some.injEq] at h
    rw [← h] at hq
    exact P.lt_int hq
  | .str i, .str j, A, a, b, as, bs, k, ra, rb, _, _, h, _ => by
    cases ra
    cases rb
    intro prog w E Q hq
    rw [ltD, Option.some.injEq] at h
    rw [← h] at hq
    exact P.lt_str hq
  | .tuple xs, .tuple ys, A, a, b, as, bs, k, ra, rb, h1, h2, h, hu => by
    rw [sig] at h1 h2
    rw [ltD] at h
    cases ra with
    | @tuple l o vs n _ _ p1 p2 p3 p4 =>
      cases rb with
      | @tuple l' o' vs' n' _ _ q1 q2 q3 q4 => exact RcLt.tup ⟨_, p1, p2, _, p3⟩ ⟨_, q1, q2, _, q3⟩ (by omega) (rc_lts xs ys A.in1 _ _ _ _ k p4 q4 h1 h2 h (room_down (x := .none) (y := .none) hu))
  | .none, _, _, _, _, _, _, _, _, _, h, _, _, _ | .bool _, _, _, _, _, _, _, _, _, _, h, _, _, _ | .list _, _, _, _, _, _, _, _, _, _, h, _, _, _ | .dict _, _, _, _, _, _, _, _, _, _, h, _, _, _ => by simp [sig] at h
  | .int _, .none, _, _, _, _, _, _, _, _, _, _, h, _ | .int _, .bool _, _, _, _, _, _, _, _, _, _, _, h, _ | .int _, .str _, _, _, _, _, _, _, _, _, _, _, h, _ | .int _, .list _, _, _, _, _, _, _, _, _, _, _, h, _ | .int _, .tuple _, _, _, _, _, _, _, _, _, _, _, h, _ | .int _, .dict _, _, _, _, _, _, _, _, _, _, _, h, _ => by simp [ltD] at h
  | .str _, .none, _, _, _, _, _, _, _, _, _, _, h, _ | .str _, .bool _, _, _, _, _, _, _, _, _, _, _, h, _ | .str _, .int _, _, _, _, _, _, _, _, _, _, _, h, _ | .str _, .list _, _, _, _, _, _, _, _, _, _, _, h, _ | .str _, .tuple _, _, _, _, _, _, _, _, _, _, _, h, _ | .str _, .dict _, _, _, _, _, _, _, _, _, _, _, h, _ => by simp [ltD] at h
  | .tuple _, .none, _, _, _, _, _, _, _, _, _, _, h, _ | .tuple _, .bool _, _, _, _, _, _, _, _, _, _, _, h, _ | .tuple _, .int _, _, _, _, _, _, _, _, _, _, _, h, _ | .tuple _, .str _, _, _, _, _, _, _, _, _, _, _, h, _ | .tuple _, .list _, _, _, _, _, _, _, _, _, _, _, h, _ | .tuple _, .dict _, _, _, _, _, _, _, _, _, _, _, h, _ => by simp [ltD] at h
theorem rc_lts : ∀ (xs ys : List PyData) (A : Around) (us vs : List Value) (as bs : List Addr) (k : Bool), ReadsAll s.heap us xs as → ReadsAll s.heap vs ys bs → sigs xs = true → sigs ys = true → ltDs xs ys = some k →
    A.units + min (PyData.depthAll xs) (PyData.depthAll ys) < cLine → LtRun A s us vs k
  | [], [], A, us, vs, as, bs, k, ra, rb, _, _, h, _ => by
    cases ra
    cases rb
    rw [ltDs, Option.some.injEq] at h
    rw [← h]
    exact .nil
  | [], _ :: _, A, us, vs, as, bs, k, ra, rb, _, _, h, _ => by
    cases ra
    cases rb
    rw [ltDs, Option.some.injEq] at h
    rw [← h]
    exact .less
  | _ :: _, [], A, us, vs, as, bs, k, ra, rb, _, _, h, _ => by
    cases ra
    cases rb
    rw [ltDs, Option.some.injEq] at h
    rw [← h]
    exact .more
  | x :: xs, y :: ys, A, us, vs, as, bs, k, ra, rb, h1, h2, h, hu => by
    rw [sigs, Bool.and_eq_true] at h1 h2
    rw [ltDs] at h
    simp only [PyData.depthAll] at hu
    cases ra with
    | cons ra ras =>
      cases rb with
      | cons rb rbs =>
        have e := eqAt_plain x y A s _ _ _ _ ra rb (sig_plain x h1.1) (sig_plain y h2.1) (by omega)
        by_cases c : PyData.eqv x y = true
        · rw [if_pos c] at h
          rw [c] at e
          exact .same e (rc_lts xs ys A _ _ _ _ k ras rbs h1.2 h2.2 h (by omega))
        · rw [if_neg c] at h
          rw [Bool.eq_false_iff.mpr c] at e
          exact .diff e (rc_lt x y A _ _ _ _ k ra rb h1.1 h2.1 h (by omega))
end
end
end Cgo
/-! CgP: lists of numbers, texts and tuples of such are sorted. -/
namespace Cgo
open PySem PySem.Spec PyProof.Rows L2
open PySem.SeqAt PySem.W

mutual
theorem reads_one {h : Heap} : ∀ (d e : PyData) (v : Value) (as bs : List Addr), sig d = true → sig e = true → Reads h v d as → Reads h v e bs → d = e
  | .int i, e, v, as, bs, _, h2, r, q => by
    cases r
    cases q
    rfl
  | .str i, e, v, as, bs, _, h2, r, q => by
    cases r
    cases q
    rfl
  | .tuple xs, .tuple ys, v, as, bs, h1, h2, r, q => by
    rw [sig] at h1 h2
    cases r with
    | @tuple a o us n _ _ p1 p2 p3 p4 =>
      cases q with
      | @tuple a' o' us' n' _ _ q1 q2 q3 q4 =>
        have e1 : o = o' := Option.some.inj (p1.symm.trans q1)
        subst e1
        rw [p3] at q3
        injection q3 with e2 e3
        subst e2
        rw [reads_ones xs ys _ _ _ h1 h2 p4 q4]
  | .tuple xs, .int _, v, as, bs, h1, h2, r, q => by
    cases r
    cases q
  | .tuple xs, .str _, v, as, bs, h1, h2, r, q => by
    cases r
    cases q
  | .tuple _, .none, _, _, _, _, h, _, _ | .tuple _, .bool _, _, _, _, _, h, _, _ | .tuple _, .list _, _, _, _, _, h, _, _ | .tuple _, .dict _, _, _, _, _, h, _, _ => by simp [sig] at h
  | .none, _, _, _, _, h, _, _, _ | .bool _, _, _, _, _, h, _, _, _ | .list _, _, _, _, _, h, _, _, _ | .dict _, _, _, _, _, h, _, _, _ => by simp [sig] at h
theorem reads_ones {h : Heap} : ∀ (ds es : List PyData) (vs : List Value) (as bs : List Addr), sigs ds = true → sigs es = true → ReadsAll h vs ds as → ReadsAll h vs es bs → ds = es
  | [], es, vs, as, bs, _, _, r, q => by
    cases r
    cases q
    rfl
  | d :: ds, es, vs, as, bs, h1, h2, r, q => by
    rw [sigs, Bool.and_eq_true] at h1
    cases r with
    | cons r1 r2 =>
      cases q with
      | cons q1 q2 =>
        rw [sigs, Bool.and_eq_true] at h2
        rw [reads_one d _ _ _ _ h1.1 h2.1 r1 q1, reads_ones ds _ _ _ _ h1.2 h2.2 r2 q2]
end

/-- each two can be compared -/
def Cmp (ds : List PyData) : Prop := (∀ d ∈ ds, sig d = true) ∧ ∀ d ∈ ds, ∀ e ∈ ds, (ltD d e).isSome = true
theorem Cmp.lt {ds : List PyData} (C : Cmp ds) {d e : PyData} (hd : d ∈ ds) (he : e ∈ ds) : ltD d e = some (dataLt d e) := by
  obtain ⟨k, hk⟩ := Option.isSome_iff_exists.mp (C.2 d hd e he)
  rw [hk, lt_data (C.1 d hd) (C.1 e he) hk]
theorem kind_some {h : Heap} {ds : List PyData} (C : Cmp ds) {v : Value} {d : PyData} {as : List Addr} (hd : d ∈ ds) (r : Reads h v d as) : (dataKind h ds).keyOf v = some (keyToks d) := by
  have q : ∃ d, d ∈ ds ∧ ∃ as, Reads h v d as := ⟨d, hd, as, r⟩
  have e : (dataKind h ds).keyOf v = some (keyToks q.choose) := by
    show (open Classical in if q : ∃ d, d ∈ ds ∧ ∃ as, Reads h v d as then some (keyToks q.choose) else none) = _
    exact dif_pos q
  rw [e]
  obtain ⟨m, bs, r2⟩ := q.choose_spec
  rw [reads_one _ d v bs as (C.1 _ m) (C.1 d hd) r2 r]

section
variable {prog : Program} {w : World} {A : Around} {E : Value → Shared → Prop} {s : Shared}
theorem gen_lt {x y : PyData} {a b : Value} {as bs : List Addr} {k : Bool} {Q : Bool → Shared → Prop} (ra : Reads s.heap a x as) (rb : Reads s.heap b y bs) (hx : sig x = true) (hy : sig y = true) (h : ltD x y = some k) (hu : A.units + min x.depth y.depth < cLine) (hq : Q k s) :
    wpAny (model prog w) A (oneLt' false a b) Q E s := by
  rw [oneLt'_eq]
  simp only [Bool.false_eq_true, if_false]
  exact wpAny_bind (rc_lt x y A a b as bs k ra rb hx hy h hu prog w E _ (wpAny_truthy_bool hq))
theorem one_lt {x y : PyData} {a b : Value} {as bs : List Addr} {k : Bool} {Q : Bool → Shared → Prop} (ra : Reads s.heap a x as) (rb : Reads s.heap b y bs) (hx : sig x = true) (hy : sig y = true) (h : ltD x y = some k) (hu : A.units + min x.depth y.depth < cLine) (hq : Q k s) :
    wpAny (model prog w) A (oneLt' true a b) Q E s := by
  cases x with
  | int i =>
    cases y with
    | int j =>
      cases ra
      cases rb
      rw [ltD, Option.some.injEq] at h
      rw [← h] at hq
      exact oneLt_int hq
    | _ => simp [ltD] at h
  | str i =>
    cases y with
    | str j =>
      cases ra
      cases rb
      rw [ltD, Option.some.injEq] at h
      rw [← h] at hq
      exact oneLt_str hq
    | _ => simp [ltD] at h
  | tuple xs =>
    cases y with
    | tuple ys =>
      rw [sig] at hx hy
      rw [ltD] at h
      have hd := room_down (x := .none) (y := .none) hu
      cases ra with
      | @tuple l o vs n _ _ p1 p2 p3 p4 =>
        cases rb with
        | @tuple l' o' vs' n' _ _ q1 q2 q3 q4 =>
          rw [oneLt'_eq]
          simp only [if_true]
          refine wpAny_bind (wpAny_cRoomFor (by omega) ?_)
          refine wpAny_bind (wpAny_callSpecialIfBound?_slot (T := "tuple") ⟨_, p1, p2⟩ F.slot_tuple_lt (call_tup_lt ⟨_, p1, p2, _, p3⟩ ⟨_, q1, q2, _, q3⟩ (rc_lts xs ys A.in1 _ _ _ _ k p4 q4 hx hy h hd) ?_))
          exact wpAny_truthy_bool hq
    | _ => simp [ltD] at h
  | none | bool _ | list _ | dict _ => simp [sig] at hx
theorem lex_run {b fin : Bool} {Q : Bool → Shared → Prop} : ∀ (xs ys : List PyData) (i : Nat) (us vs : List Value) (as bs : List Addr) (k : Bool), ReadsAll s.heap us xs as → ReadsAll s.heap vs ys bs → sigs xs = true → sigs ys = true → ltDs xs ys = some k →
    A.units + min (PyData.depthAll xs) (PyData.depthAll ys) < cLine → fin = decide (xs.length < ys.length) → Q k s → KatLex prog w A b fin Q (us.zip vs) i s
  | [], [], i, us, vs, as, bs, k, ra, rb, _, _, h, _, hf, hq => by
    cases ra
    cases rb
    rw [ltDs, Option.some.injEq] at h
    rw [List.length_nil, decide_eq_false (Nat.lt_irrefl 0)] at hf
    exact kat_nil (by rw [hf, h]; exact hq)
  | [], _ :: _, i, us, vs, as, bs, k, ra, rb, _, _, h, _, hf, hq => by
    cases ra
    rw [ltDs, Option.some.injEq] at h
    rw [List.length_nil, List.length_cons, decide_eq_true (Nat.succ_pos _)] at hf
    rw [List.zip_nil_left]
    exact kat_nil (by rw [hf, h]; exact hq)
  | _ :: _, [], i, us, vs, as, bs, k, ra, rb, _, _, h, _, hf, hq => by
    cases rb
    rw [ltDs, Option.some.injEq] at h
    rw [List.length_nil, List.length_cons, decide_eq_false (Nat.not_lt_zero _)] at hf
    rw [List.zip_nil_right]
    exact kat_nil (by rw [hf, h]; exact hq)
  | x :: xs, y :: ys, i, us, vs, as, bs, k, ra, rb, h1, h2, h, hu, hf, hq => by
    rw [sigs, Bool.and_eq_true] at h1 h2
    rw [ltDs] at h
    simp only [PyData.depthAll] at hu
    have hf' : fin = decide (xs.length < ys.length) := by
      rw [hf]
      simp only [List.length_cons, Nat.add_lt_add_iff_right]
    cases ra with
    | cons ra ras =>
      cases rb with
      | cons rb rbs =>
        rw [List.zip_cons_cons]
        refine kat_cons (eqAt_plain x y A s _ _ _ _ ra rb (sig_plain x h1.1) (sig_plain y h2.1) (by omega) prog w _ _ ?_)
        cases c : PyData.eqv x y with
        | true =>
          rw [if_pos c] at h
          exact kat_yes (lex_run xs ys (i + 1) _ _ _ _ k ras rbs h1.2 h2.2 h (by omega) hf' hq)
        | false =>
          rw [if_neg (by rw [c]; exact Bool.false_ne_true)] at h
          refine kat_no ?_
          cases (b && i == 0) with
          | true => exact one_lt ra rb h1.1 h2.1 h (by omega) hq
          | false => exact gen_lt ra rb h1.1 h2.1 h (by omega) hq

/-! ### which way of comparing the sort takes -/
/-- the first item of a tuple, if it has one -/
def Fst (h : Heap) (v : Value) (f : Option Value) : Prop := ∃ a o xs n, v = .ref a ∧ h.get? a = some o ∧ o.cls = .type "tuple" ∧ o.data = .seq xs n ∧ xs[0]? = f
theorem fsts {M : Model} : ∀ {vs : List Value} {fs : List (Option Value)} {Q : List (Option Value) → Shared → Prop}, EachIs (Fst s.heap) vs fs → Q fs s → wpAny M A (vs.mapM firstOfTuple') Q E s
  | _, _, _, .nil, h => by
    rw [List.mapM_nil]
    exact wpAny_pure h
  | _, _, Q, .cons (as := vs) (b := f) (bs := fs) ⟨a, o, xs, n, e, ho, hc, hd, hf⟩ t, h => by
    subst e
    rw [List.mapM_cons]
    refine wpAny_bind ?_
    rw [kas_first_eq]
    refine wpAny_bind (Looks.here (show Looks M s.heap (typeOf (.ref a)) o.cls from (Looks.ld ho).andThen .now) ?_)
    rw [hc, if_neg (by first | decide | simp)]
    refine wpAny_bind (listItems_at ho hd (wpAny_pure ?_))
    rw [hf]
    exact wpAny_bind (fsts (Q := fun bs s' => wpAny M A (pure (f :: bs)) Q E s') t (wpAny_pure h))
/-- some of the tuples are empty -/
theorem kind_mixed {M : Model} {vs : List Value} {fs : List (Option Value)} {Q : SortKind → Shared → Prop} (h : EachIs (Fst s.heap) vs fs) (hne : none ∈ fs) (h1 : Q general' s) (h2 : Q oneType' s) : wpAny M A (keyKind' vs.toArray) Q E s := by
  rw [keyKind'_eq, List.mapM_toArray, map_eq_pure_bind]
  refine wpAny_bind (wpAny_bind (fsts h (wpAny_pure ?_)))
  rw [if_neg (by
    rw [List.all_toArray, List.all_eq_true]
    intro z
    exact absurd (z none hne) (by simp))]
  split
  · exact wpAny_pure h1
  · rw [oneTypeOnly'_eq, List.mapM_toArray, map_eq_pure_bind]
    refine wpAny_bind (wpAny_bind (wpAny_bind (kas_mapM (r := Value.type "tuple") _ (fun v hv Q' hq => ?_) (wpAny_pure ?_))))
    · obtain ⟨f, hf, a, o, xs, n, e, ho, hc, _⟩ := h.left v hv
      subst e
      exact Looks.here (show Looks M s.heap (typeOf (.ref a)) (Value.type "tuple") from hc ▸ (Looks.ld ho).andThen .now) hq
    · split
      · split
        · exact wpAny_pure (wpAny_pure h2)
        · exact wpAny_pure (wpAny_pure h1)
      · exact wpAny_pure (wpAny_pure h1)
theorem type_one {x y : PyData} {k : Bool} (hx : sig x = true) (hy : sig y = true) (h : ltD x y = some k ∨ PyData.eqv x y = true) : dataType x = dataType y := by
  rcases h with h | h
  · cases x <;> cases y <;> first
      | rfl
      | simp [ltD] at h
  · rw [(sig_eqv x y hx hy).mp h]
theorem each_fst {h : Heap} : ∀ {vs : List Value} {ds : List PyData}, EachIs (fun v d => ∃ as, Reads h v d as) vs ds → (∀ d ∈ ds, ∃ xs, d = .tuple xs) → (∃ d ∈ ds, d = .tuple []) → ∃ fs, EachIs (Fst h) vs fs ∧ none ∈ fs
  | _, _, .nil, _, ⟨d, hd, _⟩ => by cases hd
  | _, _, .cons (b := d) (bs := ds) ⟨as, r⟩ t, ht, he => by
    have all : ∀ {vs : List Value} {ds : List PyData}, EachIs (fun v d => ∃ as, Reads h v d as) vs ds → (∀ d ∈ ds, ∃ xs, d = .tuple xs) → ∃ fs, EachIs (Fst h) vs fs ∧ ((∃ d ∈ ds, d = .tuple []) → none ∈ fs) := by
      intro vs ds e
      induction e with
      | nil => exact fun _ => ⟨[], .nil, fun ⟨d, hd, _⟩ => by cases hd⟩
      | @cons v d vs ds hr t ih =>
        intro ht
        obtain ⟨fs, q1, q2⟩ := ih fun d hd => ht d (List.mem_cons_of_mem _ hd)
        obtain ⟨xs, rfl⟩ := ht d List.mem_cons_self
        obtain ⟨as, r⟩ := hr
        cases r with
        | @tuple a o us n _ _ p1 p2 p3 p4 =>
          refine ⟨us[0]? :: fs, .cons ⟨a, o, us, n, rfl, p1, p2, p3, rfl⟩ q1, fun ⟨d, hd, e⟩ => ?_⟩
          rcases List.mem_cons.mp hd with z | z
          · rw [z] at e
            injection e with e
            subst e
            have e2 : us.toList = [] := by
              cases q : us.toList with
              | nil => rfl
              | cons _ _ =>
                rw [q] at p4
                cases p4
            have e3 : us[0]? = none := by
              rw [← Array.getElem?_toList, e2]
              rfl
            rw [e3]
            exact List.mem_cons_self
          · exact List.mem_cons_of_mem _ (q2 ⟨d, z, e⟩)
    obtain ⟨fs, q1, q2⟩ := all (.cons ⟨as, r⟩ t) ht
    exact ⟨fs, q1, q2 he⟩
theorem sorts {vs : List Value} {ds : List PyData} (e : EachIs (fun v d => ∃ as, Reads s.heap v d as) vs ds) (C : Cmp ds) (hu : ∀ d ∈ ds, A.units + d.depth < cLine) : SortsAt prog w A s (dataKind s.heap ds) vs := by
  have room : ∀ {d d' : PyData}, d ∈ ds → A.units + min d.depth d'.depth < cLine := fun {d d'} hd => Nat.lt_of_le_of_lt (Nat.add_le_add_left (Nat.min_le_left _ _) _) (hu d hd)
  refine ⟨fun v hv => ?_, ?_⟩
  · obtain ⟨d, hd, as, r⟩ := e.left v hv
    exact ⟨_, kind_some C hd r⟩
  have gen : H.LtAt prog w A s (dataKind s.heap ds) general' := by
    intro E x y a b Q ha hb hq
    obtain ⟨d, as, hd, ra, rfl⟩ := dataKind_inv ha
    obtain ⟨d', as', hd', rb, rfl⟩ := dataKind_inv hb
    show wpAny _ _ (oneLt' false x y) _ _ _
    exact gen_lt ra rb (C.1 d hd) (C.1 d' hd') (C.lt hd hd') (room hd) hq
  have one : H.LtAt prog w A s (dataKind s.heap ds) oneType' := by
    intro E x y a b Q ha hb hq
    obtain ⟨d, as, hd, ra, rfl⟩ := dataKind_inv ha
    obtain ⟨d', as', hd', rb, rfl⟩ := dataKind_inv hb
    rw [keyLt'_oneType]
    exact one_lt ra rb (C.1 d hd) (C.1 d' hd') (C.lt hd hd') (room hd) hq
  cases ds with
  | nil =>
    cases e
    exact ⟨general', gen, fun h2 => absurd h2 (by simp)⟩
  | cons d₀ ds₀ =>
    have h0 : d₀ ∈ d₀ :: ds₀ := List.mem_cons_self
    by_cases t0 : ∃ xs, d₀ = .tuple xs
    · have allT : ∀ d ∈ d₀ :: ds₀, ∃ xs, d = .tuple xs := fun d hd => by
        have q := C.lt hd h0
        obtain ⟨xs, rfl⟩ := t0
        cases d with
        | tuple ys => exact ⟨ys, rfl⟩
        | _ => simp [ltD] at q
      by_cases em : ∃ d ∈ d₀ :: ds₀, d = .tuple []
      · obtain ⟨fs, f1, f2⟩ := each_fst e allT em
        -- the model finds one of the two; which one is told by the first item
        by_cases hf : (fs[0]?.bind id).isSome = true
        · refine ⟨general', gen, fun h2 E Q hq => ?_⟩
          rw [keyKind'_eq, List.mapM_toArray, map_eq_pure_bind]
          refine wpAny_bind (wpAny_bind (fsts f1 (wpAny_pure ?_)))
          rw [if_neg (by
            rw [List.all_toArray, List.all_eq_true]
            intro z
            exact absurd (z none f2) (by simp))]
          rw [if_pos (by simpa using hf)]
          exact wpAny_pure hq
        · refine ⟨oneType', one, fun h2 E Q hq => ?_⟩
          rw [keyKind'_eq, List.mapM_toArray, map_eq_pure_bind]
          refine wpAny_bind (wpAny_bind (fsts f1 (wpAny_pure ?_)))
          rw [if_neg (by
            rw [List.all_toArray, List.all_eq_true]
            intro z
            exact absurd (z none f2) (by simp))]
          rw [if_neg (by simpa using hf)]
          rw [oneTypeOnly'_eq, List.mapM_toArray, map_eq_pure_bind]
          refine wpAny_bind (wpAny_bind (wpAny_bind (kas_mapM (r := Value.type "tuple") _ (fun v hv Q' hq => ?_) (wpAny_pure ?_))))
          · obtain ⟨f, hf, a, o, xs, n, e, ho, hc, _⟩ := f1.left v hv
            subst e
            exact Looks.here (show Looks (model prog w) s.heap (typeOf (.ref a)) (Value.type "tuple") from hc ▸ (Looks.ld ho).andThen .now) hq
          · obtain ⟨v₁, rest, rfl⟩ : ∃ v₁ rest, vs = v₁ :: rest := by
              match vs, h2 with
              | v₁ :: rest, _ => exact ⟨v₁, rest, rfl⟩
            have hall : ((List.map (fun _ => Value.type "tuple") (v₁ :: rest)).toArray.all fun x => x == Value.type "tuple") = true := by
              simp only [List.all_toArray, List.all_map, List.all_eq_true]
              intro _ _
              rfl
            have h00 : (List.map (fun _ => Value.type "tuple") (v₁ :: rest)).toArray[0]? = some (Value.type "tuple") := by simp
            rw [h00]
            simp only [hall, if_true]
            exact wpAny_pure (wpAny_pure hq)
      · have ht : ∀ d, d ∈ d₀ :: ds₀ → ∃ x r, d = .tuple (x :: r) := fun d hd => by
          obtain ⟨xs, rfl⟩ := allT d hd
          cases xs with
          | nil => exact absurd ⟨_, hd, rfl⟩ em
          | cons x r => exact ⟨x, r, rfl⟩
        obtain ⟨x₀, r₀, e₀⟩ := ht d₀ h0
        have first : ∀ x r, PyData.tuple (x :: r) ∈ d₀ :: ds₀ → dataType x = dataType x₀ := fun x r hm => by
          have q := C.lt hm h0
          have s1 := C.1 _ hm
          have s0 := C.1 _ h0
          rw [e₀] at q s0
          rw [sig, sigs, Bool.and_eq_true] at s1 s0
          rw [ltD, ltDs] at q
          by_cases c : PyData.eqv x x₀ = true
          · exact type_one (k := true) s1.1 s0.1 (.inr c)
          · rw [if_neg c] at q
            exact type_one s1.1 s0.1 (.inl q)
        refine ⟨tuples' (dataType x₀ != Value.type "tuple"), ?_, fun h2 E Q hq => ?_⟩
        · intro E x y a b Q ha hb hq
          obtain ⟨d, as, hd, ra, rfl⟩ := dataKind_inv ha
          obtain ⟨d', as', hd', rb, rfl⟩ := dataKind_inv hb
          have q := C.lt hd hd'
          have s1 := C.1 _ hd
          have s2 := C.1 _ hd'
          have rm := room (d' := d') hd
          have hq' : Q (dataLt d d') s := hq
          obtain ⟨x1, r1, rfl⟩ := ht d hd
          obtain ⟨x2, r2, rfl⟩ := ht d' hd'
          rw [sig] at s1 s2
          rw [ltD] at q
          cases ra with
          | @tuple l o xs n _ _ h1 h2 h3 h4 =>
            cases rb with
            | @tuple l' o' xs' n' _ _ k1 k2 k3 k4 =>
              have n1 : xs.size = (x1 :: r1).length := by simpa using SeqAt.ReadsAll.length _ _ _ h4
              have n2 : xs'.size = (x2 :: r2).length := by simpa using SeqAt.ReadsAll.length _ _ _ k4
              have rd : A.units + min (PyData.depthAll (x1 :: r1)) (PyData.depthAll (x2 :: r2)) < cLine := by
                simp only [PyData.depth] at rm
                omega
              exact kat_lt h1 h3 k1 k3 (lex_run (x1 :: r1) (x2 :: r2) 0 _ _ _ _ _ h4 k4 s1 s2 q rd (by rw [n1, n2]) hq')
        · obtain ⟨fs, t1, t2, t3⟩ := each_katTups e ht
          refine kat_kind (T := dataType x₀) t1 (by omega) (fun f hf => ?_) (beq_self_eq_true _) hq
          obtain ⟨x, r, as, m1, m2⟩ := t3 f hf
          rw [← first x r m1]
          exact looks_reads m2
    · refine ⟨oneType', one, fun h2 E Q hq => ?_⟩
      have nt : ∀ xs, d₀ ≠ .tuple xs := fun xs z => t0 ⟨xs, z⟩
      refine kas_kind (T := dataType d₀) h2 (fun v hv => ?_) (dataType_other nt) (beq_self_eq_true _) hq
      obtain ⟨d, hd, as, r⟩ := e.left v hv
      rw [← type_one (C.1 d hd) (C.1 d₀ h0) (.inl (C.lt hd h0))]
      exact looks_reads r

/-- as Python sorts them -/
def sortD (ds : List PyData) : List PyData := ds.mergeSort fun a b => !dataLt b a
theorem keys_each {h : Heap} {ds : List PyData} (C : Cmp ds) : ∀ {vs : List Value} {es : List PyData}, (∀ e ∈ es, e ∈ ds) → EachIs (fun v d => ∃ as, Reads h v d as) vs es → EachIs (fun v d => (dataKind h ds).keyOf v = some (keyToks d)) vs es
  | _, _, _, .nil => .nil
  | _, _, hm, .cons ⟨as, r⟩ t => .cons (kind_some C (hm _ List.mem_cons_self) r) (keys_each C (fun e he => hm e (List.mem_cons_of_mem _ he)) t)
theorem vals_sorted {h : Heap} {R : Value → PyData → Prop} {vs : List Value} {ds : List PyData} (C : Cmp ds) (e : EachIs R vs ds) (er : EachIs (fun v d => ∃ as, Reads h v d as) vs ds) : EachIs R (sortVals (dataKind h ds) false vs vs) (sortD ds) :=
  sortVals_each (κ := dataKind h ds) keyToks e (keys_each C (fun _ z => z) er)
/-- sorted(xs) -/
theorem sorted_of {R : Value → PyData → Prop} {l : Addr} {vs : List Value} {ds : List PyData} {Q : Value → Shared → Prop} (hl : s.heap.IsList l vs.toArray) (e : EachIs R vs ds) (er : EachIs (fun v d => ∃ as, Reads s.heap v d as) vs ds) (C : Cmp ds) (hL : ds.length ≤ sizeLine)
    (hu : ∀ d ∈ ds, A.units + 2 + d.depth < cLine) (h : ∀ out, out.length = ds.length → EachIs R out (sortD ds) → Q (.ref (s.heap.objs.size + 1)) { s with heap := sortedAll s.heap vs (List.toArray out) }) :
    wpAny (model prog w) A (call (.builtin "sorted") [.ref l]) Q E s := by
  have er' : EachIs (fun v d => ∃ as, Reads (sortingHeap (copyHeap s.heap vs) (s.heap.objs.size + 1) vs) v d as) vs ds := er.mono fun _ _ ⟨as, r⟩ => ⟨as, PyProof.Rows.Reads.keeps (fun _ _ => sorting_copy_old) r⟩
  exact sorted_vals hl (sorts (s := { s with heap := sortingHeap (copyHeap s.heap vs) (s.heap.objs.size + 1) vs }) er' C hu) (by rw [e.length]; exact hL) (h _ (by rw [sortVals_length false rfl]; exact e.length) (vals_sorted C e er'))
end
end Cgo
/-! CgQ: what sorting gives; sorted(set(xs)); sorted(xs) and < as rules. -/
namespace Cgo
open PySem PySem.Spec PyProof.Rows L2
open PySem.SeqAt PySem.W

/-! ### sorted lists, as mathematics -/
theorem le_trans' (a b c : PyData) (h1 : (!dataLt b a) = true) (h2 : (!dataLt c b) = true) : (!dataLt c a) = true := by
  rw [Bool.not_eq_true'] at h1 h2 ⊢
  exact KeyOrd.kle_trans (O := listOrd itemOrd) (a := keyToks a) (b := keyToks b) (c := keyToks c) h1 h2
theorem lt_asym {a b : PyData} (h : dataLt a b = true) : dataLt b a = false := by
  cases q : dataLt b a with
  | false => rfl
  | true =>
    have z := (listOrd itemOrd).trans (keyToks a) (keyToks b) (keyToks a) h q
    rw [(listOrd itemOrd).irrefl] at z
    cases z
theorem le_total' (a b : PyData) : ((!dataLt b a) || (!dataLt a b)) = true := by
  cases q : dataLt a b with
  | false => simp
  | true =>
    rw [lt_asym q]
    rfl
theorem sortD_perm (ds : List PyData) : (sortD ds).Perm ds := List.mergeSort_perm _ _
theorem sortD_sorted (ds : List PyData) : (sortD ds).Pairwise fun a b => dataLt b a = false :=
  (List.pairwise_mergeSort le_trans' le_total' ds).imp fun h => by rwa [Bool.not_eq_true'] at h
mutual
theorem ltD_flip : ∀ (x y : PyData) (k : Bool), sig x = true → sig y = true → x ≠ y → ltD x y = some k → ltD y x = some (!k)
  | .int i, .int j, k, _, _, ne, h => by
    rw [ltD, Option.some.injEq] at h ⊢
    have ne' : i ≠ j := fun e => ne (by rw [e])
    rw [← h]
    by_cases c : i < j
    · rw [decide_eq_true c, decide_eq_false (show ¬ j < i by omega)]
      rfl
    · rw [decide_eq_false c, decide_eq_true (show j < i by omega)]
      rfl
  | .str i, .str j, k, _, _, ne, h => by
    rw [ltD, Option.some.injEq] at h ⊢
    have ne' : i.cps.toList ≠ j.cps.toList := fun e2 => ne (by
      have e3 : i.cps = j.cps := by
        have := congrArg List.toArray e2
        simpa using this
      cases i
      cases j
      simp only at e3
      subst e3
      rfl)
    rw [← h]
    by_cases c : i.cps.toList < j.cps.toList
    · rw [decide_eq_true c, decide_eq_false (List.lt_asymm c)]
      rfl
    · rw [decide_eq_false c]
      have d : j.cps.toList < i.cps.toList := by
        rcases Std.lt_trichotomy i.cps.toList j.cps.toList with z | z | z
        · exact absurd z c
        · exact absurd z ne'
        · exact z
      rw [decide_eq_true d]
      rfl
  | .tuple xs, .tuple ys, k, h1, h2, ne, h => by
    rw [sig] at h1 h2
    rw [ltD] at h ⊢
    exact ltDs_flip xs ys k h1 h2 (fun e => ne (by rw [e])) h
  | .none, _, _, h, _, _, _ | .bool _, _, _, h, _, _, _ | .list _, _, _, h, _, _, _ | .dict _, _, _, h, _, _, _ => by simp [sig] at h
  | .int _, .none, _, _, _, _, h | .int _, .bool _, _, _, _, _, h | .int _, .str _, _, _, _, _, h | .int _, .list _, _, _, _, _, h | .int _, .tuple _, _, _, _, _, h | .int _, .dict _, _, _, _, _, h => by simp [ltD] at h
  | .str _, .none, _, _, _, _, h | .str _, .bool _, _, _, _, _, h | .str _, .int _, _, _, _, _, h | .str _, .list _, _, _, _, _, h | .str _, .tuple _, _, _, _, _, h | .str _, .dict _, _, _, _, _, h => by simp [ltD] at h
  | .tuple _, .none, _, _, _, _, h | .tuple _, .bool _, _, _, _, _, h | .tuple _, .int _, _, _, _, _, h | .tuple _, .str _, _, _, _, _, h | .tuple _, .list _, _, _, _, _, h | .tuple _, .dict _, _, _, _, _, h => by simp [ltD] at h
theorem ltDs_flip : ∀ (xs ys : List PyData) (k : Bool), sigs xs = true → sigs ys = true → xs ≠ ys → ltDs xs ys = some k → ltDs ys xs = some (!k)
  | [], [], _, _, _, ne, _ => absurd rfl ne
  | [], _ :: _, k, _, _, _, h => by
    simp only [ltDs, Option.some.injEq] at h ⊢
    rw [← h]
    rfl
  | _ :: _, [], k, _, _, _, h => by
    simp only [ltDs, Option.some.injEq] at h ⊢
    rw [← h]
    rfl
  | x :: xs, y :: ys, k, h1, h2, ne, h => by
    rw [sigs, Bool.and_eq_true] at h1 h2
    rw [ltDs] at h ⊢
    by_cases e : x = y
    · subst e
      rw [if_pos ((sig_eqv x x h1.1 h1.1).mpr rfl)] at h ⊢
      exact ltDs_flip xs ys k h1.2 h2.2 (fun z => ne (by rw [z])) h
    · rw [if_neg (fun z => e ((sig_eqv x y h1.1 h2.1).mp z))] at h
      rw [if_neg (fun z => e ((sig_eqv y x h2.1 h1.1).mp z).symm)]
      exact ltD_flip x y k h1.1 h2.1 e h
end
theorem Cmp.anti {ds : List PyData} (C : Cmp ds) {a b : PyData} (ha : a ∈ ds) (hb : b ∈ ds) (h1 : dataLt b a = false) (h2 : dataLt a b = false) : a = b := by
  rcases Classical.em (a = b) with e | e
  · exact e
  · have q := ltD_flip a b _ (C.1 a ha) (C.1 b hb) e (C.lt ha hb)
    rw [C.lt hb ha, h1, h2] at q
    cases q
theorem Cmp.perm {ds es : List PyData} (C : Cmp ds) (p : ds.Perm es) : Cmp es := ⟨fun d hd => C.1 d (p.mem_iff.mpr hd), fun d hd e he => C.2 d (p.mem_iff.mpr hd) e (p.mem_iff.mpr he)⟩
theorem Cmp.sub {ds es : List PyData} (C : Cmp ds) (p : ∀ e ∈ es, e ∈ ds) : Cmp es := ⟨fun d hd => C.1 d (p d hd), fun d hd e he => C.2 d (p d hd) e (p e he)⟩
/-- what is sorted and has the same items is the same -/
theorem sort_same {xs ys : List PyData} (C : Cmp xs) (p : xs.Perm ys) (h1 : xs.Pairwise fun a b => dataLt b a = false) (h2 : ys.Pairwise fun a b => dataLt b a = false) : xs = ys :=
  List.Perm.eq_of_pairwise (fun a b ha hb z1 z2 => C.anti ha (p.mem_iff.mpr hb) z1 z2) h1 h2 p
theorem sortD_of {xs ys : List PyData} (C : Cmp xs) (p : xs.Perm ys) : sortD xs = sortD ys :=
  sort_same (C.perm (sortD_perm xs).symm) ((sortD_perm xs).trans (p.trans (sortD_perm ys).symm)) (sortD_sorted xs) (sortD_sorted ys)

/-! ### without what stands twice -/
def putD (ds : List PyData) (d : PyData) : List PyData := if ds.any (fun e => PyData.eqv e d) then ds else ds ++ [d]
def onceD (ds : List PyData) : List PyData := ds.foldl putD []
theorem once_fold : ∀ (ds acc : List PyData), (∀ d ∈ ds, sig d = true) → (∀ d ∈ acc, sig d = true) → acc.Nodup → (ds.foldl putD acc).Nodup ∧ ∀ d, d ∈ ds.foldl putD acc ↔ d ∈ acc ∨ d ∈ ds
  | [], acc, _, _, hn => ⟨hn, fun d => by simp⟩
  | x :: ds, acc, h1, h2, hn => by
    have hx := h1 x List.mem_cons_self
    have t : (acc.any fun e => PyData.eqv e x) = true ↔ x ∈ acc := by
      rw [List.any_eq_true]
      exact ⟨fun ⟨e, he, q⟩ => ((sig_eqv e x (h2 e he) hx).mp q) ▸ he, fun h => ⟨x, h, (sig_eqv x x hx hx).mpr rfl⟩⟩
    rw [List.foldl_cons]
    by_cases c : (acc.any fun e => PyData.eqv e x) = true
    · have e : putD acc x = acc := if_pos c
      rw [e]
      obtain ⟨q1, q2⟩ := once_fold ds acc (fun d hd => h1 d (List.mem_cons_of_mem _ hd)) h2 hn
      refine ⟨q1, fun d => ?_⟩
      rw [q2, List.mem_cons]
      refine ⟨fun z => z.elim .inl fun z => .inr (.inr z), fun z => ?_⟩
      rcases z with z | z | z
      · exact .inl z
      · exact .inl (z ▸ t.mp c)
      · exact .inr z
    · have e : putD acc x = acc ++ [x] := if_neg c
      rw [e]
      obtain ⟨q1, q2⟩ := once_fold ds (acc ++ [x]) (fun d hd => h1 d (List.mem_cons_of_mem _ hd)) (fun d hd => by
        rcases List.mem_append.mp hd with z | z
        · exact h2 d z
        · rw [List.mem_singleton.mp z]
          exact hx) (List.nodup_append.mpr ⟨hn, List.pairwise_singleton _ x, fun a ha b hb z => by
            rw [List.mem_singleton.mp hb] at z
            exact c (t.mpr (z ▸ ha))⟩)
      refine ⟨q1, fun d => ?_⟩
      rw [q2, List.mem_append, List.mem_singleton, List.mem_cons, or_assoc]
theorem once_nodup {ds : List PyData} (h : ∀ d ∈ ds, sig d = true) : (onceD ds).Nodup := (once_fold ds [] h (fun d hd => by cases hd) List.nodup_nil).1
theorem mem_once {ds : List PyData} (h : ∀ d ∈ ds, sig d = true) {d : PyData} : d ∈ onceD ds ↔ d ∈ ds := by
  have q := (once_fold ds [] h (fun d hd => by cases hd) List.nodup_nil).2 d
  unfold onceD
  rw [q]
  simp
theorem once_perm {ds es : List PyData} (h : ∀ d ∈ ds, sig d = true) (hn : es.Nodup) (hm : ∀ d, d ∈ es ↔ d ∈ ds) : es.Perm (onceD ds) :=
  (List.perm_ext_iff_of_nodup hn (once_nodup h)).mpr fun d => (hm d).trans (mem_once h).symm

/-! ### sorted of a set -/
section
variable {P : Program} {w : World} {A : Around} {E : Value → Shared → Prop} {s : Shared}
theorem each_perm {R : Value → PyData → Prop} {vs us : List Value} (p : vs.Perm us) : ∀ {ds : List PyData}, EachIs R us ds → ∃ es, EachIs R vs es ∧ es.Perm ds := by
  induction p with
  | nil => exact fun e => ⟨_, e, List.Perm.refl _⟩
  | cons x _ ih =>
    intro ds e
    cases e with
    | cons h t =>
      obtain ⟨es, q1, q2⟩ := ih t
      exact ⟨_, .cons h q1, q2.cons _⟩
  | swap x y l =>
    intro ds e
    cases e with
    | cons h t =>
      cases t with
      | cons h' t => exact ⟨_, .cons h' (.cons h t), List.Perm.swap _ _ _⟩
  | trans _ _ ih1 ih2 =>
    intro ds e
    obtain ⟨es, q1, q2⟩ := ih2 e
    obtain ⟨fs, r1, r2⟩ := ih1 q1
    exact ⟨fs, r1, r2.trans q2⟩
theorem sorted_set {a : Addr} {vs : List Value} {ds : List PyData} {R : Value → PyData → Prop} {Q : Value → Shared → Prop} (V : Cgn.SetV w s.heap a vs) (hh : A.handled = none) (e : EachIs (fun v d => R v d ∧ ∃ as, Reads s.heap v d as) vs ds) (C : Cmp ds) (hL : ds.length ≤ 1000000)
    (hu : ∀ d ∈ ds, A.units + 2 + d.depth < cLine)
    (hQ : ∀ s' p (out : List Value) (c : Nat), (∀ b o, s.heap.get? b = some o → s'.heap.get? b = some o) → s'.gens = s.gens → s'.os = s.os → s.heap.objs.size ≤ p → s'.heap.get? p = some (seqObj "list" out.toArray c) → EachIs R out (sortD ds) → Q (.ref p) s') :
    wpAny (model P w) A (call (.builtin "sorted") [.ref a]) Q E s := by
  obtain ⟨o, es, ep, t, ho, hex, hd, hvs, hf, hsz, ris, ld⟩ := V
  have hlen : vs.length = ds.length := e.length
  refine Calls.call_function_entry kind_sorted plain_sorted entry_sorted (args_sorted1 _) ?_
  unfold Builtin.«sorted»
  refine wpAny_bind (m := checkCount "sorted" 1 1 _) (wpAny_pure ?_)
  refine wpAny_bind (collect_set (A := A.in1) hh ⟨o, ho, hex.1, hd⟩ hf hsz ris ld fun s1 us k1 hz g1 o1 pm => ?_)
  rw [hvs] at pm
  obtain ⟨fs, q1, q2⟩ := each_perm pm e
  have ul : us.length = ds.length := by rw [pm.length_eq, hlen]
  have C' : Cmp fs := C.perm q2.symm
  refine wpAny_bind (wpAny_newList ?_ (by rw [sizeLine_eq]; omega))
  have hoL : (s1.heap.push (seqObj "list" us.toArray 0)).get? s1.heap.objs.size = some (seqObj "list" us.toArray 0) := Heap.get?_push_size _ rfl
  have old : ∀ b u, s.heap.get? b = some u → (s1.heap.push (seqObj "list" us.toArray 0)).get? b = some u := fun b u z => Heap.get?_push_of_some _ (k1 b u z)
  have lt : ∀ b u, s.heap.get? b = some u → b < s1.heap.objs.size := fun b u z => Heap.lt_size (k1 b u z)
  have er : EachIs (fun v d => ∃ as, Reads (sortingHeap (s1.heap.push (seqObj "list" us.toArray 0)) s1.heap.objs.size us) v d as) us fs := q1.mono fun _ _ ⟨_, as, r⟩ => ⟨as, PyProof.Rows.Reads.keeps (fun b u z => sortingHeap_old (Nat.ne_of_lt (lt b u z)) (old b u z)) r⟩
  refine wpAny_bind (wpAny_holding (wpAny_call_entry_kw (kw := []) slot_list_sort ⟨_, hoL, rfl⟩ entry_list_sort (list_sort_vals (s := { s1 with heap := s1.heap.push (seqObj "list" us.toArray 0) }) hoL
    (sorts (s := { s1 with heap := sortingHeap (s1.heap.push (seqObj "list" us.toArray 0)) s1.heap.objs.size us }) er C' fun d hd => by
      have := hu d (q2.mem_iff.mp hd)
      simp only [Around.in1]
      omega) (by rw [sizeLine_eq]; omega) ⟨_, rfl, ?_⟩) (args_list_sort _)))
  obtain ⟨c, hc⟩ := sortedHeap_at (vs := us) (out := (sortVals (dataKind (sortingHeap (s1.heap.push (seqObj "list" us.toArray 0)) s1.heap.objs.size us) fs) false us us).toArray) hoL
  refine wpAny_pure ⟨_, rfl, hQ _ s1.heap.objs.size _ c (fun b u z => ?_) g1 o1 hz hc ?_⟩
  · show (sortedHeap (s1.heap.push (seqObj "list" us.toArray 0)) s1.heap.objs.size us _).get? b = some u
    rw [sortedHeap_old (Nat.ne_of_lt (lt b u z)) (by rw [size_push']; exact Nat.lt_succ_of_lt (lt b u z))]
    exact old b u z
  · rw [← sortD_of C' q2]
    exact vals_sorted C' (q1.mono fun _ _ z => z.1) er
end
end Cgo
/-! CgR: <, sorted(xs) and sorted(set(xs)) as rules. -/
namespace Cgo
open PySem PySem.Spec PyProof.Rows L2
open PySem.SeqAt PySem.W
section
variable {X : Cx}

def rLtD (K : PySem.W.Frag) : R2 := fun x y H Q => ∃ d e k, Dp K H x d ∧ Dp K H y e ∧ sig d = true ∧ sig e = true ∧ ltD d e = some k ∧ min d.depth e.depth ≤ 64 ∧ Q (.bl k) H
theorem op_ltD (hu : X.A.units + 64 < cLine) : OpR X (compareOp .Lt) (rLtD X.K) := by
  intro pins s σ H x y v u Q I rx ry h
  obtain ⟨d, e, k, hd, he, sd, se, hk, hm, q⟩ := h
  obtain ⟨as, r1⟩ := Dp.reads I d x v hd rx
  obtain ⟨bs, r2⟩ := Dp.reads I e y u he ry
  exact rc_lt d e X.A v u as bs k r1 r2 sd se hk (by omega) X.prog X.w _ _ ⟨.bl _, H, I, rfl, q⟩

/-! ### lists of data -/
theorem pairV {T : V → PyData → Prop} : ∀ {us : List V} {vs : List Value} {ds : List PyData}, Vals us vs → EachIs T us ds → EachIs (fun v d => ∃ x, x ∈ us ∧ RelV x v ∧ T x d) vs ds
  | _, _, _, .nil, .nil => .nil
  | _, _, _, .cons r t, .cons h e => .cons ⟨_, List.mem_cons_self, r, h⟩ ((pairV t e).mono fun _ _ ⟨x, m, q⟩ => ⟨x, List.mem_cons_of_mem _ m, q⟩)
theorem splitV {T : V → PyData → Prop} : ∀ {vs : List Value} {ds : List PyData}, EachIs (fun v d => ∃ x, RelV x v ∧ T x d) vs ds → ∃ ws, Vals ws vs ∧ EachIs T ws ds
  | _, _, .nil => ⟨[], .nil, .nil⟩
  | _, _, .cons ⟨x, r, h⟩ t => by
    obtain ⟨ws, q1, q2⟩ := splitV t
    exact ⟨x :: ws, .cons r q1, .cons h q2⟩
theorem readsV {pins : List (Addr × Obj)} {σ : L2.St} {H : Hp} {s : Shared} {T : V → PyData → Prop} (I : L2.Inv X pins σ H s) (ht : ∀ x d, T x d → Dp X.K H x d) : ∀ {us : List V} {vs : List Value} {ds : List PyData}, Vals us vs → EachIs T us ds → EachIs (fun v d => ∃ as, Reads s.heap v d as) vs ds
  | _, _, _, .nil, .nil => .nil
  | _, _, _, .cons r t, .cons h e => .cons (Dp.reads I _ _ _ (ht _ _ h) r) (readsV I ht t e)

/-- sorted(xs) -/
def rSortD (K : PySem.W.Frag) : List V → Hp → VK → Prop := fun vs H Q => ∃ (a : Addr) (us : List V) (ds : List PyData) (T : V → PyData → Prop), vs = [.ref a] ∧ SqL K H a us ∧ EachIs T us ds ∧ (∀ x d, T x d → Dp K H x d) ∧ Cmp ds ∧ (∀ d ∈ ds, d.depth ≤ 60) ∧
  ∀ ws p, EachIs T ws (sortD ds) → H p = none → Q (.ref p) (upd H p (.lst ws))
theorem cr_sortD (hu : X.A.units + 64 < cLine) : CallR X (.builtin "sorted") (rSortD X.K) := by
  intro pins s σ H vs us Q I r h
  obtain ⟨a, xs, ds, T, rfl, hs, hT, ht, C, hdp, q⟩ := h
  obtain ⟨its, rv, hl, hz⟩ := I.list hs
  rw [Vals.ref1 r]
  have hlen : its.length = ds.length := (rv.length).symm.trans hT.length
  refine sorted_of (R := fun v d => ∃ x, RelV x v ∧ T x d) hl.isList ((pairV rv hT).mono fun _ _ ⟨x, _, z⟩ => ⟨x, z⟩) (readsV I ht rv hT) C (by rw [← hlen, ← rv.length]; exact hz) (fun d hd => by have := hdp d hd; omega) fun out h1 h2 => ?_
  obtain ⟨ws, k1, k2⟩ := splitV h2
  obtain ⟨ep, he'⟩ := PyProof.Rows.sortedAll_at s.heap its out.toArray
  have hlen2 : ws.length ≤ sizeLine := by
    rw [k1.length, h1, ← hT.length]
    exact hz
  exact ⟨.ref _, upd H (s.heap.objs.size + 1) (.lst ws), I.laid (t' := s.toks) (fun _ _ => PyProof.Rows.sortedAll_old) (Nat.le_succ _) ⟨hlen2, out, ep, k1, he'⟩, rfl, q _ _ k2 (I.hok.fresh (Nat.le_succ _))⟩

/-! ### sorted(set(xs)) -/
def tSortSet (K : PySem.W.Frag) (ta : TE) : TE := fun σ H Q => ta σ H fun x H1 => ∃ (l : Addr) (us : List V) (ds : List PyData) (T : V → PyData → Prop), x = V.ref l ∧ SqL K H1 l us ∧ EachIs T us ds ∧ (∀ x d, T x d → Dp K H1 x d) ∧ Cmp ds ∧ (∀ d ∈ ds, Cgn.numD d = true) ∧
  (∀ d ∈ ds, d.depth ≤ 8) ∧ ds.length < 64 ∧ ∀ ws p, EachIs T ws (sortD (onceD ds)) → H1 p = none → Q (.ref p) (upd H1 p (.lst ws))
theorem ints_or {ds : List PyData} (C : Cmp ds) (hn : ∀ d ∈ ds, Cgn.numD d = true) : (∃ ns : List Int, ds = ns.map PyData.int) ∨ ∀ d ∈ ds, ∃ xs, d = .tuple xs := by
  cases ds with
  | nil => exact .inl ⟨[], rfl⟩
  | cons d ds =>
    have h0 : d ∈ d :: ds := List.mem_cons_self
    cases d with
    | int i =>
      have all : ∀ es : List PyData, (∀ e ∈ es, ∃ j, e = .int j) → ∃ ns : List Int, es = ns.map PyData.int := by
        intro es
        induction es with
        | nil => exact fun _ => ⟨[], rfl⟩
        | cons e es ih =>
          intro z
          obtain ⟨j, rfl⟩ := z e List.mem_cons_self
          obtain ⟨ns, q⟩ := ih fun y hy => z y (List.mem_cons_of_mem _ hy)
          exact ⟨j :: ns, by rw [q]; rfl⟩
      refine .inl (all _ fun e he => ?_)
      have q := C.lt he h0
      cases e with
      | int j => exact ⟨j, rfl⟩
      | _ => simp [ltD] at q
    | tuple xs =>
      refine .inr fun e he => ?_
      have q := C.lt he h0
      cases e with
      | tuple ys => exact ⟨ys, rfl⟩
      | _ => simp [ltD] at q
    | _ =>
      have q := hn _ h0
      simp [Cgn.numD] at q
theorem nums_sig : ∀ d : PyData, Cgn.numD d = true → sig d = true := by
  have both : (∀ d : PyData, Cgn.numD d = true → sig d = true) ∧ (∀ ds : List PyData, Cgn.numDs ds = true → sigs ds = true) := by
    refine ⟨fun d => ?_, fun ds => ?_⟩
    · exact go d
    · exact gos ds
  exact both.1
where
  go : ∀ d : PyData, Cgn.numD d = true → sig d = true
    | .int _, _ => rfl
    | .tuple xs, h => by
      rw [Cgn.numD] at h
      rw [sig]
      exact gos xs h
    | .none, h | .bool _, h | .str _, h | .list _, h | .dict _, h => by simp [Cgn.numD] at h
  gos : ∀ ds : List PyData, Cgn.numDs ds = true → sigs ds = true
    | [], _ => rfl
    | x :: xs, h => by
      rw [Cgn.numDs, Bool.and_eq_true] at h
      rw [sigs, go x h.1, gos xs h.2]
      rfl
theorem once_len (ds : List PyData) : (onceD ds).length ≤ ds.length := by
  have key : ∀ ds acc : List PyData, (ds.foldl putD acc).length ≤ acc.length + ds.length := by
    intro ds
    induction ds with
    | nil => exact fun acc => Nat.le_refl _
    | cons d ds ih =>
      intro acc
      rw [List.foldl_cons]
      refine Nat.le_trans (ih _) ?_
      unfold putD
      split
      · rw [List.length_cons]
        omega
      · rw [List.length_append, List.length_cons, List.length_cons, List.length_nil]
        omega
  have q := key ds []
  rw [List.length_nil, Nat.zero_add] at q
  exact q
theorem each_right {α β : Type} {R : α → β → Prop} : ∀ {as : List α} {bs : List β}, EachIs R as bs → ∀ b ∈ bs, ∃ a, a ∈ as ∧ R a b
  | _, _, .nil, b, hb => nomatch hb
  | _, _, .cons h t, b, hb => by
    rcases List.mem_cons.mp hb with e | hb
    · subst e
      exact ⟨_, List.mem_cons_self, h⟩
    · obtain ⟨a, m, r⟩ := each_right t b hb
      exact ⟨a, List.mem_cons_of_mem _ m, r⟩
theorem pe_sortSet {a : Expr} {ta : TE} {p p2 q pos : Pos} (hc : X.calm = true) (hu : X.A.units + 64 < cLine) (hg : Gl X "sorted") (hm : X.mg "sorted" = none) (hg2 : Gl X "set") (hm2 : X.mg "set" = none) (ha : PE X a ta)
    (na : starEach [a] X.env = (false, eval a X.env) :: starEach [] X.env := by rfl) : PE X (.Call (.Name "sorted" p) [.Call (.Name "set" p2) [a] [] q] [] pos) (tSortSet X.K ta) := by
  refine ⟨fun pins s σ H Q I h => ?_⟩
  refine Call_ (ld_blt I hg hm PyProof.Rows.boot_sorted ?_)
  refine PyProof.Rows.callWith_builtin1 (PyProof.Rows.args_cons ?_ rfl) rfl rfl
  refine Call_ (ld_blt I hg2 hm2 PyProof.Rows.boot_set ?_)
  refine PyProof.Rows.callWith_type1 (PyProof.Rows.args_cons (thn (ha.run pins s σ H _ I h) fun v s1 ⟨x, H1, I1, r1, q1⟩ => PyProof.Rows.args_nil ?_) na) na rfl
  obtain ⟨l, us, ds, T, rfl, hs, hT, ht, C, hn, hdp, hfew, q1⟩ := q1
  cases r1
  obtain ⟨its, rv, hl, hz⟩ := I1.list hs
  have hlen : its.length = ds.length := (rv.length).symm.trans hT.length
  have hsig : ∀ d ∈ ds, sig d = true := fun d hd => nums_sig d (hn d hd)
  have rd := readsV I1 ht rv hT
  have pr := pairV rv hT
  -- what follows once the set stands
  have fin : ∀ (h' : Heap) (tk : Nat) (vs : List Value) (es : List PyData), Cgn.SetV X.w h' s1.heap.objs.size vs → EachIs (fun v d => (∃ x, RelV x v ∧ T x d) ∧ ∃ as, Reads h' v d as) vs es → es.Nodup → (∀ d, d ∈ es ↔ d ∈ ds) → (∀ b o, s1.heap.get? b = some o → h'.get? b = some o) →
      wpAny (model X.prog X.w) X.A (call (.builtin "sorted") [.ref s1.heap.objs.size]) (fun v s' => ∃ x H', Inv X pins σ H' s' ∧ RelV x v ∧ Q x H') X.xe { s1 with heap := h', toks := tk } := by
    intro h' tk vs es V e hnd hmem hk
    have pm : es.Perm (onceD ds) := once_perm hsig hnd hmem
    have C2 : Cmp es := C.sub fun d hd => (hmem d).mp hd
    have el : es.length ≤ ds.length := by
      rw [pm.length_eq]
      exact once_len ds
    refine sorted_set (s := { s1 with heap := h', toks := tk }) V (I1.ok.hd hc) e C2 (by omega) (fun d hd => by have := hdp d ((hmem d).mp hd); omega) fun s' p out c k g o hp hget eo => ?_
    obtain ⟨ws, k1, k2⟩ := splitV eo
    rw [sortD_of C2 pm] at k2
    have kk : ∀ b u, s1.heap.get? b = some u → s'.heap.get? b = some u := fun b u z => k b u (hk b u z)
    have hn0 : H1 p = none := I1.hok.fresh (Nat.le_trans (by
      have q := Heap.lt_size (show h'.get? s1.heap.objs.size = _ from V.choose_spec.choose_spec.choose_spec.choose_spec.1)
      exact Nat.le_of_lt q) hp)
    have hl2 : ws.length ≤ sizeLine := by
      rw [k2.length, (sortD_perm _).length_eq, ← pm.length_eq, sizeLine_eq]
      omega
    have J : Inv X pins σ (upd H1 p (.lst ws)) { s1 with heap := s'.heap, gens := s'.gens, drawn := s'.drawn, toks := s'.toks } :=
      I1.call (ch := []) (Un.laid kk (Nat.le_trans (Nat.le_of_lt (Heap.lt_size (show h'.get? s1.heap.objs.size = _ from V.choose_spec.choose_spec.choose_spec.choose_spec.1))) hp) hn0) (I1.hok.laid kk (Nat.le_trans (Nat.le_of_lt (Heap.lt_size (show h'.get? s1.heap.objs.size = _ from V.choose_spec.choose_spec.choose_spec.choose_spec.1))) hp) ⟨hl2, out, c, k1, hget⟩) (by rw [g]; exact I1.bare) (fun _ z => nomatch z)
    have e3 : s' = { s1 with heap := s'.heap, gens := s'.gens, drawn := s'.drawn, toks := s'.toks } := by
      cases s'
      cases s1
      cases o
      rfl
    rw [e3]
    exact ⟨.ref p, _, J, rfl, q1 ws p k2 hn0⟩
  rcases ints_or C hn with ⟨ns, rfl⟩ | htup
  · have hI : ∀ {vs : List Value} {ns : List Int}, EachIs (fun v d => ∃ as, Reads s1.heap v d as) vs (ns.map PyData.int) → IntsAre vs ns := by
      intro vs ns
      induction ns generalizing vs with
      | nil =>
        intro e
        cases e
        exact .nil
      | cons n ns ih =>
        intro e
        cases e with
        | cons h t =>
          obtain ⟨as, r⟩ := h
          cases r
          exact .cons _ _ (ih t)
    have hll : ns.length = its.length := by rw [hlen, List.length_map]
    refine Cgn.set_ints ns (I1.ok.hd hc) hl.isList (by simpa using hI rd) (by rw [List.length_map] at hfew; unfold scanBound; omega) fun h' tk vs ms V hi hnd hm hk => ?_
    refine PyProof.Rows.args_nil (fin h' tk vs (ms.map PyData.int) V ?_ (List.pairwise_map.mpr (hnd.imp fun z e => z (by injection e))) (fun d => ?_) hk)
    · have each : ∀ {vs : List Value} {ms : List Int}, IntsAre vs ms → (∀ m ∈ ms, m ∈ ns) → EachIs (fun v d => (∃ x, RelV x v ∧ T x d) ∧ ∃ as, Reads h' v d as) vs (ms.map PyData.int) := by
        intro vs ms hi
        induction hi with
        | nil => exact fun _ => .nil
        | cons m t hi ih =>
          intro z
          refine .cons ⟨?_, ⟨_, .int m t⟩⟩ (ih fun y hy => z y (List.mem_cons_of_mem _ hy))
          have hm1 : PyData.int m ∈ ns.map PyData.int := List.mem_map.mpr ⟨m, z m List.mem_cons_self, rfl⟩
          obtain ⟨x, hx, hT1⟩ := each_right hT _ hm1
          have dx := ht x _ hT1
          cases dx
          exact ⟨L2.V.int m, ⟨t, rfl⟩, hT1⟩
      exact each hi fun m hm1 => (hm m).mp hm1
    · constructor
      · intro z
        obtain ⟨m, hm1, rfl⟩ := List.mem_map.mp z
        exact List.mem_map.mpr ⟨m, (hm m).mp hm1, rfl⟩
      · intro z
        obtain ⟨m, hm1, rfl⟩ := List.mem_map.mp z
        exact List.mem_map.mpr ⟨m, (hm m).mpr hm1, rfl⟩
  · -- the elements, with where they stand
    have elts : ∀ {vs : List Value} {ds : List PyData}, EachIs (fun v d => ∃ as, Reads s1.heap v d as) vs ds → (∀ d ∈ ds, ∃ xs, d = .tuple xs) → (∀ d ∈ ds, Cgn.numD d = true) → (∀ d ∈ ds, d.depth ≤ 8) → ∃ ks : List Cgn.Elt, vs = ks.map (fun p => Value.ref p.1) ∧ ks.map (·.2) = ds.map Cgn.toK ∧ ∀ p ∈ ks, Cgn.At s1.heap p.2 p.1 := by
      intro vs ds e
      induction e with
      | nil => exact fun _ _ _ => ⟨[], rfl, rfl, fun p hp => by cases hp⟩
      | @cons v d vs ds h t ih =>
        intro z1 z2 z3
        obtain ⟨ks, q1, q2, q3⟩ := ih (fun y hy => z1 y (List.mem_cons_of_mem _ hy)) (fun y hy => z2 y (List.mem_cons_of_mem _ hy)) (fun y hy => z3 y (List.mem_cons_of_mem _ hy))
        obtain ⟨as, r⟩ := h
        have n0 := z2 d List.mem_cons_self
        have d0 := z3 d List.mem_cons_self
        obtain ⟨xs, rfl⟩ := z1 d List.mem_cons_self
        have nest := Cgn.nested_of _ _ _ n0 r
        cases r with
        | @tuple a o us n _ _ p1 p2 p3 p4 =>
          refine ⟨(a, Cgn.toK (.tuple xs)) :: ks, by rw [q1]; rfl, by rw [List.map_cons, List.map_cons, q2], fun p hp => ?_⟩
          rcases List.mem_cons.mp hp with e | hp
          · rw [e]
            exact ⟨nest, by rw [Cgn.toK_depth _ n0]; exact d0, Cgn.numK_of _ n0⟩
          · exact q3 p hp
    obtain ⟨ks, e1, e2, hk⟩ := elts rd htup hn hdp
    have hkl : ks.length = ds.length := by
      have := congrArg List.length e2
      simpa using this
    refine Cgn.set_of ks (I1.ok.hd hc) hl.isList (by simpa using e1) hk (by omega) (by omega) fun h' tk L V hnd sub all hkp => ?_
    -- each element of the set stands for one of the data
    have back : ∀ p ∈ ks, ∃ d ∈ ds, Cgn.toK d = p.2 ∧ (∃ x, RelV x (Value.ref p.1) ∧ T x d) ∧ ∃ as, Reads h' (Value.ref p.1) d as := by
      have key : ∀ {vs : List Value} {fs : List PyData} {ks : List Cgn.Elt}, EachIs (fun v d => (∃ x, RelV x v ∧ T x d) ∧ ∃ as, Reads s1.heap v d as) vs fs → vs = ks.map (fun p => Value.ref p.1) → ks.map (·.2) = fs.map Cgn.toK → ∀ p ∈ ks, ∃ d ∈ fs, Cgn.toK d = p.2 ∧ (∃ x, RelV x (Value.ref p.1) ∧ T x d) ∧ ∃ as, Reads h' (Value.ref p.1) d as := by
        intro vs fs ks e
        induction e generalizing ks with
        | nil =>
          intro z1 z2 p hp
          cases ks with
          | nil => cases hp
          | cons _ _ => cases z1
        | @cons v d vs fs h t ih =>
          intro z1 z2 p hp
          cases ks with
          | nil => cases z1
          | cons k ks =>
            rw [List.map_cons] at z1 z2
            rw [List.map_cons] at z2
            injection z1 with y1 y2
            injection z2 with y3 y4
            rcases List.mem_cons.mp hp with e | hp
            · subst e
              obtain ⟨hx, as, r⟩ := h
              rw [y1] at hx r
              exact ⟨d, List.mem_cons_self, y3.symm, hx, as, PyProof.Rows.Reads.keeps hkp r⟩
            · obtain ⟨d', m, q⟩ := ih y2 y4 p hp
              exact ⟨d', List.mem_cons_of_mem _ m, q⟩
      have both : ∀ {vs : List Value} {fs : List PyData}, EachIs (fun v d => ∃ x, x ∈ us ∧ RelV x v ∧ T x d) vs fs → EachIs (fun v d => ∃ as, Reads s1.heap v d as) vs fs → EachIs (fun v d => (∃ x, RelV x v ∧ T x d) ∧ ∃ as, Reads s1.heap v d as) vs fs := by
        intro vs fs e
        induction e with
        | nil => exact fun _ => .nil
        | cons h t ih =>
          intro f
          cases f with
          | cons h2 t2 =>
            obtain ⟨x, _, z⟩ := h
            exact .cons ⟨⟨x, z⟩, h2⟩ (ih t2)
      exact key (both pr rd) e1 e2
    have pick : ∀ M : List Cgn.Elt, (∀ p ∈ M, p ∈ ks) → ∃ es : List PyData, EachIs (fun v d => (∃ x, RelV x v ∧ T x d) ∧ ∃ as, Reads h' v d as) (M.map fun p => Value.ref p.1) es ∧ es.map Cgn.toK = M.map (·.2) ∧ ∀ d ∈ es, d ∈ ds := by
      intro M
      induction M with
      | nil => exact fun _ => ⟨[], .nil, rfl, fun d hd => by cases hd⟩
      | cons p M ih =>
        intro z
        obtain ⟨es, q1, q2, q3⟩ := ih fun y hy => z y (List.mem_cons_of_mem _ hy)
        obtain ⟨d, m, t, u⟩ := back p (z p List.mem_cons_self)
        exact ⟨d :: es, .cons u q1, by rw [List.map_cons, List.map_cons, t, q2], fun y hy => by
          rcases List.mem_cons.mp hy with e | hy
          · rw [e]
            exact m
          · exact q3 y hy⟩
    obtain ⟨es, p1, p2, p3⟩ := pick L sub
    have hnd2 : es.Nodup := by
      rw [← p2] at hnd
      exact List.Pairwise.of_map Cgn.toK (fun _ _ hne e => hne (congrArg Cgn.toK e)) hnd
    refine PyProof.Rows.args_nil (fin h' tk _ es V p1 hnd2 (fun d => ⟨p3 d, fun hd => ?_⟩) hkp)
    have m1 : Cgn.toK d ∈ ks.map (·.2) := by
      rw [e2]
      exact List.mem_map.mpr ⟨d, hd, rfl⟩
    obtain ⟨p, hp, ep⟩ := List.mem_map.mp m1
    have m2 := all p hp
    rw [ep, ← p2] at m2
    obtain ⟨d', hd', ed⟩ := List.mem_map.mp m2
    rw [← Cgn.toK_inj d' d (hn d' (p3 d' hd')) (hn d hd) ed]
    exact hd'
end
end Cgo
/-! CgU: dicts whose keys are nested tuples of numbers, tracked. -/
namespace Cgu
open PySem PySem.Spec PyProof.Rows L2

abbrev Ent := NestedKey × Addr × V
abbrev EntV := NestedKey × Addr × Value
abbrev RelE : Ent → EntV → Prop := fun x y => x.1 = y.1 ∧ x.2.1 = y.2.1 ∧ RelV x.2.2 y.2.2
/-- the dict's own object -/
def DicRaw (w : World) (h : Heap) (a : Addr) (ys : List EntV) : Prop :=
  ∃ o es ep, h.get? a = some o ∧ o.ExactDict ∧ o.data = .dict es ep ∧ es.toList = ys.map (fun y => ⟨y.1.hash w, .ref y.2.1, y.2.2⟩) ∧ (ys.map (·.1)).Nodup
def DicT (w : World) (a : Addr) (xs : List Ent) : HO := .ext fun h => xs.length ≤ sizeLine ∧ (a == sysModules) = false ∧ ∃ ys, Paired RelE xs ys ∧ DicRaw w h a ys
/-- at b stands the key d -/
structure KeyT (K : PySem.W.Frag) (H : Hp) (b : Addr) (d : PyData) : Prop where
  dp : Dp K H (.ref b) d
  nm : Cgn.numD d = true
  le : d.depth ≤ 8
def KeysT (K : PySem.W.Frag) (H : Hp) (xs : List Ent) : Prop := ∀ x ∈ xs, ∃ d, KeyT K H x.2.1 d ∧ x.1 = Cgn.toK d
def findT (xs : List Ent) (k : NestedKey) : Option V := (xs.find? fun x => decide (x.1 = k)).map (·.2.2)
def setT (k : NestedKey) (v : V) (x : Ent) : Ent := if x.1 = k then (x.1, x.2.1, v) else x
def putT (xs : List Ent) (k : NestedKey) (b : Addr) (v : V) : List Ent := if (findT xs k).isSome = true then xs.map (setT k v) else xs ++ [(k, b, v)]
def dropT (xs : List Ent) (k : NestedKey) : List Ent := xs.filter fun x => decide (x.1 ≠ k)

theorem rel_find {xs : List Ent} {ys : List EntV} (r : Paired RelE xs ys) (k : NestedKey) : RelO (findT xs k) ((atKey ys k).map (·.2)) := by
  induction r with
  | nil => exact True.intro
  | @cons p q ps qs h t ih =>
    obtain ⟨h1, _, h2⟩ := h
    by_cases e : p.1 = k
    · have e1 : findT (p :: ps) k = some p.2.2 := by simp [findT, List.find?_cons, e]
      have e2 : atKey (q :: qs) k = some q.2 := by simp [atKey, List.find?_cons, h1 ▸ e]
      rw [e1, e2]
      exact h2
    · have e' : ¬ q.1 = k := fun z => e (h1.trans z)
      have e1 : findT (p :: ps) k = findT ps k := by simp [findT, List.find?_cons, e]
      have e2 : atKey (q :: qs) k = atKey qs k := by simp [atKey, List.find?_cons, e']
      rw [e1, e2]
      exact ih
theorem rel_put {xs : List Ent} {ys : List EntV} (r : Paired RelE xs ys) (k : NestedKey) (b : Addr) {v : V} {u : Value} (rv : RelV v u) : Paired RelE (putT xs k b v) (storedH ys k b u) := by
  have e : (findT xs k).isSome = (atKey ys k).isSome := by
    rw [(rel_find r k).isSome_eq, Option.isSome_map]
  unfold putT storedH
  rw [e]
  by_cases q : (atKey ys k).isSome = true
  · rw [if_pos q, if_pos q]
    clear e q
    induction r with
    | nil => exact .nil
    | @cons p q ps qs h t ih =>
      rw [List.map_cons, List.map_cons]
      refine .cons ?_ ih
      obtain ⟨h1, h2, h3⟩ := h
      unfold setT putAt
      by_cases e : p.1 = k
      · rw [if_pos e, if_pos (h1 ▸ e)]
        exact ⟨h1, h2, rv⟩
      · rw [if_neg e, if_neg (fun z => e (h1.trans z))]
        exact ⟨h1, h2, h3⟩
  · rw [if_neg q, if_neg q]
    exact Paired.snoc r ⟨rfl, rfl, rv⟩
theorem rel_drop {xs : List Ent} {ys : List EntV} (r : Paired RelE xs ys) (k : NestedKey) : Paired RelE (dropT xs k) (withoutH ys k) := by
  unfold dropT withoutH
  induction r with
  | nil => exact .nil
  | @cons p q ps qs h t ih =>
    rw [List.filter_cons, List.filter_cons]
    by_cases e : p.1 = k
    · rw [if_neg (by simp [e]), if_neg (by simp [h.1 ▸ e])]
      exact ih
    · have e' : ¬ q.1 = k := fun z => e (h.1.trans z)
      rw [if_pos (by simp [e]), if_pos (by simp [e'])]
      exact .cons h ih
theorem putT_len (xs : List Ent) (k : NestedKey) (b : Addr) (v : V) : (putT xs k b v).length ≤ xs.length + 1 := by
  unfold putT
  split
  · rw [List.length_map]
    omega
  · rw [List.length_append, List.length_cons, List.length_nil]
    omega
theorem dropT_len (xs : List Ent) (k : NestedKey) : (dropT xs k).length ≤ xs.length := List.length_filter_le _ _

section
variable {X : Cx} {pins : List (Addr × Obj)} {σ : L2.St} {H : Hp} {s : Shared} {a b : Addr} {xs : List Ent} {d : PyData}
abbrev NK (X : Cx) : HeapKind X.prog X.w NestedKey := nestedKind X.prog X.w
theorem keyT_at (I : Inv X pins σ H s) (k : KeyT X.K H b d) : (NK X).is s.heap (Cgn.toK d) b := by
  obtain ⟨as, r⟩ := Dp.reads I d _ _ k.dp rfl
  exact ⟨Cgn.nested_of d _ as k.nm r, by rw [Cgn.toK_depth d k.nm]; exact k.le⟩
theorem dicT_at (I : Inv X pins σ H s) (e : Rd H a (DicT X.w a xs)) (hk : KeysT X.K H xs) : xs.length ≤ sizeLine ∧ (a == sysModules) = false ∧ ∃ ys, Paired RelE xs ys ∧ s.heap.DictOfH (NK X) a ys := by
  have q : ObjOk X.prog X.w H s.heap a (DicT X.w a xs) := e.ok I.hok
  obtain ⟨⟨z, hs, ys, r, o, es, ep, h1, h2, h3, h4, h5⟩, _⟩ := q
  refine ⟨z, hs, ys, r, o, es, ep, h1, h2, h3, h4, fun y hy => ?_, h5⟩
  have key : ∀ {xs : List Ent} {ys : List EntV}, Paired RelE xs ys → KeysT X.K H xs → ∀ y ∈ ys, (NK X).is s.heap y.1 y.2.1 := by
    intro xs ys r
    induction r with
    | nil => exact fun _ y hy => nomatch hy
    | @cons p q ps qs h t ih =>
      intro hk y hy
      rcases List.mem_cons.mp hy with e | hy
      · subst e
        obtain ⟨d, kd, ek⟩ := hk p List.mem_cons_self
        rw [← h.1, ek, ← h.2.1]
        exact keyT_at I kd
      · exact ih (fun x hx => hk x (List.mem_cons_of_mem _ hx)) y hy
  exact key r hk y hy
theorem raw_of {P : Program} {w : World} {h : Heap} {ys : List EntV} (x : h.DictOfH (nestedKind P w) a ys) : DicRaw w h a ys := by
  obtain ⟨o, es, ep, h1, h2, h3, h4, _, h5⟩ := x
  exact ⟨o, es, ep, h1, h2, h3, h4, h5⟩
theorem dicT_ok {P : Program} {w : World} {H : Hp} {h : Heap} {xs : List Ent} {ys : List EntV} (z : xs.length ≤ sizeLine) (hs : (a == sysModules) = false) (r : Paired RelE xs ys) (x : DicRaw w h a ys) : ObjOk P w H h a (DicT w a xs) := by
  obtain ⟨o, es, ep, h1, q⟩ := id x
  refine ⟨⟨z, hs, ys, r, x⟩, ⟨o, h1⟩, fun g1 g2 p k => ?_⟩
  obtain ⟨z', hs', ys', r', o', es', ep', h1', q'⟩ := p
  exact ⟨z', hs', ys', r', o', es', ep', k _ h1', q'⟩
theorem dicT_write (I : Inv X pins σ H s) {h' : Heap} {t' : Nat} {ob : HO} (mu : Mut (H a)) (hs : Heap.SameBut a s.heap h') (he : ∃ q, h'.get? a = some q) (new : ObjOk X.prog X.w (upd H a ob) h' a ob) : Inv X pins σ (upd H a ob) { s with heap := h', toks := t' } :=
  I.write (x := a) (e := a) mu (.inl rfl) (fun c q hb z => (hs.2 c hb).trans z) he new
/-- no entries: a dict of either sort -/
theorem none_at (I : Inv X pins σ H s) (e : Rd H a (.dK [])) : (a == sysModules) = false ∧ s.heap.DictOfH (NK X) a [] := by
  obtain ⟨z, hd, vs, rel, o, es, ep, h1, h2, h3, h4, h5, h6⟩ := dk_rd I.hok e
  cases rel
  have e0 : es.toList = [] := by
    cases q : es.toList with
    | nil => rfl
    | cons x r =>
      rw [q] at h5
      cases h5
  exact ⟨hd, o, es, ep, h1, h2, h3, by rw [e0]; rfl, (fun y hy => by cases hy), List.nodup_nil⟩

/-- what the dict at a has for the key y -/
def DRead (K : PySem.W.Frag) (w : World) (H : Hp) (a : Addr) (y : V) (r : Option V) : Prop :=
  DGet H a y r ∨ (∃ xs b d, Rd H a (DicT w a xs) ∧ KeysT K H xs ∧ y = .ref b ∧ KeyT K H b d ∧ r = findT xs (Cgn.toK d)) ∨ (∃ b d, Rd H a (.dK []) ∧ y = .ref b ∧ KeyT K H b d ∧ r = none)
/-- the heap behind a[y] = v -/
def DWrite (K : PySem.W.Frag) (w : World) (H : Hp) (a : Addr) (y v : V) (H' : Hp) : Prop :=
  DPut H a y v H' ∨ (∃ xs b d, H a = some (DicT w a xs) ∧ KeysT K H xs ∧ y = .ref b ∧ KeyT K H b d ∧ xs.length < sizeLine ∧ H' = upd H a (DicT w a (putT xs (Cgn.toK d) b v))) ∨
  ∃ b d, H a = some (.dK []) ∧ y = .ref b ∧ KeyT K H b d ∧ H' = upd H a (DicT w a [(Cgn.toK d, b, v)])
/-- the heap behind del a[y] -/
def DDel (K : PySem.W.Frag) (w : World) (H : Hp) (a : Addr) (y : V) (H' : Hp) : Prop :=
  (∃ kvs k, H a = some (.dK kvs) ∧ y = kV k ∧ (valV kvs k).isSome = true ∧ H' = upd H a (.dK (dropK kvs k))) ∨
  ∃ xs b d, H a = some (DicT w a xs) ∧ KeysT K H xs ∧ y = .ref b ∧ KeyT K H b d ∧ (findT xs (Cgn.toK d)).isSome = true ∧ H' = upd H a (DicT w a (dropT xs (Cgn.toK d)))
/-- a dict of either sort -/
def IsDic (K : PySem.W.Frag) (w : World) (H : Hp) (a : Addr) : Prop := IsD H a ∨ ∃ xs, Rd H a (DicT w a xs)
theorem isDic_at (I : Inv X pins σ H s) (g : IsDic X.K X.w H a) : s.TypeIs (.ref a) "dict" ∧ (∀ b, Value.ref a = .ref b → ∃ ob, s.heap.get? b = some ob ∧ ob.dict = none) ∧ (a == sysModules) = false := by
  rcases g with g | ⟨xs, e⟩
  · exact isD_at I g
  · have q : ObjOk X.prog X.w H s.heap a (DicT X.w a xs) := e.ok I.hok
    obtain ⟨⟨z, hs, ys, r, o, es, ep, h1, h2, _⟩, _⟩ := q
    refine ⟨⟨o, h1, h2.1⟩, fun b e => ?_, hs⟩
    cases e
    exact ⟨o, h1, h2.2.1⟩
theorem DRead.dic {K : PySem.W.Frag} {w : World} {y : V} {r : Option V} (g : DRead K w H a y r) : IsDic K w H a := by
  rcases g with (⟨kvs, k, e, _, _⟩ | ⟨kvs, k, b, e, _⟩) | ⟨xs, b, d, e, _⟩ | ⟨b, d, e, _⟩
  · exact .inl (.inl ⟨_, e⟩)
  · exact .inl (.inr ⟨_, e⟩)
  · exact .inr ⟨_, e⟩
  · exact .inl (.inl ⟨_, e⟩)
variable {y v : V} {u r : Value} {o : Option V} {A : Around} {E : Value → Shared → Prop}
theorem e_getItem {Q : Value → Shared → Prop} (hu : A.units + 16 < cLine) (I : Inv X pins σ H s) (g : DRead X.K X.w H a y (some v)) (ry : RelV y u) (h : ∀ w' s', Inv X pins σ H s' → RelV v w' → Q w' s') :
    wpAny (model X.prog X.w) A (getItem (.ref a) u) Q E s := by
  rcases g with g | ⟨xs, b, d, e, hk, ey, kd, l⟩ | ⟨b, d, e, ey, kd, l⟩
  · exact d_getItem (by omega) I g ry h
  · subst ey
    cases (show u = Value.ref b from ry)
    obtain ⟨z, hd, ys, rel, dd⟩ := dicT_at I e hk
    obtain ⟨w', hw, rw'⟩ := RelO.some_of (v := v) (o := (atKey ys (Cgn.toK d)).map (·.2)) (by rw [l]; exact rel_find rel _)
    obtain ⟨p, hp, hp2⟩ := Option.map_eq_some_iff.mp hw
    refine wpAny_getItem_heap (knd := NK X) (show A.in1.units + 8 < cLine by simp only [Around.in1]; omega) (keyT_at I kd) dd hp ?_
    rw [hp2]
    exact h w' _ (I.tok _) rw'
  · cases l
theorem e_in {Q : Value → Shared → Prop} (hu : A.units + 16 < cLine) (I : Inv X pins σ H s) (g : DRead X.K X.w H a y o) (ry : RelV y u) (h : ∀ s', Inv X pins σ H s' → Q (.bool o.isSome) s') : wpAny (model X.prog X.w) A (compareOp .In u (.ref a)) Q E s := by
  rcases g with g | ⟨xs, b, d, e, hk, ey, kd, l⟩ | ⟨b, d, e, ey, kd, l⟩
  · exact d_in (by omega) I g ry h
  · subst ey
    cases (show u = Value.ref b from ry)
    obtain ⟨z, hd, ys, rel, dd⟩ := dicT_at I e hk
    refine wpAny_in_heap (knd := NK X) (show A.in1.units + 8 < cLine by simp only [Around.in1]; omega) (keyT_at I kd) hd dd ?_
    have q := (rel_find rel (Cgn.toK d)).isSome_eq
    rw [Option.isSome_map] at q
    rw [← q, ← l]
    exact h _ (I.tok _)
  · subst ey
    cases (show u = Value.ref b from ry)
    obtain ⟨hd, dd⟩ := none_at I e
    refine wpAny_in_heap (knd := NK X) (show A.in1.units + 8 < cLine by simp only [Around.in1]; omega) (keyT_at I kd) hd dd ?_
    rw [l] at h
    exact h _ (I.tok _)
theorem e_notIn {Q : Value → Shared → Prop} (hu : A.units + 16 < cLine) (I : Inv X pins σ H s) (g : DRead X.K X.w H a y o) (ry : RelV y u) (h : ∀ s', Inv X pins σ H s' → Q (.bool (!o.isSome)) s') : wpAny (model X.prog X.w) A (compareOp .NotIn u (.ref a)) Q E s := by
  rcases g with g | ⟨xs, b, d, e, hk, ey, kd, l⟩ | ⟨b, d, e, ey, kd, l⟩
  · exact d_notIn (by omega) I g ry h
  · subst ey
    cases (show u = Value.ref b from ry)
    obtain ⟨z, hd, ys, rel, dd⟩ := dicT_at I e hk
    refine wpAny_notIn_heap (knd := NK X) (show A.in1.units + 8 < cLine by simp only [Around.in1]; omega) (keyT_at I kd) hd dd ?_
    have q := (rel_find rel (Cgn.toK d)).isSome_eq
    rw [Option.isSome_map] at q
    rw [← q, ← l]
    exact h _ (I.tok _)
  · subst ey
    cases (show u = Value.ref b from ry)
    obtain ⟨hd, dd⟩ := none_at I e
    refine wpAny_notIn_heap (knd := NK X) (show A.in1.units + 8 < cLine by simp only [Around.in1]; omega) (keyT_at I kd) hd dd ?_
    rw [l] at h
    exact h _ (I.tok _)
theorem e_get2 {d' : V} {Q : Value → Shared → Prop} (hu : A.units + 16 < cLine) (I : Inv X pins σ H s) (g : DRead X.K X.w H a y o) (ry : RelV y u) (rd : RelV d' r) (h : ∀ w' s', Inv X pins σ H s' → RelV (o.getD d') w' → Q w' s') :
    wpAny (model X.prog X.w) A (call (.builtin "dict.get") [.ref a, u, r]) Q E s := by
  rcases g with g | ⟨xs, b, d, e, hk, ey, kd, l⟩ | ⟨b, d, e, ey, kd, l⟩
  · exact d_get2 (by omega) I g ry rd h
  · subst ey
    cases (show u = Value.ref b from ry)
    obtain ⟨z, hd, ys, rel, dd⟩ := dicT_at I e hk
    refine call_meetsIn PySem.F.slot_dict_get dd.typeIs PySem.F.entry_dict_get (PySem.F.args_dict_get_3 _ _ _) (meetsH_dict_get_default (NK X) a b hd r) ⟨show A.in1.units + 8 < cLine by simp only [Around.in1]; omega, Cgn.toK d, ys, keyT_at I kd, dd, h _ _ (I.tok _) ?_⟩
    rw [l]
    exact (rel_find rel _).getD rd
  · subst ey
    cases (show u = Value.ref b from ry)
    obtain ⟨hd, dd⟩ := none_at I e
    refine call_meetsIn PySem.F.slot_dict_get dd.typeIs PySem.F.entry_dict_get (PySem.F.args_dict_get_3 _ _ _) (meetsH_dict_get_default (NK X) a b hd r) ⟨show A.in1.units + 8 < cLine by simp only [Around.in1]; omega, Cgn.toK d, [], keyT_at I kd, dd, h _ _ (I.tok _) ?_⟩
    rw [l]
    exact rd
theorem e_get1 {Q : Value → Shared → Prop} (hu : A.units + 16 < cLine) (I : Inv X pins σ H s) (g : DRead X.K X.w H a y o) (ry : RelV y u) (h : ∀ w' s', Inv X pins σ H s' → RelV (o.getD .non) w' → Q w' s') :
    wpAny (model X.prog X.w) A (call (.builtin "dict.get") [.ref a, u]) Q E s := by
  rcases g with g | ⟨xs, b, d, e, hk, ey, kd, l⟩ | ⟨b, d, e, ey, kd, l⟩
  · exact d_get1 (by omega) I g ry h
  · subst ey
    cases (show u = Value.ref b from ry)
    obtain ⟨z, hd, ys, rel, dd⟩ := dicT_at I e hk
    refine call_meetsIn PySem.F.slot_dict_get dd.typeIs PySem.F.entry_dict_get (PySem.F.args_dict_get_2 _ _) (meetsH_dict_get (NK X) a b hd) ⟨show A.in1.units + 8 < cLine by simp only [Around.in1]; omega, Cgn.toK d, ys, keyT_at I kd, dd, h _ _ (I.tok _) ?_⟩
    rw [l]
    exact (rel_find rel _).getD rfl
  · subst ey
    cases (show u = Value.ref b from ry)
    obtain ⟨hd, dd⟩ := none_at I e
    refine call_meetsIn PySem.F.slot_dict_get dd.typeIs PySem.F.entry_dict_get (PySem.F.args_dict_get_2 _ _) (meetsH_dict_get (NK X) a b hd) ⟨show A.in1.units + 8 < cLine by simp only [Around.in1]; omega, Cgn.toK d, [], keyT_at I kd, dd, h _ _ (I.tok _) ?_⟩
    rw [l]
    exact rfl
theorem e_setItem {H' : Hp} {Q : Unit → Shared → Prop} (hu : A.units + 16 < cLine) (I : Inv X pins σ H s) (g : DWrite X.K X.w H a y v H') (ry : RelV y u) (rv : RelV v r) (h : ∀ s', Inv X pins σ H' s' → Q () s') :
    wpAny (model X.prog X.w) A (setItem (.ref a) u r) Q E s := by
  rcases g with g | ⟨xs, b, d, e, hk, ey, kd, l, eH⟩ | ⟨b, d, e, ey, kd, eH⟩
  · exact d_setItem (by omega) I g ry rv h
  · subst ey eH
    cases (show u = Value.ref b from ry)
    obtain ⟨z, hd, ys, rel, dd⟩ := dicT_at I (.inl e) hk
    have hz : ys.length ≤ sizeLine := by rw [← Paired.length rel]; exact z
    have hl : (putT xs (Cgn.toK d) b v).length ≤ sizeLine := by have := putT_len xs (Cgn.toK d) b v; omega
    refine wpAny_setItem_heap (knd := NK X) (hsz := hz) (show A.in1.units + 8 < cLine by simp only [Around.in1]; omega) (keyT_at I kd) dd fun h' dd' hs => h _ ?_
    have he : ∃ q, h'.get? a = some q := let ⟨q, _, _, hq, _⟩ := dd'; ⟨q, hq⟩
    exact dicT_write I (by rw [e]; exact True.intro) hs he (dicT_ok hl hd (rel_put rel _ b rv) (raw_of dd'))
  · subst ey eH
    cases (show u = Value.ref b from ry)
    obtain ⟨hd, dd⟩ := none_at I (.inl e)
    refine wpAny_setItem_heap (knd := NK X) (hsz := Nat.zero_le _) (show A.in1.units + 8 < cLine by simp only [Around.in1]; omega) (keyT_at I kd) dd fun h' dd' hs => h _ ?_
    have he : ∃ q, h'.get? a = some q := let ⟨q, _, _, hq, _⟩ := dd'; ⟨q, hq⟩
    exact dicT_write I (by rw [e]; exact True.intro) hs he (dicT_ok (by show 1 ≤ sizeLine; rw [sizeLine_eq]; omega) hd (xs := [(Cgn.toK d, b, v)]) (ys := [(Cgn.toK d, b, r)]) (.cons ⟨rfl, rfl, rv⟩ .nil) (raw_of dd'))
theorem e_delItem {H' : Hp} {Q : Unit → Shared → Prop} (hu : A.units + 16 < cLine) (I : Inv X pins σ H s) (g : DDel X.K X.w H a y H') (ry : RelV y u) (h : ∀ s', Inv X pins σ H' s' → Q () s') : wpAny (model X.prog X.w) A (delItem (.ref a) u) Q E s := by
  rcases g with ⟨kvs, k, e, ey, l, eH⟩ | ⟨xs, b, d, e, hk, ey, kd, l, eH⟩
  · subst ey eH
    exact d_delItem I e ry l h
  · subst ey eH
    cases (show u = Value.ref b from ry)
    obtain ⟨z, hd, ys, rel, dd⟩ := dicT_at I (.inl e) hk
    have hz : ys.length ≤ sizeLine := by rw [← Paired.length rel]; exact z
    have q := (rel_find rel (Cgn.toK d)).isSome_eq
    rw [Option.isSome_map, l] at q
    obtain ⟨p, hp⟩ := Option.isSome_iff_exists.mp q.symm
    refine wpAny_delItem_heap (knd := NK X) (hsz := hz) (show A.in1.units + 8 < cLine by simp only [Around.in1]; omega) (keyT_at I kd) hd dd hp fun h' dd' hs => h _ ?_
    have he : ∃ q, h'.get? a = some q := let ⟨q, _, _, hq, _⟩ := dd'; ⟨q, hq⟩
    exact dicT_write I (by rw [e]; exact True.intro) hs he (dicT_ok (Nat.le_trans (dropT_len xs _) z) hd (rel_drop rel _) (raw_of dd'))
end

/-! ### rules -/
def tDRead (K : PySem.W.Frag) (w : World) (td ty : TE) : TE := fun σ H Q => td σ H fun x H1 => ty σ H1 fun y H2 => ∃ a v, x = .ref a ∧ DRead K w H2 a y (some v) ∧ Q v H2
def tDIs (K : PySem.W.Frag) (w : World) (ty td : TE) : TE := fun σ H Q => ty σ H fun y H1 => td σ H1 fun x H2 => ∃ a o, x = .ref a ∧ DRead K w H2 a y o ∧ Q (.bl o.isSome) H2
def tDIsNo (K : PySem.W.Frag) (w : World) (ty td : TE) : TE := fun σ H Q => ty σ H fun y H1 => td σ H1 fun x H2 => ∃ a o, x = .ref a ∧ DRead K w H2 a y o ∧ Q (.bl (!o.isSome)) H2
def tDOr (K : PySem.W.Frag) (w : World) (td ty tx : TE) : TE := fun σ H Q => td σ H fun x H1 => ∃ a, x = .ref a ∧ IsDic K w H1 a ∧ ty σ H1 fun y H2 => tx σ H2 fun z H3 => ∃ o, DRead K w H3 a y o ∧ Q (o.getD z) H3
def tDOr1 (K : PySem.W.Frag) (w : World) (td ty : TE) : TE := fun σ H Q => td σ H fun x H1 => ∃ a, x = .ref a ∧ IsDic K w H1 a ∧ ty σ H1 fun y H2 => ∃ o, DRead K w H2 a y o ∧ Q (o.getD .non) H2
def sDWrite (K : PySem.W.Frag) (w : World) (td ty tv : TE) : TS := fun D σ H => tv σ H fun v H1 => td σ H1 fun x H2 => ty σ H2 fun y H3 => ∃ a H4, x = .ref a ∧ DWrite K w H3 a y v H4 ∧ D.nx σ H4
def sDDelN (K : PySem.W.Frag) (w : World) (td ty : TE) : TS := fun D σ H => td σ H fun x H1 => ty σ H1 fun y H2 => ∃ a H3, x = .ref a ∧ DDel K w H2 a y H3 ∧ D.nx σ H3
section
variable {X : Cx} {o i e f value : Expr} {pos pos' tpos apos cpos : Pos} {td ty tv tx : TE}
theorem pe_dread (hu : X.A.units + 16 < cLine) (ho : PE X o td) (hi : PE X i ty) (hs : NoSl i) : PE X (.Subscript o i pos) (tDRead X.K X.w td ty) := by
  refine ⟨fun pins s σ H Q I h => ?_⟩
  refine subD_of PySem.F.slot_dict_getitem.lookup hs (thn (ho.run pins s σ H _ I h) fun u s1 ⟨x, H1, I1, rx, q1⟩ => thn (hi.run pins s1 σ H1 _ I1 q1) fun iv s2 ⟨y, H2, I2, ry, a, v, ex, g, q2⟩ => ?_)
  subst ex
  obtain rfl : u = Value.ref a := rx
  exact ⟨(isDic_at I2 g.dic).1, e_getItem hu I2 g ry fun w' s3 I3 rw' => ⟨v, H2, I3, rw', q2⟩⟩
theorem pc_dis (hu : X.A.units + 16 < cLine) (hi : PE X i ty) (ho : PE X o td) : PC X .In i o (tDIs X.K X.w ty td) := by
  refine ⟨fun pins s σ H Q I h => ?_⟩
  refine thn (hi.run pins s σ H _ I h) fun iv s1 ⟨y, H1, I1, ry, q1⟩ => thn (ho.run pins s1 σ H1 _ I1 q1) fun u s2 ⟨x, H2, I2, rx, a, ov, ex, g, q2⟩ => ?_
  subst ex
  obtain rfl : u = Value.ref a := rx
  exact e_in hu I2 g ry fun s3 I3 => ⟨.bl ov.isSome, H2, I3, rfl, q2⟩
theorem pc_disno (hu : X.A.units + 16 < cLine) (hi : PE X i ty) (ho : PE X o td) : PC X .NotIn i o (tDIsNo X.K X.w ty td) := by
  refine ⟨fun pins s σ H Q I h => ?_⟩
  refine thn (hi.run pins s σ H _ I h) fun iv s1 ⟨y, H1, I1, ry, q1⟩ => thn (ho.run pins s1 σ H1 _ I1 q1) fun u s2 ⟨x, H2, I2, rx, a, ov, ex, g, q2⟩ => ?_
  subst ex
  obtain rfl : u = Value.ref a := rx
  exact e_notIn hu I2 g ry fun s3 I3 => ⟨.bl (!ov.isSome), H2, I3, rfl, q2⟩
theorem ps_dwrite (hu : X.A.units + 16 < cLine) (ho : PE X o td) (hi : PE X i ty) (hv : PE X value tv) (hs : swapsWith value (some (.Subscript o i pos')) pos.line X.env = pure false) : PS X (.Assign [.Subscript o i pos'] value pos) (sDWrite X.K X.w td ty tv) := by
  refine ⟨fun pins s σ H D I h => ?_⟩
  refine wpAny_Assign_Subscript (thn (hv.run pins s σ H _ I h) fun r s1 ⟨v, H1, I1, rv, q1⟩ => thn (ho.run pins s1 σ H1 _ I1 q1) fun u s2 ⟨x, H2, I2, rx, q2⟩ => thn (hi.run pins s2 σ H2 _ I2 q2) fun iv s3 ⟨y, H3, I3, ry, a, H4, ex, g, q3⟩ => ?_) hs
  subst ex
  obtain rfl : u = Value.ref a := rx
  exact e_setItem hu I3 g ry rv fun s4 I4 => ⟨σ, H4, I4, q3⟩
theorem ps_ddelN (hu : X.A.units + 16 < cLine) (ho : PE X o td) (hi : PE X i ty) : PS X (.Delete [.Subscript o i tpos] pos) (sDDelN X.K X.w td ty) := by
  refine ⟨fun pins s σ H D I h => ?_⟩
  refine wpAny_Delete (wpAny_deleteEach_cons (wpAny_delete_Subscript (thn (ho.run pins s σ H _ I h) fun u s1 ⟨x, H1, I1, rx, q1⟩ => thn (hi.run pins s1 σ H1 _ I1 q1) fun iv s2 ⟨y, H2, I2, ry, a, H3, ex, g, q2⟩ => ?_)))
  subst ex
  obtain rfl : u = Value.ref a := rx
  exact e_delItem hu I2 g ry fun s3 I3 => wpAny_deleteEach_nil ⟨σ, _, I3, q2⟩
theorem pe_dor (hu : X.A.units + 16 < cLine) (ho : PE X o td) (he : PE X e ty) (hf : PE X f tx) (m : M2 X o "get" apos e f cpos) : PE X (.Call (.Attribute o "get" apos) [e, f] [] cpos) (tDOr X.K X.w td ty tx) := by
  refine ⟨fun pins s σ H Q I h => ?_⟩
  refine wpAny_Call_method m.base m.few m.line PySem.F.plainAttrs_dict PySem.F.slot_dict_get PySem.F.type_dict_get (thn (ho.run pins s σ H _ I h) fun u s1 ⟨x, H1, I1, rx, a, ex, d, q1⟩ => ?_)
  subst ex
  obtain rfl : u = Value.ref a := rx
  obtain ⟨t1, t2, _⟩ := isDic_at I1 d
  refine ⟨t1, t2, ?_⟩
  rw [m.trees]
  refine Calls.callWith_builtin rfl (Calls.evalArgs_plain (Calls.spliced_cons (thn (he.run pins s1 σ H1 _ I1 q1) fun iv s2 ⟨y, H2, I2, ry, q2⟩ =>
    Calls.spliced_cons (thn (hf.run pins s2 σ H2 _ I2 q2) fun fv s3 ⟨z, H3, I3, rz, ov, g, q3⟩ => Calls.spliced_nil ?_))))
  exact e_get2 hu I3 g ry rz fun w' s4 I4 rw' => ⟨_, H3, I4, rw', q3⟩
theorem pe_dor1 (hu : X.A.units + 16 < cLine) (ho : PE X o td) (he : PE X e ty) (m : M1 X o "get" apos e cpos) : PE X (.Call (.Attribute o "get" apos) [e] [] cpos) (tDOr1 X.K X.w td ty) := by
  refine ⟨fun pins s σ H Q I h => ?_⟩
  refine wpAny_Call_method m.base m.few m.line PySem.F.plainAttrs_dict PySem.F.slot_dict_get PySem.F.type_dict_get (thn (ho.run pins s σ H _ I h) fun u s1 ⟨x, H1, I1, rx, a, ex, d, q1⟩ => ?_)
  subst ex
  obtain rfl : u = Value.ref a := rx
  obtain ⟨t1, t2, _⟩ := isDic_at I1 d
  refine ⟨t1, t2, ?_⟩
  rw [m.trees]
  refine Calls.callWith_builtin rfl (Calls.evalArgs_plain (Calls.spliced_cons (thn (he.run pins s1 σ H1 _ I1 q1) fun iv s2 ⟨y, H2, I2, ry, ov, g, q2⟩ => Calls.spliced_nil ?_)))
  exact e_get1 hu I2 g ry fun w' s3 I3 rw' => ⟨_, H2, I3, rw', q2⟩
end
end Cgu
/-! CgV: sorted(set(xs)) over trees; a comprehension's list that is the def's own; two neighbours of it exchanged. -/
namespace Cg
open PySem PySem.Spec PyProof.Rows L2
/-- a row of which a set can be made and put in order -/
def okSet (ds : List PyData) : Bool := (ds.all fun d => Cgo.sig d && (Cgn.numD d && decide (d.depth ≤ 8))) && ((ds.all fun d => ds.all fun e => (Cgo.ltD d e).isSome) && decide (ds.length < 64))
def dSortSet : PyData → Tr PyData
  | .list ds => if okSet ds = true then .ret (.list (Cgo.sortD (Cgo.onceD ds))) else .bad
  | _ => .bad
section
variable {K : PySem.W.Frag} {cl : Ek → Addr} {E : L2.St → Option XK} {ρ : List Sl} {σ : L2.St} {G H : Hp}
theorem each_all {G : Hp} : ∀ {vs : List V} {ds : List PyData}, PySem.W.EachIs (fun v d => Rp K G v d) vs ds → RpAll K G vs ds
  | _, _, .nil => .nil
  | _, _, .cons h t => .cons h (each_all t)
theorem all_each {G : Hp} : ∀ {vs : List V} {ds : List PyData}, RpAll K G vs ds → PySem.W.EachIs (fun v d => Rp K G v d) vs ds
  | _, _, .nil => .nil
  | _, _, .cons h t => .cons h (all_each t)
theorem ev_sortSet {te : TE} {f : Tr PyData} (h : Ev K cl E te ρ f) : Ev K cl E (Cgo.tSortSet K te) ρ (f.bind dSortSet) := fun G H σ S Q q => h.seq S q fun a x G1 H1 g1 S1 rx q1 => by
  cases rx with
  | @lst p xs ds hs hz ha =>
    have q2 : ((if okSet ds = true then Tr.ret (PyData.list (Cgo.sortD (Cgo.onceD ds))) else .bad) : Tr PyData).wp (Po K ρ σ (Rp K) G1 H1 Q) (Xo cl (E σ) (Owns ρ σ) H1) := q1
    split at q2
    · rename_i hk
      unfold okSet at hk
      rw [Bool.and_eq_true, Bool.and_eq_true, List.all_eq_true, List.all_eq_true, decide_eq_true_eq] at hk
      obtain ⟨k1, k2, k3⟩ := hk
      have m1 : ∀ d ∈ ds, Cgo.sig d = true ∧ Cgn.numD d = true ∧ d.depth ≤ 8 := fun d hd => by
        have z := k1 d hd
        rw [Bool.and_eq_true, Bool.and_eq_true, decide_eq_true_eq] at z
        exact z
      refine ⟨p, xs, ds, fun v d => Rp K G1 v d, rfl, S1.sub.l hs, all_each ha, fun x d r => (r.mono S1.sub).dp, ⟨fun d hd => (m1 d hd).1, fun d hd e he => List.all_eq_true.mp (k2 d hd) e he⟩, fun d hd => (m1 d hd).2.1, fun d hd => (m1 d hd).2.2, k3, fun ws l hw hl => ?_⟩
      refine Po.lay q2 S1 hl (.lst (SqL.of upd_same) ?_ ((each_all hw).mono (Ex.new (S1.sub.back hl))))
      rw [(Cgo.sortD_perm _).length_eq]
      have := Cgo.once_len ds
      omega
    · exact q2.elim
  | _ => exact q1.elim
theorem lc_turnG (hE : ∀ a b, E a = E b) {G1 H1 : Hp} {g : TG} {tt : TT} {te : TE} {vs : List Nat} {ρx : PyData → List Sl} {ok : PyData → Bool} {c : PyData → Tr Bool} {f : PyData → Tr PyData} (hv : ∀ i ∈ vs, ρ[i]? = some .any) (tg : Tg K g vs ρ ρx ok) (hb : ∀ d, ok d = false → c d = .bad)
    (ht : ∀ d, ok d = true → EvT K cl E tt (ρx d) (c d)) (he : ∀ d, ok d = true → Ev K cl E te (ρx d) (f d)) {P : List PyData → Prop} {Dl : Addr} (S : Sta K G H ρ σ) {acc : List PyData} {n : Nat} (L : Lc K ρ σ G H Dl acc n G1 H1) (hn : n < sizeLine)
    {x : V} {d : PyData} (r : Rp K G1 x d) {ds : List PyData} {N : Hp → Prop} (hN : ∀ acc' G' H', Lc K ρ σ G H Dl acc' (n + 1) G' H' → (lcT c f acc' ds).wp P (Xo cl (E σ) (Owns ρ σ) H) → N H')
    (h : (lcT c f acc (d :: ds)).wp P (Xo cl (E σ) (Owns ρ σ) H)) :
    g x (wipe σ vs) H1 fun σ2 H2 => wipe σ2 vs = wipe σ vs ∧ tt σ2 H2 fun b H3 => if b = true then te σ2 H3 fun y H4 => ∃ acc, H4 Dl = some (.lst acc) ∧ acc.length < sizeLine ∧ N (upd H4 Dl (.lst (acc ++ [y]))) else N H3 := by
  have h0 : ((c d).bind fun b => if b then ((f d).bind fun y => lcT c f (acc ++ [y]) ds) else lcT c f acc ds).wp P (Xo cl (E σ) (Owns ρ σ) H) := h
  have hok : ok d = true := by
    cases q : ok d with
    | true => rfl
    | false =>
      rw [hb d q] at h0
      exact h0.elim
  obtain ⟨S1, k1⟩ := L.st.wiped hv
  refine tg G1 H1 (wipe σ vs) x d _ S1 r hok fun σ2 S2 k2 ew => ⟨ew.trans wipe_wipe, ?_⟩
  have k : Kp ρ σ (ρx d) σ2 := k1.trans k2
  have xo : ∀ {G3 H3 : Hp}, Gr (Owns ρ σ) G H G3 H3 → ∀ e, Xo cl (E σ) (Owns ρ σ) H e → Xo cl (E σ2) (Owns (ρx d) σ2) H3 e := fun g3 e hx => by
    rw [hE σ2 σ]
    cases q : E σ with
    | none => rw [q] at hx; exact hx
    | some E' =>
      rw [q] at hx
      exact fun H' fr => hx H' fun a o hn ha => fr a o (fun z => hn (k.bwd a z)) (g3.fr a o hn ha)
  have lift : ∀ {G2 H2 : Hp}, Gr (Owns (ρx d) σ2) G1 H1 G2 H2 → Sta K G2 H2 (ρx d) σ2 → Lc K ρ σ G H Dl acc n G2 H2 := fun g2 S3 => by
    have g2' : Gr (Owns ρ σ) G1 H1 _ _ := g2.less k.bwd
    have no := L.own S
    have noD : ¬ Owns (ρx d) σ2 Dl := fun z => no (k.bwd Dl z)
    obtain ⟨xs, hx, ha⟩ := L.at'
    exact ⟨L.gr.trans' g2', L.st.back k g2.ex S3, L.old, g2.new Dl noD (by rw [hx]; exact fun z => nomatch z) L.out, ⟨xs, g2.fr Dl _ noD hx, ha.mono g2.ex⟩, L.len⟩
  refine ht d hok G1 H1 σ2 S2 _ (Tr.wp_mono (fun b hb v G2 H2 g2 S3 ev => ?_) (fun e hx => xo L.gr e hx) (Tr.wp_bind.mp h0))
  cases ev
  have L2 := lift g2 S3
  cases b with
  | true =>
    refine he d hok G2 H2 σ2 S3 _ (Tr.wp_mono (fun y hy w G3 H3 g3 S4 ry => ?_) (fun e hx => xo L2.gr e hx) (Tr.wp_bind.mp hb))
    have L3 := lift (g2.trans' g3) S4
    obtain ⟨xs, hx, ha⟩ := L3.at'
    exact ⟨xs, hx, by rw [ha.len]; exact Nat.lt_of_le_of_lt L3.len hn, hN _ _ _ (L3.add S ry hx ha) hy⟩
  | false => exact hN _ _ _ ⟨L2.gr, L2.st, L2.old, L2.out, L2.at', Nat.le_succ_of_le L2.len⟩ hb
/-- the new list becomes ours -/
theorem Lc.toAcc {G' H' : Hp} {Dl : Addr} {acc : List PyData} {m i : Nat} (L : Lc K ρ σ G H Dl acc m G' H') (S : Sta K G H ρ σ) (n : nown ρ i = true) (hm : m ≤ sizeLine) : Af K ρ σ G H (ρ.set i (.acc acc)) (σ.set i (some (.ref Dl))) G' H' := by
  have no := L.own S
  obtain ⟨xs, hx, ha⟩ := L.at'
  have old : ∀ (j : Nat) (s : Sl) (b : Addr), ρ[j]? = some s → owning s = true → σ[j]? = some (some (.ref b)) → b ≠ Dl := fun j s b h1 h2 h3 z => no ⟨j, s, h1, h2, by rw [h3, z]⟩
  refine ⟨L.gr, ⟨by rw [List.length_set, List.length_set]; exact S.len, L.st.sub, fun j s o h1 h2 => ?_, fun j l sj sl b h1 h2 h3 h4 h5 h6 => ?_⟩, fun b h => ?_, fun b h => ?_⟩
  · by_cases z : i = j
    · subst z
      have l1 : i < ρ.length := by
        have := get_lt h1
        rwa [List.length_set] at this
      have l2 : i < σ.length := by
        rw [← S.len]
        exact l1
      rw [List.getElem?_set_self l1] at h1
      rw [List.getElem?_set_self l2] at h2
      cases h1
      cases h2
      exact ⟨Dl, xs, rfl, hx, Nat.le_trans L.len hm, ha, L.out⟩
    · rw [List.getElem?_set_ne z] at h1 h2
      exact L.st.ok j s o h1 h2
  · by_cases z1 : i = j
    · by_cases z2 : i = l
      · exact z1.symm.trans z2
      · exfalso
        subst z1
        have l2 : i < σ.length := by
          have := get_lt h5
          rwa [List.length_set] at this
        rw [List.getElem?_set_self l2] at h5
        rw [List.getElem?_set_ne z2] at h2 h6
        exact old l sl b h2 h4 h6 (by cases h5; rfl)
    · by_cases z2 : i = l
      · exfalso
        subst z2
        have l2 : i < σ.length := by
          have := get_lt h6
          rwa [List.length_set] at this
        rw [List.getElem?_set_self l2] at h6
        rw [List.getElem?_set_ne z1] at h1 h5
        exact old j sj b h1 h3 h5 (by cases h6; rfl)
      · rw [List.getElem?_set_ne z1] at h1 h5
        rw [List.getElem?_set_ne z2] at h2 h6
        exact S.dis j l sj sl b h1 h2 h3 h4 h5 h6
  · obtain ⟨j, s, h1, h2, h3⟩ := h
    by_cases z : i = j
    · subst z
      have l2 : i < σ.length := by
        have := get_lt h3
        rwa [List.length_set] at this
      rw [List.getElem?_set_self l2] at h3
      cases h3
      exact .inr L.old
    · rw [List.getElem?_set_ne z] at h1 h3
      exact .inl ⟨j, s, h1, h2, h3⟩
  · have z : i ≠ 0 := fun z => by
      subst z
      have := nown_of n _ h.1
      cases this
    exact ⟨by rw [List.getElem?_set_ne z]; exact h.1, by rw [List.getElem?_set_ne z]; exact h.2⟩
/-- what is ours is written -/
theorem Sta.write (S : Sta K G H ρ σ) {i : Nat} {ds es : List PyData} {a : Addr} {xs ys : List V} (hi : ρ[i]? = some (.acc ds)) (ho : σ[i]? = some (some (.ref a))) (ha : H a = some (.lst xs)) (r : RpAll K G ys es) (hl : es.length ≤ sizeLine) (hg : G a = none) :
    Af K ρ σ G H (ρ.set i (.acc es)) σ G (upd H a (.lst ys)) := by
  have ow : Owns ρ σ a := ⟨i, _, hi, rfl, ho⟩
  have oth : ∀ (j : Nat) (s : Sl) (b : Addr), i ≠ j → ρ[j]? = some s → owning s = true → σ[j]? = some (some (.ref b)) → b ≠ a := fun j s b z h1 h2 h3 y => z (S.dis i j _ s a hi h1 rfl h2 ho (by rw [h3, y]))
  have sl : ∀ (j : Nat) (s : Sl), (ρ.set i (.acc es))[j]? = some s → owning s = true → ∃ s', ρ[j]? = some s' ∧ owning s' = true := fun j s h1 h2 => by
    by_cases z : i = j
    · subst z
      exact ⟨_, hi, rfl⟩
    · rw [List.getElem?_set_ne z] at h1
      exact ⟨s, h1, h2⟩
  refine ⟨⟨Ex.refl G, fun _ _ _ h => h, fun b u hb h => ?_, fun b h => ?_⟩, ⟨by rw [List.length_set]; exact S.len, fun b u q => ?_, fun j s o h1 h2 => ?_, fun j l sj sl' b h1 h2 h3 h4 h5 h6 => ?_⟩, fun b h => .inl ?_, fun b h => ⟨?_, h.2⟩⟩
  · rw [upd_ne (fun z => hb (by rw [z]; exact ow))]
    exact h
  · by_cases z : b = a
    · rw [z, upd_same]
      exact fun y => nomatch y
    · rw [upd_ne z]
      exact h
  · rw [upd_ne (fun z => by
      rw [z, hg] at q
      cases q)]
    exact S.sub b u q
  · by_cases z : i = j
    · subst z
      cases set_self hi h1
      rw [ho] at h2
      cases h2
      exact ⟨a, ys, rfl, upd_same, hl, r, hg⟩
    · rw [List.getElem?_set_ne z] at h1
      refine (S.ok j s o h1 h2).grow (Ex.refl G) (fun _ _ _ h _ => h) fun b u q1 q2 h => ?_
      subst q2
      rw [upd_ne (oth j s b z h1 q1 h2)]
      exact h
  · obtain ⟨s1, g1, g2⟩ := sl j sj h1 h3
    obtain ⟨s2, g3, g4⟩ := sl l sl' h2 h4
    exact S.dis j l s1 s2 b g1 g3 g2 g4 h5 h6
  · obtain ⟨j, s, h1, h2, h3⟩ := h
    obtain ⟨s1, g1, g2⟩ := sl j s h1 h2
    exact ⟨j, s1, g1, g2, h3⟩
  · rw [List.getElem?_set_ne (fun z => by
      subst z
      rw [h.1] at hi
      cases hi)]
    exact h.1
end
section
variable {K : PySem.W.Frag} {cl : Ek → Addr} {E : L2.St → Option XK} {ρ : List Sl} {S β : Type} {oc : β → Ct S} {ρ' : S → List Sl} {u : TS}
/-- name = [e for x in range(a)], the list our own -/
theorem st_lcOwn (hE : ∀ a b, E a = E b) {i j : Nat} {ta te : TE} {fa : Tr PyData} {f : PyData → Tr PyData} {g : PyData → Tr β} (ha : Ev K cl E ta ρ fa) (hv : ρ[j]? = some .any) (he : ∀ d, Ev K cl E te (ρ.set j (.dat d)) (f d)) (k : ∀ v, StG K cl E oc ρ' u (ρ.set i (.acc (unL v))) (g v)) (n : nown ρ i = true := by rfl) :
    StG K cl E oc ρ' (tSeq (tAsg (tLc (iRng1 (tCons ta tNil)) (gName j) tYes te [j]) (gName i)) u) ρ (fa.bind fun a => (rangeT (.int 0) a).bind fun xs => (mapT f xs).bind fun ys => g (.list ys)) := fun G H σ hS D q =>
  ha.then (g := fun a => (rangeT (.int 0) a).bind fun xs => (mapT f xs).bind fun ys => g (.list ys)) hS q fun a x G1 H1 af rx w => by
    cases rx with
    | int b =>
      have h2 : ((if -(2 ^ 61) ≤ (0 : Int) ∧ (0 : Int) ≤ 2 ^ 61 ∧ -(2 ^ 61) ≤ b ∧ b ≤ 2 ^ 61 ∧ b - 0 ≤ 1000000 then Tr.ret (rng 0 (b - 0).toNat) else .bad).bind fun xs => (mapT f xs).bind fun ys => g (.list ys)).wp (fun b => OutP K ρ σ G1 H1 ρ' D (oc b)) (Xo cl (E σ) (Owns ρ σ) H1) := w
      split at h2
      · rename_i hz
        refine ⟨b, rfl, by omega, by omega, fun Dl hD => ?_⟩
        have e : (b - 0).toNat = b.toNat := by omega
        rw [e] at h2
        have hs : b.toNat ≤ sizeLine := by rw [sizeLine_eq]; omega
        have h3 : (mapT f (rng 0 b.toNat)).wp (fun ys => (g (.list ys)).wp (fun b => OutP K ρ σ G1 H1 ρ' D (oc b)) (Xo cl (E σ) (Owns ρ σ) H1)) (Xo cl (E σ) (Owns ρ σ) H1) := Tr.wp_bind.mp h2
        have e2 : lcT (fun _ => Tr.ret true) f [] (rng 0 b.toNat) = mapT f (rng 0 b.toNat) := by
          rw [lcT_if, mapIf_true]
          exact Tr.bind_ret _
        rw [← e2] at h3
        refine lc_range (lo := 0) (n := b.toNat) (Qd := fun H' => u D (σ.set i (some (.ref Dl))) H') (fun i' H' => ∃ G' acc, Lc K ρ σ G1 H1 Dl acc i' G' H' ∧ (lcT (fun _ => Tr.ret true) f acc ((rng 0 b.toNat).drop i')).wp _ _)
          ⟨G1, [], lc_start af.st hD, h3⟩ (fun i' H' hi ⟨G', acc, L, q⟩ => ?_) fun H' ⟨G', acc, L, q⟩ => ?_
        · rw [drop_cons (rng_get hi)] at q
          exact lc_turnG hE (fun l hl => by cases List.mem_singleton.mp hl; exact hv) (tg_name (by unfold nown; rw [hv]; rfl)) (fun _ q => nomatch q) (fun d _ => et_yes) (fun d _ => he d) af.st L (Nat.lt_of_lt_of_le hi hs) (.int _) (fun acc' G'' H'' L' q' => ⟨G'', acc', L', q'⟩) q
        · have e3 : (rng 0 b.toNat).drop b.toNat = [] := List.drop_eq_nil_of_le (by rw [rng_len]; exact Nat.le_refl _)
          rw [e3] at q
          have a2 := L.toAcc (i := i) af.st n hs
          exact k (.list acc) G' H' _ a2.st D (upS hE a2 q)
      · exact h2.elim
    | _ => exact w.elim
/-- two neighbours exchanged -/
def dSwap (a b : PyData) : Tr PyData := match b with
  | .int n => match (unL a)[n.toNat]?, (unL a)[n.toNat + 1]? with
    | some x, some y => if 0 ≤ n then .ret (.list (((unL a).set n.toNat y).set (n.toNat + 1) x)) else .bad
    | _, _ => .bad
  | _ => .bad
theorem RpAll.set {G : Hp} {v : V} {d : PyData} (h : Rp K G v d) : ∀ {vs : List V} {ds : List PyData} (n : Nat), RpAll K G vs ds → RpAll K G (vs.set n v) (ds.set n d)
  | _, _, _, .nil => .nil
  | _, _, 0, .cons _ t => .cons h t
  | _, _, n + 1, .cons p t => .cons p (RpAll.set h n t)
theorem ixN_nat {n k : Nat} (h : k < n) : ixN n (k : Int) = some k := by
  unfold ixN
  rw [if_pos (by omega), if_pos (by omega)]
  simp
theorem st_swap (hE : ∀ a b, E a = E b) {i j : Nat} {a b : PyData} {g : PyData → Tr β} (hi : ρ[i]? = some (.acc (unL a))) (hj : ρ[j]? = some (.dat b)) (k : ∀ v, StG K cl E oc ρ' u (ρ.set i (.acc (unL v))) (g v)) :
    StG K cl E oc ρ' (tSeq (tAsg (tTup (tCons (tOp (rIxL K) (tVar i) (tOp (rI0 fun i j => .int (i + j)) (tVar j) (tC (.int 1)))) (tCons (tOp (rIxL K) (tVar i) (tVar j)) tNil))) (gTup K 2 (gCons (gSub (tVar i) (tVar j) rSetL) (gCons (gSub (tVar i) (tOp (rI0 fun i j => .int (i + j)) (tVar j) (tC (.int 1))) rSetL) gNil)))) u) ρ
      ((dSwap a b).bind g) := fun G H σ hS D q => by
  have hs : i < σ.length := by
    rw [← hS.len]
    exact get_lt hi
  have ho : σ[i]? = some σ[i] := List.getElem?_eq_getElem hs
  generalize σ[i] = o at ho
  obtain ⟨p, xs, eo, hp, hl, r, hg⟩ := hS.ok i _ o hi ho
  subst eo
  have hs2 : j < σ.length := by
    rw [← hS.len]
    exact get_lt hj
  have ho2 : σ[j]? = some σ[j] := List.getElem?_eq_getElem hs2
  generalize σ[j] = o2 at ho2
  obtain ⟨v, eo2, rv⟩ := hS.ok j _ o2 hj ho2
  subst eo2
  cases rv with
  | int n =>
    have w : ((match (unL a)[n.toNat]?, (unL a)[n.toNat + 1]? with
      | some x, some y => if 0 ≤ n then Tr.ret (PyData.list (((unL a).set n.toNat y).set (n.toNat + 1) x)) else .bad
      | _, _ => .bad).bind g).wp (fun b => OutP K ρ σ G H ρ' D (oc b)) (Xo cl (E σ) (Owns ρ σ) H) := q
    cases e1 : (unL a)[n.toNat]? with
    | none =>
      rw [e1] at w
      exact w.elim
    | some x =>
      cases e2 : (unL a)[n.toNat + 1]? with
      | none =>
        rw [e1, e2] at w
        exact w.elim
      | some y =>
        rw [e1, e2] at w
        have w2 : ((if 0 ≤ n then Tr.ret (PyData.list (((unL a).set n.toNat y).set (n.toNat + 1) x)) else .bad).bind g).wp (fun b => OutP K ρ σ G H ρ' D (oc b)) (Xo cl (E σ) (Owns ρ σ) H) := w
        split at w2
        · rename_i h0
          obtain ⟨m, rfl⟩ : ∃ m : Nat, n = (m : Int) := ⟨n.toNat, by omega⟩
          rw [Int.toNat_natCast] at e1 e2 w2
          obtain ⟨vx, gx, rx⟩ := r.get e1
          obtain ⟨vy, gy, ry⟩ := r.get e2
          have hlt : m + 1 < xs.length := get_lt gy
          have hcast : (m : Int) + 1 = ((m + 1 : Nat) : Int) := by omega
          refine ⟨.ref p, ho, .int m, ho2, m, 1, rfl, rfl, p, xs, _, vy, rfl, rfl, SqL.of hp, ?_, .ref p, ho, .int m, ho2, p, xs, _, vx, rfl, rfl, SqL.of hp, atI_nat gx, by show 2 ≤ sizeLine; decide, fun t ht => ?_⟩
          · rw [hcast]
            exact atI_nat gy
          · have hp2 : (upd H t (.tup [vy, vx])) p = some (.lst xs) := by
              rw [upd_ne (ne_of_none hp ht)]
              exact hp
            refine ⟨t, [vy, vx], rfl, SqT.of upd_same, rfl, vy, [vx], rfl, .ref p, ho, .int m, ho2, p, xs, m, m, rfl, rfl, hp2, ixN_nat (by omega), vx, [], rfl, .ref p, ho, .int m, ho2, m, 1, rfl, rfl, p, _, _, m + 1, rfl, rfl, upd_same, ?_, rfl, ?_⟩
            · rw [hcast]
              exact ixN_nat (by rw [List.length_set]; exact hlt)
            · rw [upd_upd]
              have a1 : Af K ρ σ G H ρ σ (upd G t (.tup [vy, vx])) (upd H t (.tup [vy, vx])) := .ev (Gr.lay ht hS.sub) (hS.lay ht)
              have exG : Ex G (upd G t (.tup [vy, vx])) := Ex.new (hS.sub.back ht)
              have r2 := RpAll.set (ry.mono exG) m (r.mono exG)
              have r3 := RpAll.set (rx.mono exG) (m + 1) r2
              have a2 := a1.st.write hi ho hp2 r3 (by rw [List.length_set, List.length_set]; exact hl) (by
                rw [upd_ne (fun z => by
                  rw [z, ht] at hp
                  cases hp)]
                exact hg)
              have a3 := a1.trans a2
              exact k (.list (((unL a).set m y).set (m + 1) x)) _ _ σ a3.st D (upS hE a3 w2)
        · exact w2.elim
  | _ => exact q.elim
/-- the def that is read, with the names told apart from the table -/
theorem st_asgF2 (hE : ∀ a b, E a = E b) {w : World} {i : Nat} {p : Addr} {tab : List (Str × Addr)} {names : List Str} {tb : TE} {fb : Tr PyData} {g : Str → Tr β} (D : FdAt w K p tab) (hn : tab.map Prod.fst = names) (hb : Ev K cl E tb ρ fb) (k : ∀ q ∈ tab, StG K cl E oc ρ' u (ρ.set i (.val (.ref q.2))) (g q.1)) (n : nown ρ i = true := by rfl) :
    StG K cl E oc ρ' (tSeq (tAsg (tOp (rIxD K w) (tC (.ref p)) tb) (gName i)) u) ρ (fb.bind fun y => (fdT names y).bind g) := by
  subst hn
  exact st_asgF hE D hb k n
/-- a, b = e -/
theorem st_unp2 (hE : ∀ a b, E a = E b) {i j : Nat} {te : TE} {f : Tr PyData} {g : PyData → PyData → Tr β} (h : Ev K cl E te ρ f) (k : ∀ a b, StG K cl E oc ρ' u ((ρ.set i (.dat a)).set j (.dat b)) (g a b))
    (hi : nown ρ i = true := by rfl) (hj : ∀ a, nown (ρ.set i (.dat a)) j = true := by intro; rfl) : StG K cl E oc ρ' (tSeq (tAsg te (gTup K 2 (gCons (gName i) (gCons (gName j) gNil)))) u) ρ (f.bind (un2 g)) := fun G H σ hS D q =>
  h.then (g := un2 g) hS q fun d v G1 H1 a rv w => by
    cases rv with
    | @tup p xs ds hs hl ra =>
      cases ra with
      | nil => exact w.elim
      | @cons v0 _ d0 _ r1 t =>
        cases t with
        | nil => exact w.elim
        | @cons v1 _ d1 _ r2 t =>
          cases t with
          | cons _ _ => exact w.elim
          | nil =>
            refine ⟨p, [v0, v1], rfl, a.st.sub.t hs, rfl, v0, [v1], rfl, v1, [], rfl, rfl, ?_⟩
            have kp := kp_put (σ := σ) (v := v0) (d := d0) hi
            have S1 := a.st.put (i := i) r1
            have kp2 := kp_put (σ := σ.set i (some v0)) (v := v1) (d := d1) (hj d0)
            have a2 : Af K ρ σ G1 H1 ((ρ.set i (.dat d0)).set j (.dat d1)) ((σ.set i (some v0)).set j (some v1)) G1 H1 := ⟨Gr.refl, S1.put r2, fun x z => .inl (kp.bwd x (kp2.bwd x z)), fun b z => by
              obtain ⟨q1, q2⟩ := kp.fwd 0 .box z.1 rfl
              obtain ⟨q3, q4⟩ := kp2.fwd 0 .box q1 rfl
              exact ⟨q3, q4.trans (q2.trans z.2)⟩⟩
            exact k d0 d1 G1 H1 _ (S1.put r2) D (upS hE a2 w)
    | _ => exact w.elim
end
/-! ### < of numbers, texts, tuples, as far as it is told -/
def cLtD (a b : PyData) : Tr Bool := if Cgo.sig a = true ∧ Cgo.sig b = true ∧ min a.depth b.depth ≤ 64 then (match Cgo.ltD a b with | some k => .ret k | none => .bad) else .bad
theorem rc_ltD {K : PySem.W.Frag} : RC K (Cgo.rLtD K) cLtD := fun G H x y a b Er e rx ry Q h => by
  have h' : (if Cgo.sig a = true ∧ Cgo.sig b = true ∧ min a.depth b.depth ≤ 64 then (match Cgo.ltD a b with | some k => Tr.ret k | none => .bad) else .bad).wp (fun k => Q (.bl k) H) Er := h
  split at h'
  · rename_i hz
    cases q : Cgo.ltD a b with
    | none =>
      rw [q] at h'
      exact h'.elim
    | some k =>
      rw [q] at h'
      exact ⟨a, b, k, (rx.mono e).dp, (ry.mono e).dp, hz.1, hz.2.1, q, hz.2.2, h'⟩
  · exact h'.elim
end Cg
/-! CgW: kinds and values, as mathematics; no program in it. -/
namespace Km
open PySem L2 Cg Cgo

/-! ### what comparing with a word comes to -/
def isW (a : PyData) (s : Str) : Bool := match a with
  | .str t => t == s
  | _ => false
theorem isW_yes {a : PyData} {s : Str} (h : isW a s = true) : a = .str s := by
  cases a with
  | str t =>
    rw [show t = s from eq_of_beq h]
  | _ => exact absurd h Bool.noConfusion
theorem eqv_str (a : PyData) (s : Str) : PyData.eqv a (.str s) = isW a s := by
  cases a <;> simp [PyData.eqv, isW]
theorem eqv_strL (a : PyData) (s : Str) : PyData.eqv (.str s) a = isW a s := by
  cases a with
  | str t =>
    simp only [PyData.eqv, isW]
    exact Bool.beq_comm
  | _ => simp [PyData.eqv, isW]
theorem depth_str (s : Str) : (PyData.str s).depth = 0 := by simp [PyData.depth]
theorem depth_int (s : Int) : (PyData.int s).depth = 0 := by simp [PyData.depth]
theorem depth_bool (s : Bool) : (PyData.bool s).depth = 0 := by simp [PyData.depth]
theorem cEq_str (a : PyData) (s : Str) : cEq a (.str s) = .ret (isW a s) := by
  unfold cEq
  rw [depth_str, Nat.min_zero, if_pos (by omega), eqv_str]
theorem cNe_str (a : PyData) (s : Str) : cNe a (.str s) = .ret (!isW a s) := by
  unfold cNe
  rw [depth_str, Nat.min_zero, if_pos (by omega), eqv_str]
theorem eqv_int (i j : Int) : PyData.eqv (.int i) (.int j) = decide (i = j) := by
  simp only [PyData.eqv]
  exact rfl
theorem cEq_int (i j : Int) : cEq (.int i) (.int j) = .ret (decide (i = j)) := by
  unfold cEq
  rw [depth_int, if_pos (by omega), eqv_int]
theorem cNe_int (i j : Int) : cNe (.int i) (.int j) = .ret (!decide (i = j)) := by
  unfold cNe
  rw [depth_int, if_pos (by omega), eqv_int]
theorem cIn_2 (a : PyData) (s t : Str) : cIn a (.tuple [.str s, .str t]) = .ret (isW a s || isW a t) := by
  unfold cIn
  have h : PyData.depthAll [.str s, .str t] = 0 := by simp [PyData.depthAll, PyData.depth]
  show (if min (PyData.depthAll [.str s, .str t]) a.depth ≤ 64 then Tr.ret (memD a [.str s, .str t]) else .bad) = _
  rw [h, Nat.zero_min, if_pos (by omega)]
  simp only [memD, List.any, eqv_strL, Bool.or_false]
theorem cIn_3 (a : PyData) (s t u : Str) : cIn a (.tuple [.str s, .str t, .str u]) = .ret (isW a s || (isW a t || isW a u)) := by
  unfold cIn
  have h : PyData.depthAll [.str s, .str t, .str u] = 0 := by simp [PyData.depthAll, PyData.depth]
  show (if min (PyData.depthAll [.str s, .str t, .str u]) a.depth ≤ 64 then Tr.ret (memD a [.str s, .str t, .str u]) else .bad) = _
  rw [h, Nat.zero_min, if_pos (by omega)]
  simp only [memD, List.any, eqv_strL, Bool.or_false]
theorem cLt_int (i j : Int) : cLt (.int i) (.int j) = .ret (decide (i < j)) := rfl
theorem cGt_int (i j : Int) : cGt (.int i) (.int j) = .ret (decide (j < i)) := rfl
theorem cLe_int (i j : Int) : cLe (.int i) (.int j) = .ret (decide (i ≤ j)) := rfl
theorem cGe_int (i j : Int) : cGe (.int i) (.int j) = .ret (decide (j ≤ i)) := rfl
theorem dLen_tup (xs : List PyData) : dLen (.tuple xs) = .ret (.int xs.length) := rfl
theorem dLen_lst (xs : List PyData) : dLen (.list xs) = .ret (.int xs.length) := rfl
theorem dSub_int (i j : Int) : dSub (.int i) (.int j) = .ret (.int (i - j)) := rfl
theorem dAdd_int (i j : Int) : dAdd (.int i) (.int j) = .ret (.int (i + j)) := rfl
theorem dMax_int (i j : Int) : dMax (.int i) (.int j) = .ret (.int (if j > i then j else i)) := rfl
theorem sl1 (w : PyData) (xs : List PyData) : dSl (.tuple (w :: xs)) (some 1) none = .ret (.tuple xs) := by
  show Tr.ret (PyData.tuple (cutD (w :: xs) (some 1) none)) = _
  have e : cutD (w :: xs) (some 1) none = xs := by
    unfold cutD
    rw [HT.sIx_none, show HT.sIx (w :: xs).length 0 (some 1) = min 1 (w :: xs).length from HT.sIx_nat _ 0 1]
    simp
  rw [e]
theorem ix_nat {xs : List PyData} {j : Nat} {d : PyData} (h : xs[j]? = some d) : dIx (.tuple xs) (.int (j : Int)) = .ret d := by
  unfold dIx
  simp only [atI_nat h]
theorem ixL_nat {xs : List PyData} {j : Nat} {d : PyData} (h : xs[j]? = some d) : dIx (.list xs) (.int (j : Int)) = .ret d := by
  unfold dIx
  simp only [atI_nat h]
theorem ix0 (w : PyData) (xs : List PyData) : dIx (.tuple (w :: xs)) (.int 0) = .ret w := ix_nat (j := 0) rfl
theorem ix1 (w a : PyData) (xs : List PyData) : dIx (.tuple (w :: a :: xs)) (.int 1) = .ret a := ix_nat (j := 1) rfl
theorem ix2 (w a b : PyData) (xs : List PyData) : dIx (.tuple (w :: a :: b :: xs)) (.int 2) = .ret b := ix_nat (j := 2) rfl
theorem asInts_map : ∀ ns : List Int, asInts (ns.map PyData.int) = some ns
  | [] => rfl
  | n :: ns => by
    show (asInts (ns.map PyData.int)).map (n :: ·) = _
    rw [asInts_map ns]
    rfl
theorem dSum_map (ns : List Int) : dSum (.list (ns.map PyData.int)) = .ret (.int ns.sum) := by
  unfold dSum
  simp only [asInts_map]
theorem map_ret {α : Type} {f : α → Tr PyData} {g : α → PyData} : ∀ (ys : List α), (∀ y ∈ ys, f y = .ret (g y)) → mapT f ys = .ret (ys.map g)
  | [], _ => rfl
  | y :: ys, h => by
    show (f y).bind _ = _
    rw [h y (List.mem_cons_self ..), Tr.ret_bind, map_ret ys fun z hz => h z (List.mem_cons_of_mem _ hz)]
    rfl
theorem rng_map (lo : Int) (n : Nat) : rng lo n = (List.range n).map fun (i : Nat) => PyData.int (lo + (i : Int)) := rfl
theorem map_rng {f : PyData → Tr PyData} {g : Nat → PyData} {lo : Int} {n : Nat} (h : ∀ i, i < n → f (.int (lo + (i : Int))) = .ret (g i)) : mapT f (rng lo n) = .ret ((List.range n).map g) := by
  have e : ∀ xs : List Nat, (∀ i ∈ xs, i < n) → mapT f (xs.map fun (i : Nat) => PyData.int (lo + (i : Int))) = .ret (xs.map g) := by
    intro xs
    induction xs with
    | nil => exact fun _ => rfl
    | cons x xs ih =>
      intro hx
      show (f _).bind _ = _
      rw [h x (hx x List.mem_cons_self), Tr.ret_bind, ih fun i hi => hx i (List.mem_cons_of_mem _ hi)]
      rfl
  exact e _ fun i hi => List.mem_range.mp hi
theorem range_eq {c : Int} (h0 : 0 ≤ c) (h1 : c ≤ 1000000) : rangeT (.int 0) (.int c) = .ret (rng 0 c.toNat) := by
  unfold rangeT
  show (if _ then _ else _) = _
  rw [if_pos (by refine ⟨by omega, by omega, by omega, by omega, by omega⟩), Int.sub_zero]
theorem range1_eq {c : Int} (h0 : 0 ≤ c) (h1 : c ≤ 1000000) : rangeT (.int 1) (.int c) = .ret (rng 1 (c.toNat - 1)) := by
  unfold rangeT
  show (if _ then _ else _) = _
  rw [if_pos (by refine ⟨by omega, by omega, by omega, by omega, by omega⟩)]
  congr 2
  omega
theorem wp_of_eq {α : Type} {t : Tr α} {a : α} {Q : α → Prop} {E : Ek → Prop} (e : t = .ret a) (h : Q a) : t.wp Q E := by
  rw [e]
  exact h
def optI : Option Int → PyData
  | some c => .int c
  | none => .none
theorem optI_non (o : Option Int) : Cg.isNon (optI o) = !o.isSome := by cases o <;> rfl

/-! ### kinds -/
inductive Kd where
  | num (n : Int)
  | rcd (ks : List Kd)
  | cho (ks : List Kd)
  | row (k : Kd)
  | set (k : Kd)
  | bag (k : Kd)
  | tab (k e : Kd)
mutual
def enc : Kd → PyData
  | .num n => .tuple [.str "number", .int n]
  | .rcd ks => .tuple [.str "record", .tuple (encs ks)]
  | .cho ks => .tuple [.str "choice", .tuple (encs ks)]
  | .row k => .tuple [.str "row", enc k]
  | .set k => .tuple [.str "set", enc k]
  | .bag k => .tuple [.str "bag", enc k]
  | .tab k e => .tuple [.str "table", enc k, enc e]
def encs : List Kd → List PyData
  | [] => []
  | k :: ks => enc k :: encs ks
end
theorem encs_map : ∀ ks : List Kd, encs ks = ks.map enc
  | [] => rfl
  | k :: ks => by rw [encs, encs_map ks]; rfl
theorem encs_len (ks : List Kd) : (encs ks).length = ks.length := by rw [encs_map, List.length_map]
theorem encs_get {ks : List Kd} {j : Nat} {k : Kd} (h : ks[j]? = some k) : (encs ks)[j]? = some (enc k) := by
  rw [encs_map, List.getElem?_map, h]
  rfl
mutual
def Kd.ok : Kd → Bool
  | .num n => decide (2 ≤ n) && decide (n ≤ 1000)
  | .rcd ks => (decide (1 ≤ ks.length) && decide (ks.length ≤ 4)) && oks ks
  | .cho ks => (decide (2 ≤ ks.length) && decide (ks.length ≤ 4)) && oks ks
  | .row k => k.ok
  | .set k => k.ok
  | .bag k => k.ok
  | .tab k e => k.ok && e.ok
def oks : List Kd → Bool
  | [] => true
  | k :: ks => k.ok && oks ks
end
theorem oks_mem : ∀ {ks : List Kd}, oks ks = true → ∀ k ∈ ks, k.ok = true
  | k :: ks, h, x, hx => by
    rw [oks, Bool.and_eq_true] at h
    rcases List.mem_cons.mp hx with e | hx
    · rw [e]; exact h.1
    · exact oks_mem h.2 x hx
theorem oks_of : ∀ {ks : List Kd}, (∀ k ∈ ks, k.ok = true) → oks ks = true
  | [], _ => rfl
  | k :: ks, h => by
    rw [oks, h k List.mem_cons_self, oks_of fun x hx => h x (List.mem_cons_of_mem _ hx)]
    rfl
mutual
def Kd.deep : Kd → Nat
  | .num _ => 1
  | .rcd ks => 1 + deeps ks
  | .cho ks => 1 + deeps ks
  | .row k => 1 + k.deep
  | .set k => 1 + k.deep
  | .bag k => 1 + k.deep
  | .tab k e => 1 + max k.deep e.deep
def deeps : List Kd → Nat
  | [] => 0
  | k :: ks => max k.deep (deeps ks)
end
theorem deeps_mem : ∀ {ks : List Kd}, ∀ k ∈ ks, k.deep ≤ deeps ks
  | k :: ks, x, hx => by
    rw [deeps]
    rcases List.mem_cons.mp hx with e | hx
    · rw [e]; omega
    · have := deeps_mem x hx
      omega
theorem deeps_of : ∀ {ks : List Kd} {d : Nat}, (∀ k ∈ ks, k.deep ≤ d) → deeps ks ≤ d
  | [], _, _ => Nat.zero_le _
  | k :: ks, d, h => by
    rw [deeps]
    have h1 := h k List.mem_cons_self
    have h2 := deeps_of (ks := ks) (d := d) fun x hx => h x (List.mem_cons_of_mem _ hx)
    omega
mutual
def Kd.size : Kd → Int
  | .num _ => 1
  | .rcd ks => 1 + sizes ks
  | .cho ks => 1 + sizes ks
  | .row k => 1 + k.size
  | .set k => 1 + k.size
  | .bag k => 1 + k.size
  | .tab k e => 1 + (k.size + e.size)
def sizes : List Kd → Int
  | [] => 0
  | k :: ks => k.size + sizes ks
end

/-! ### values -/
/-- they rise strictly -/
def rising (vs : List PyData) : Bool := (List.range (vs.length - 1)).all fun j => ltD (vs.getD j .none) (vs.getD (j + 1) .none) == some true
def fsts (vs : List PyData) : List PyData := vs.map fun p => match p with
  | .tuple (u :: _) => u
  | _ => .none
mutual
def isV : Kd → PyData → Bool
  | .num n, .int i => decide (0 ≤ i) && decide (i ≤ n - 1)
  | .rcd ks, .tuple vs => isVs ks vs
  | .cho ks, .tuple [.int i, u] => decide (0 ≤ i) && isVn ks i.toNat u
  | .row k, .tuple vs => vs.all (isV k)
  | .set k, .tuple vs => vs.all (isV k) && rising vs
  | .bag k, .tuple vs => (vs.all fun p => match p with
    | .tuple [u, .int c] => isV k u && decide (1 ≤ c)
    | _ => false) && rising (fsts vs)
  | .tab k e, .tuple vs => (vs.all fun p => match p with
    | .tuple [u, w] => isV k u && isV e w
    | _ => false) && rising (fsts vs)
  | _, _ => false
def isVs : List Kd → List PyData → Bool
  | [], [] => true
  | k :: ks, v :: vs => isV k v && isVs ks vs
  | _, _ => false
def isVn : List Kd → Nat → PyData → Bool
  | [], _, _ => false
  | k :: _, 0, v => isV k v
  | _ :: ks, n + 1, v => isVn ks n v
end
mutual
def wt : Kd → PyData → Int
  | .num _, _ => 1
  | .rcd ks, .tuple vs => 1 + wts ks vs
  | .cho ks, .tuple [.int i, u] => 1 + wtn ks i.toNat u
  | .row k, .tuple vs => 1 + (vs.map (wt k)).sum
  | .set k, .tuple vs => 1 + (vs.map (wt k)).sum
  | .bag k, .tuple vs => 1 + (vs.map fun p => match p with
    | .tuple [u, .int c] => c * wt k u
    | _ => 0).sum
  | .tab k e, .tuple vs => 1 + (vs.map fun p => match p with
    | .tuple [u, w] => wt k u + wt e w
    | _ => 0).sum
  | _, _ => 1
def wts : List Kd → List PyData → Int
  | k :: ks, v :: vs => wt k v + wts ks vs
  | _, _ => 0
def wtn : List Kd → Nat → PyData → Int
  | [], _, _ => 1
  | k :: _, 0, v => wt k v
  | _ :: ks, n + 1, v => wtn ks n v
end
theorem isVn_eq : ∀ (ks : List Kd) (n : Nat) (v : PyData), isVn ks n v = match ks[n]? with
    | some k => isV k v
    | none => false
  | [], _, _ => by simp [isVn]
  | k :: _, 0, v => by simp [isVn]
  | _ :: ks, n + 1, v => by
    rw [isVn, isVn_eq ks n v]
    simp
theorem wtn_eq : ∀ (ks : List Kd) (n : Nat) (v : PyData), wtn ks n v = match ks[n]? with
    | some k => wt k v
    | none => 1
  | [], _, _ => by simp [wtn]
  | k :: _, 0, v => by simp [wtn]
  | _ :: ks, n + 1, v => by
    rw [wtn, wtn_eq ks n v]
    simp
end Km
/-! CgK: what holds of kinds and their values. -/
namespace Km
open PySem L2 Cg Cgo
mutual
theorem Kd.ind {P : Kd → Prop} (h1 : ∀ n, P (.num n)) (h2 : ∀ ks, (∀ k ∈ ks, P k) → P (.rcd ks)) (h3 : ∀ ks, (∀ k ∈ ks, P k) → P (.cho ks)) (h4 : ∀ k, P k → P (.row k)) (h5 : ∀ k, P k → P (.set k)) (h6 : ∀ k, P k → P (.bag k)) (h7 : ∀ k e, P k → P e → P (.tab k e)) : ∀ k, P k
  | .num n => h1 n
  | .rcd ks => h2 ks (Kd.inds h1 h2 h3 h4 h5 h6 h7 ks)
  | .cho ks => h3 ks (Kd.inds h1 h2 h3 h4 h5 h6 h7 ks)
  | .row k => h4 k (Kd.ind h1 h2 h3 h4 h5 h6 h7 k)
  | .set k => h5 k (Kd.ind h1 h2 h3 h4 h5 h6 h7 k)
  | .bag k => h6 k (Kd.ind h1 h2 h3 h4 h5 h6 h7 k)
  | .tab k e => h7 k e (Kd.ind h1 h2 h3 h4 h5 h6 h7 k) (Kd.ind h1 h2 h3 h4 h5 h6 h7 e)
theorem Kd.inds {P : Kd → Prop} (h1 : ∀ n, P (.num n)) (h2 : ∀ ks, (∀ k ∈ ks, P k) → P (.rcd ks)) (h3 : ∀ ks, (∀ k ∈ ks, P k) → P (.cho ks)) (h4 : ∀ k, P k → P (.row k)) (h5 : ∀ k, P k → P (.set k)) (h6 : ∀ k, P k → P (.bag k)) (h7 : ∀ k e, P k → P e → P (.tab k e)) : ∀ ks : List Kd, ∀ k ∈ ks, P k
  | [], _, h => nomatch h
  | k :: ks, x, h => by
    rcases List.mem_cons.mp h with e | h
    · rw [e]
      exact Kd.ind h1 h2 h3 h4 h5 h6 h7 k
    · exact Kd.inds h1 h2 h3 h4 h5 h6 h7 ks x h
end
/-! ### what a value is, form by form -/
theorem isV_num {n : Int} {v : PyData} : isV (.num n) v = true ↔ ∃ i, v = .int i ∧ 0 ≤ i ∧ i ≤ n - 1 := by
  constructor
  · intro h
    cases v with
    | int i =>
      simp only [isV, Bool.and_eq_true, decide_eq_true_eq] at h
      exact ⟨i, rfl, h.1, h.2⟩
    | _ => simp [isV] at h
  · rintro ⟨i, rfl, h1, h2⟩
    simp only [isV, Bool.and_eq_true, decide_eq_true_eq]
    exact ⟨h1, h2⟩
theorem isV_rcd {ks : List Kd} {v : PyData} : isV (.rcd ks) v = true ↔ ∃ vs, v = .tuple vs ∧ isVs ks vs = true := by
  constructor
  · intro h
    cases v with
    | tuple vs =>
      simp only [isV] at h
      exact ⟨vs, rfl, h⟩
    | _ => simp [isV] at h
  · rintro ⟨vs, rfl, h⟩
    simp only [isV]
    exact h
theorem isV_cho {ks : List Kd} {v : PyData} : isV (.cho ks) v = true ↔ ∃ i u k, v = .tuple [.int i, u] ∧ 0 ≤ i ∧ ks[i.toNat]? = some k ∧ isV k u = true := by
  constructor
  · intro h
    cases v with
    | tuple vs =>
      match vs, h with
      | [.int i, u], h =>
        simp only [isV, Bool.and_eq_true, decide_eq_true_eq] at h
        obtain ⟨h1, h2⟩ := h
        rw [isVn_eq] at h2
        cases e : ks[i.toNat]? with
        | none =>
          rw [e] at h2
          cases h2
        | some k =>
          rw [e] at h2
          exact ⟨i, u, k, rfl, h1, e, h2⟩
      | [], h => simp [isV] at h
      | [a], h => simp [isV] at h
      | a :: b :: c :: r, h => simp [isV] at h
      | [.none, _], h => simp [isV] at h
      | [.bool _, _], h => simp [isV] at h
      | [.str _, _], h => simp [isV] at h
      | [.list _, _], h => simp [isV] at h
      | [.tuple _, _], h => simp [isV] at h
      | [.dict _, _], h => simp [isV] at h
    | _ => simp [isV] at h
  · rintro ⟨i, u, k, rfl, h1, e, h2⟩
    simp only [isV, Bool.and_eq_true, decide_eq_true_eq]
    refine ⟨h1, ?_⟩
    rw [isVn_eq, e]
    exact h2
theorem isV_row {k : Kd} {v : PyData} : isV (.row k) v = true ↔ ∃ vs, v = .tuple vs ∧ ∀ y ∈ vs, isV k y = true := by
  constructor
  · intro h
    cases v with
    | tuple vs =>
      simp only [isV, List.all_eq_true] at h
      exact ⟨vs, rfl, h⟩
    | _ => simp [isV] at h
  · rintro ⟨vs, rfl, h⟩
    simp only [isV, List.all_eq_true]
    exact h
theorem isV_set {k : Kd} {v : PyData} : isV (.set k) v = true ↔ ∃ vs, v = .tuple vs ∧ (∀ y ∈ vs, isV k y = true) ∧ rising vs = true := by
  constructor
  · intro h
    cases v with
    | tuple vs =>
      simp only [isV, List.all_eq_true, Bool.and_eq_true] at h
      exact ⟨vs, rfl, h⟩
    | _ => simp [isV] at h
  · rintro ⟨vs, rfl, h⟩
    simp only [isV, List.all_eq_true, Bool.and_eq_true]
    exact h
def ofBag (us : List (PyData × Int)) : List PyData := us.map fun p => .tuple [p.1, .int p.2]
def ofTab (us : List (PyData × PyData)) : List PyData := us.map fun p => .tuple [p.1, p.2]
theorem fsts_bag (us : List (PyData × Int)) : fsts (ofBag us) = us.map (·.1) := by
  unfold fsts ofBag
  rw [List.map_map]
  rfl
theorem fsts_tab (us : List (PyData × PyData)) : fsts (ofTab us) = us.map (·.1) := by
  unfold fsts ofTab
  rw [List.map_map]
  rfl
def bagItem (k : Kd) (p : PyData) : Bool := match p with
    | .tuple [u, .int c] => isV k u && decide (1 ≤ c)
    | _ => false
def tabItem (k e : Kd) (p : PyData) : Bool := match p with
    | .tuple [u, w] => isV k u && isV e w
    | _ => false
theorem bagItem_iff {k : Kd} {p : PyData} : bagItem k p = true ↔ ∃ u c, p = .tuple [u, .int c] ∧ isV k u = true ∧ 1 ≤ c := by
  constructor
  · intro h
    unfold bagItem at h
    split at h
    · rename_i u c
      simp only [Bool.and_eq_true, decide_eq_true_eq] at h
      exact ⟨u, c, rfl, h.1, h.2⟩
    · cases h
  · rintro ⟨u, c, rfl, h1, h2⟩
    unfold bagItem
    simp only [Bool.and_eq_true, decide_eq_true_eq]
    exact ⟨h1, h2⟩
theorem tabItem_iff {k e : Kd} {p : PyData} : tabItem k e p = true ↔ ∃ u w, p = .tuple [u, w] ∧ isV k u = true ∧ isV e w = true := by
  constructor
  · intro h
    unfold tabItem at h
    split at h
    · rename_i u c
      simp only [Bool.and_eq_true] at h
      exact ⟨u, c, rfl, h.1, h.2⟩
    · cases h
  · rintro ⟨u, c, rfl, h1, h2⟩
    unfold tabItem
    simp only [Bool.and_eq_true]
    exact ⟨h1, h2⟩
theorem isV_bag0 {k : Kd} {vs : List PyData} : isV (.bag k) (.tuple vs) = (vs.all (bagItem k) && rising (fsts vs)) := by
  simp only [isV]
  rfl
theorem isV_tab0 {k e : Kd} {vs : List PyData} : isV (.tab k e) (.tuple vs) = (vs.all (tabItem k e) && rising (fsts vs)) := by
  simp only [isV]
  rfl
theorem bag_of {k : Kd} : ∀ {vs : List PyData}, vs.all (bagItem k) = true → ∃ us : List (PyData × Int), vs = ofBag us ∧ ∀ p ∈ us, isV k p.1 = true ∧ 1 ≤ p.2
  | [], _ => ⟨[], rfl, fun p h => nomatch h⟩
  | v :: vs, h => by
    rw [List.all_cons, Bool.and_eq_true] at h
    obtain ⟨us, e, q⟩ := bag_of h.2
    obtain ⟨u, c, e1, h1, h2⟩ := bagItem_iff.mp h.1
    refine ⟨(u, c) :: us, by rw [e1, e]; rfl, fun p hp => ?_⟩
    rcases List.mem_cons.mp hp with z | hp
    · rw [z]; exact ⟨h1, h2⟩
    · exact q p hp
theorem tab_of {k e : Kd} : ∀ {vs : List PyData}, vs.all (tabItem k e) = true → ∃ us : List (PyData × PyData), vs = ofTab us ∧ ∀ p ∈ us, isV k p.1 = true ∧ isV e p.2 = true
  | [], _ => ⟨[], rfl, fun p h => nomatch h⟩
  | v :: vs, h => by
    rw [List.all_cons, Bool.and_eq_true] at h
    obtain ⟨us, e0, q⟩ := tab_of h.2
    obtain ⟨u, c, e1, h1, h2⟩ := tabItem_iff.mp h.1
    refine ⟨(u, c) :: us, by rw [e1, e0]; rfl, fun p hp => ?_⟩
    rcases List.mem_cons.mp hp with z | hp
    · rw [z]; exact ⟨h1, h2⟩
    · exact q p hp
theorem isV_bag {k : Kd} {v : PyData} : isV (.bag k) v = true ↔ ∃ us : List (PyData × Int), v = .tuple (ofBag us) ∧ (∀ p ∈ us, isV k p.1 = true ∧ 1 ≤ p.2) ∧ rising (us.map (·.1)) = true := by
  constructor
  · intro h
    cases v with
    | tuple vs =>
      rw [isV_bag0, Bool.and_eq_true] at h
      obtain ⟨us, rfl, q⟩ := bag_of h.1
      refine ⟨us, rfl, q, ?_⟩
      rw [← fsts_bag]
      exact h.2
    | _ => simp [isV] at h
  · rintro ⟨us, rfl, h, r⟩
    rw [isV_bag0, fsts_bag, r, Bool.and_true, List.all_eq_true]
    intro p hp
    obtain ⟨q, hq, rfl⟩ := List.mem_map.mp hp
    exact bagItem_iff.mpr ⟨_, _, rfl, h q hq⟩
theorem isV_tab {k e : Kd} {v : PyData} : isV (.tab k e) v = true ↔ ∃ us : List (PyData × PyData), v = .tuple (ofTab us) ∧ (∀ p ∈ us, isV k p.1 = true ∧ isV e p.2 = true) ∧ rising (us.map (·.1)) = true := by
  constructor
  · intro h
    cases v with
    | tuple vs =>
      rw [isV_tab0, Bool.and_eq_true] at h
      obtain ⟨us, rfl, q⟩ := tab_of h.1
      refine ⟨us, rfl, q, ?_⟩
      rw [← fsts_tab]
      exact h.2
    | _ => simp [isV] at h
  · rintro ⟨us, rfl, h, r⟩
    rw [isV_tab0, fsts_tab, r, Bool.and_true, List.all_eq_true]
    intro p hp
    obtain ⟨q, hq, rfl⟩ := List.mem_map.mp hp
    exact tabItem_iff.mpr ⟨_, _, rfl, h q hq⟩
theorem isVs_len : ∀ {ks : List Kd} {vs : List PyData}, isVs ks vs = true → vs.length = ks.length
  | [], [], _ => rfl
  | k :: ks, v :: vs, h => by
    rw [isVs, Bool.and_eq_true] at h
    rw [List.length_cons, List.length_cons, isVs_len h.2]
  | [], _ :: _, h => by simp [isVs] at h
  | _ :: _, [], h => by simp [isVs] at h
theorem isVs_iff : ∀ {ks : List Kd} {vs : List PyData}, isVs ks vs = true ↔ vs.length = ks.length ∧ ∀ (j : Nat) k v, ks[j]? = some k → vs[j]? = some v → isV k v = true
  | [], [] => by simp [isVs]
  | [], _ :: _ => by simp [isVs]
  | _ :: _, [] => by simp [isVs]
  | k :: ks, v :: vs => by
    rw [isVs, Bool.and_eq_true, isVs_iff (ks := ks) (vs := vs)]
    constructor
    · rintro ⟨h1, h2, h3⟩
      refine ⟨by rw [List.length_cons, List.length_cons, h2], fun j a b ha hb => ?_⟩
      cases j with
      | zero =>
        cases ha
        cases hb
        exact h1
      | succ j => exact h3 j a b (by simpa using ha) (by simpa using hb)
    · rintro ⟨h1, h2⟩
      exact ⟨h2 0 k v rfl rfl, by simpa using h1, fun j a b ha hb => h2 (j + 1) a b (by simpa using ha) (by simpa using hb)⟩

/-! ### numbers and tuples of them -/
theorem numDs_iff : ∀ {vs : List PyData}, Cgn.numDs vs = true ↔ ∀ v ∈ vs, Cgn.numD v = true
  | [] => by simp [Cgn.numDs]
  | v :: vs => by
    rw [Cgn.numDs, Bool.and_eq_true, numDs_iff (vs := vs)]
    simp
theorem numD_tup {vs : List PyData} : Cgn.numD (.tuple vs) = true ↔ ∀ v ∈ vs, Cgn.numD v = true := by
  rw [Cgn.numD]
  exact numDs_iff
theorem depthAll_le : ∀ {vs : List PyData} {d : Nat}, (∀ v ∈ vs, v.depth ≤ d) → PyData.depthAll vs ≤ d
  | [], _, _ => by rw [PyData.depthAll]; omega
  | v :: vs, d, h => by
    rw [PyData.depthAll]
    have h1 := h v List.mem_cons_self
    have h2 := depthAll_le (vs := vs) (d := d) fun x hx => h x (List.mem_cons_of_mem _ hx)
    omega
theorem depth_tup {vs : List PyData} {d : Nat} (h : ∀ v ∈ vs, v.depth ≤ d) : (PyData.tuple vs).depth ≤ d + 1 := by
  rw [PyData.depth]
  have := depthAll_le h
  omega
theorem mem_pair {a b x : PyData} (h : x ∈ [a, b]) : x = a ∨ x = b := by
  rcases List.mem_cons.mp h with h | h
  · exact .inl h
  · exact .inr (List.mem_singleton.mp h)
theorem deep_pos (k : Kd) : 1 ≤ k.deep := by
  cases k <;> rw [Kd.deep] <;> omega
theorem isV_flat : ∀ (k : Kd) (v : PyData), isV k v = true → Cgn.numD v = true ∧ v.depth + 1 ≤ 2 * k.deep := by
  intro k
  induction k using Kd.ind with
  | h1 n =>
    intro v h0
    obtain ⟨i, rfl, _, _⟩ := isV_num.mp h0
    exact ⟨rfl, by rw [depth_int, Kd.deep]; omega⟩
  | h2 ks ih =>
    intro v h0
    obtain ⟨vs, rfl, h⟩ := isV_rcd.mp h0
    have each : ∀ v ∈ vs, Cgn.numD v = true ∧ v.depth + 1 ≤ 2 * deeps ks := by
      intro v hv
      obtain ⟨j, hj⟩ := List.getElem?_of_mem hv
      obtain ⟨hl, hall⟩ := isVs_iff.mp h
      have hlt : j < ks.length := by
        rw [← hl]
        exact get_lt hj
      have hk : ks[j]? = some ks[j] := List.getElem?_eq_getElem hlt
      have hm : ks[j] ∈ ks := List.getElem_mem hlt
      obtain ⟨z1, z2⟩ := ih _ hm v (hall j _ v hk hj)
      have := deeps_mem _ hm
      exact ⟨z1, by omega⟩
    refine ⟨numD_tup.mpr fun v hv => (each v hv).1, ?_⟩
    rw [Kd.deep]
    have := depth_tup (vs := vs) (d := 2 * deeps ks - 1) fun v hv => by have := (each v hv).2; omega
    cases vs with
    | nil =>
      have e : (PyData.tuple []).depth = 1 := by rw [PyData.depth, PyData.depthAll]
      omega
    | cons x xs =>
      have := (each x List.mem_cons_self).2
      omega
  | h3 ks ih =>
    intro v h0
    obtain ⟨i, u, k, rfl, _, hk, hu⟩ := isV_cho.mp h0
    have hm : k ∈ ks := List.mem_of_getElem? hk
    obtain ⟨z1, z2⟩ := ih k hm u hu
    have := deeps_mem _ hm
    refine ⟨numD_tup.mpr fun x hx => ?_, ?_⟩
    · rcases mem_pair hx with rfl | rfl
      · rfl
      · exact z1
    · have := depth_tup (vs := [.int i, u]) (d := u.depth) fun x hx => by
        rcases mem_pair hx with rfl | rfl
        · rw [depth_int]
          omega
        · omega
      rw [Kd.deep]
      omega
  | h4 k ih =>
    intro v h0
    obtain ⟨vs, rfl, h⟩ := isV_row.mp h0
    have := deep_pos k
    refine ⟨numD_tup.mpr fun x hx => (ih x (h x hx)).1, ?_⟩
    have := depth_tup (vs := vs) (d := 2 * k.deep - 1) fun x hx => by have := (ih x (h x hx)).2; omega
    rw [Kd.deep]
    omega
  | h5 k ih =>
    intro v h0
    obtain ⟨vs, rfl, h, _⟩ := isV_set.mp h0
    have := deep_pos k
    refine ⟨numD_tup.mpr fun x hx => (ih x (h x hx)).1, ?_⟩
    have := depth_tup (vs := vs) (d := 2 * k.deep - 1) fun x hx => by have := (ih x (h x hx)).2; omega
    rw [Kd.deep]
    omega
  | h6 k ih =>
    intro v h0
    obtain ⟨us, rfl, h, _⟩ := isV_bag.mp h0
    have := deep_pos k
    have each : ∀ p ∈ ofBag us, Cgn.numD p = true ∧ p.depth ≤ 2 * k.deep - 1 + 1 := by
      intro p hp
      obtain ⟨q, hq, rfl⟩ := List.mem_map.mp hp
      obtain ⟨z1, z2⟩ := ih q.1 (h q hq).1
      refine ⟨numD_tup.mpr fun x hx => ?_, depth_tup fun x hx => ?_⟩
      · rcases mem_pair hx with rfl | rfl
        · exact z1
        · rfl
      · rcases mem_pair hx with rfl | rfl
        · omega
        · rw [depth_int]
          omega
    refine ⟨numD_tup.mpr fun x hx => (each x hx).1, ?_⟩
    have := depth_tup (vs := ofBag us) fun x hx => (each x hx).2
    rw [Kd.deep]
    omega
  | h7 k e ihk ihe =>
    intro v h0
    obtain ⟨us, rfl, h, _⟩ := isV_tab.mp h0
    have := deep_pos k
    have := deep_pos e
    have each : ∀ p ∈ ofTab us, Cgn.numD p = true ∧ p.depth ≤ 2 * max k.deep e.deep - 1 + 1 := by
      intro p hp
      obtain ⟨q, hq, rfl⟩ := List.mem_map.mp hp
      obtain ⟨z1, z2⟩ := ihk q.1 (h q hq).1
      obtain ⟨z3, z4⟩ := ihe q.2 (h q hq).2
      refine ⟨numD_tup.mpr fun x hx => ?_, depth_tup fun x hx => ?_⟩
      · rcases mem_pair hx with rfl | rfl
        · exact z1
        · exact z3
      · rcases mem_pair hx with rfl | rfl <;> omega
    refine ⟨numD_tup.mpr fun x hx => (each x hx).1, ?_⟩
    have := depth_tup (vs := ofTab us) fun x hx => (each x hx).2
    rw [Kd.deep]
    omega

/-! ### two values of a kind can be compared -/
theorem cmp_all : ∀ {xs ys : List PyData}, (∀ x ∈ xs, ∀ y ∈ ys, (ltD x y).isSome = true) → (ltDs xs ys).isSome = true
  | [], [], _ => rfl
  | [], _ :: _, _ => rfl
  | _ :: _, [], _ => rfl
  | x :: xs, y :: ys, h => by
    rw [ltDs]
    split
    · exact cmp_all fun a ha b hb => h a (List.mem_cons_of_mem _ ha) b (List.mem_cons_of_mem _ hb)
    · exact h x List.mem_cons_self y List.mem_cons_self
theorem cmp_each : ∀ {xs ys : List PyData}, (∀ (j : Nat) x y, xs[j]? = some x → ys[j]? = some y → (ltD x y).isSome = true) → (ltDs xs ys).isSome = true
  | [], [], _ => rfl
  | [], _ :: _, _ => rfl
  | _ :: _, [], _ => rfl
  | x :: xs, y :: ys, h => by
    rw [ltDs]
    split
    · exact cmp_each fun j a b ha hb => h (j + 1) a b (by simpa using ha) (by simpa using hb)
    · exact h 0 x y rfl rfl
theorem ltD_tup (xs ys : List PyData) : ltD (.tuple xs) (.tuple ys) = ltDs xs ys := by rw [ltD]
theorem ltD_int (i j : Int) : ltD (.int i) (.int j) = some (decide (i < j)) := by rw [ltD]
theorem isV_cmp : ∀ (k : Kd) (a b : PyData), isV k a = true → isV k b = true → (ltD a b).isSome = true := by
  intro k
  induction k using Kd.ind with
  | h1 n =>
    intro a b ha hb
    obtain ⟨i, rfl, _, _⟩ := isV_num.mp ha
    obtain ⟨j, rfl, _, _⟩ := isV_num.mp hb
    rw [ltD_int]
    rfl
  | h2 ks ih =>
    intro a b ha hb
    obtain ⟨xs, rfl, hx⟩ := isV_rcd.mp ha
    obtain ⟨ys, rfl, hy⟩ := isV_rcd.mp hb
    rw [ltD_tup]
    obtain ⟨l1, h1⟩ := isVs_iff.mp hx
    obtain ⟨l2, h2⟩ := isVs_iff.mp hy
    refine cmp_each fun j x y ex ey => ?_
    have hlt : j < ks.length := by
      rw [← l1]
      exact get_lt ex
    have hk : ks[j]? = some ks[j] := List.getElem?_eq_getElem hlt
    exact ih _ (List.getElem_mem hlt) x y (h1 j _ x hk ex) (h2 j _ y hk ey)
  | h3 ks ih =>
    intro a b ha hb
    obtain ⟨i, u, k, rfl, hi, hk, hu⟩ := isV_cho.mp ha
    obtain ⟨j, w, l, rfl, hj, hl, hw⟩ := isV_cho.mp hb
    rw [ltD_tup, ltDs]
    split
    · rename_i e
      rw [eqv_int, decide_eq_true_eq] at e
      subst e
      rw [hk] at hl
      cases hl
      rw [ltDs]
      split
      · rw [ltDs]
        rfl
      · exact ih k (List.mem_of_getElem? hk) u w hu hw
    · rw [ltD_int]
      rfl
  | h4 k ih =>
    intro a b ha hb
    obtain ⟨xs, rfl, hx⟩ := isV_row.mp ha
    obtain ⟨ys, rfl, hy⟩ := isV_row.mp hb
    rw [ltD_tup]
    exact cmp_all fun x mx y my => ih x y (hx x mx) (hy y my)
  | h5 k ih =>
    intro a b ha hb
    obtain ⟨xs, rfl, hx, _⟩ := isV_set.mp ha
    obtain ⟨ys, rfl, hy, _⟩ := isV_set.mp hb
    rw [ltD_tup]
    exact cmp_all fun x mx y my => ih x y (hx x mx) (hy y my)
  | h6 k ih =>
    intro a b ha hb
    obtain ⟨xs, rfl, hx, _⟩ := isV_bag.mp ha
    obtain ⟨ys, rfl, hy, _⟩ := isV_bag.mp hb
    rw [ltD_tup]
    refine cmp_all fun x mx y my => ?_
    obtain ⟨p, hp, rfl⟩ := List.mem_map.mp mx
    obtain ⟨q, hq, rfl⟩ := List.mem_map.mp my
    rw [ltD_tup, ltDs]
    split
    · rw [ltDs]
      split
      · rw [ltDs]
        rfl
      · rw [ltD_int]
        rfl
    · exact ih _ _ (hx p hp).1 (hy q hq).1
  | h7 k e ihk ihe =>
    intro a b ha hb
    obtain ⟨xs, rfl, hx, _⟩ := isV_tab.mp ha
    obtain ⟨ys, rfl, hy, _⟩ := isV_tab.mp hb
    rw [ltD_tup]
    refine cmp_all fun x mx y my => ?_
    obtain ⟨p, hp, rfl⟩ := List.mem_map.mp mx
    obtain ⟨q, hq, rfl⟩ := List.mem_map.mp my
    rw [ltD_tup, ltDs]
    split
    · rw [ltDs]
      split
      · rw [ltDs]
        rfl
      · exact ihe _ _ (hx p hp).2 (hy q hq).2
    · exact ihk _ _ (hx p hp).1 (hy q hq).1
/-- < of two values of a kind -/
theorem isV_lt {k : Kd} {a b : PyData} (ha : isV k a = true) (hb : isV k b = true) (hd : k.deep ≤ 30) : cLtD a b = .ret (ltD a b == some true) := by
  obtain ⟨z1, z2⟩ := isV_flat k a ha
  obtain ⟨z3, z4⟩ := isV_flat k b hb
  obtain ⟨t, ht⟩ := Option.isSome_iff_exists.mp (isV_cmp k a b ha hb)
  unfold cLtD
  rw [if_pos ⟨nums_sig _ z1, nums_sig _ z3, by omega⟩, ht]
  cases t <;> rfl
end Km
/-! CgH: weights, order, counts of kinds, what is drawn. -/
namespace Km
open PySem L2 Cg Cgo
open PySem.W (dataLt)
/-! ### weights -/
theorem wt_num (n : Int) (v : PyData) : wt (.num n) v = 1 := by
  cases v <;> simp [wt]
theorem wt_rcd (ks : List Kd) (vs : List PyData) : wt (.rcd ks) (.tuple vs) = 1 + wts ks vs := by simp only [wt]
theorem wt_cho {ks : List Kd} {i : Int} {u : PyData} {k : Kd} (h : ks[i.toNat]? = some k) : wt (.cho ks) (.tuple [.int i, u]) = 1 + wt k u := by
  simp only [wt]
  rw [wtn_eq, h]
theorem wt_row (k : Kd) (vs : List PyData) : wt (.row k) (.tuple vs) = 1 + (vs.map (wt k)).sum := by simp only [wt]
theorem wt_set (k : Kd) (vs : List PyData) : wt (.set k) (.tuple vs) = 1 + (vs.map (wt k)).sum := by simp only [wt]
theorem wt_bag (k : Kd) (us : List (PyData × Int)) : wt (.bag k) (.tuple (ofBag us)) = 1 + (us.map fun p => p.2 * wt k p.1).sum := by
  simp only [wt, ofBag, List.map_map]
  rfl
theorem wt_tab (k e : Kd) (us : List (PyData × PyData)) : wt (.tab k e) (.tuple (ofTab us)) = 1 + (us.map fun p => wt k p.1 + wt e p.2).sum := by
  simp only [wt, ofTab, List.map_map]
  rfl
theorem sum_len : ∀ {xs : List Int}, (∀ x ∈ xs, 1 ≤ x) → (xs.length : Int) ≤ xs.sum
  | [], _ => by simp
  | x :: xs, h => by
    have h1 := h x List.mem_cons_self
    have h2 := sum_len (xs := xs) fun y hy => h y (List.mem_cons_of_mem _ hy)
    rw [List.sum_cons, List.length_cons]
    omega
theorem sum_map_len {α : Type} {f : α → Int} {xs : List α} (h : ∀ x ∈ xs, 1 ≤ f x) : (xs.length : Int) ≤ (xs.map f).sum := by
  have := sum_len (xs := xs.map f) fun y hy => by
    obtain ⟨x, hx, rfl⟩ := List.mem_map.mp hy
    exact h x hx
  rwa [List.length_map] at this
theorem mul_pos1 {a b : Int} (h1 : 1 ≤ a) (h2 : 1 ≤ b) : 1 ≤ a * b := by
  have := Int.mul_le_mul h1 h2 (by omega) (by omega)
  omega
theorem wt_pos : ∀ (k : Kd) (v : PyData), isV k v = true → 1 ≤ wt k v := by
  intro k
  induction k using Kd.ind with
  | h1 n =>
    intro v h
    rw [wt_num]
    omega
  | h2 ks ih =>
    intro v h0
    obtain ⟨vs, rfl, h⟩ := isV_rcd.mp h0
    rw [wt_rcd]
    have key : ∀ (ks : List Kd) (vs : List PyData), (∀ k ∈ ks, ∀ v, isV k v = true → 1 ≤ wt k v) → isVs ks vs = true → 0 ≤ wts ks vs := by
      intro ks
      induction ks with
      | nil =>
        intro vs _ h
        cases vs <;> simp [wts]
      | cons k ks ih =>
        intro vs hk h
        cases vs with
        | nil => simp [wts]
        | cons v vs =>
          rw [isVs, Bool.and_eq_true] at h
          rw [wts]
          have h1 := hk k List.mem_cons_self v h.1
          have h2 := ih vs (fun x hx => hk x (List.mem_cons_of_mem _ hx)) h.2
          omega
    have := key ks vs ih h
    omega
  | h3 ks ih =>
    intro v h0
    obtain ⟨i, u, k, rfl, _, hk, hu⟩ := isV_cho.mp h0
    rw [wt_cho hk]
    have := ih k (List.mem_of_getElem? hk) u hu
    omega
  | h4 k ih =>
    intro v h0
    obtain ⟨vs, rfl, h⟩ := isV_row.mp h0
    rw [wt_row]
    have := sum_map_len (f := wt k) fun x hx => ih x (h x hx)
    omega
  | h5 k ih =>
    intro v h0
    obtain ⟨vs, rfl, h, _⟩ := isV_set.mp h0
    rw [wt_set]
    have := sum_map_len (f := wt k) fun x hx => ih x (h x hx)
    omega
  | h6 k ih =>
    intro v h0
    obtain ⟨us, rfl, h, _⟩ := isV_bag.mp h0
    rw [wt_bag]
    have := sum_map_len (f := fun p : PyData × Int => p.2 * wt k p.1) fun p hp => mul_pos1 (h p hp).2 (ih _ (h p hp).1)
    omega
  | h7 k e ihk ihe =>
    intro v h0
    obtain ⟨us, rfl, h, _⟩ := isV_tab.mp h0
    rw [wt_tab]
    have := sum_map_len (f := fun p : PyData × PyData => wt k p.1 + wt e p.2) fun p hp => by
      have h1 := ihk _ (h p hp).1
      have h2 := ihe _ (h p hp).2
      show 1 ≤ wt k p.1 + wt e p.2
      omega
    omega

/-! ### order -/
theorem rising_iff {vs : List PyData} : rising vs = true ↔ ∀ (j : Nat) a b, vs[j]? = some a → vs[j + 1]? = some b → ltD a b = some true := by
  unfold rising
  rw [List.all_eq_true]
  constructor
  · intro h j a b ha hb
    have hlt : j + 1 < vs.length := get_lt hb
    have q := h j (List.mem_range.mpr (by omega))
    rw [List.getD_eq_getElem?_getD, List.getD_eq_getElem?_getD, ha, hb] at q
    exact eq_of_beq q
  · intro h j hj
    have hlt : j + 1 < vs.length := by
      have := List.mem_range.mp hj
      omega
    have e1 : vs[j]? = some vs[j] := List.getElem?_eq_getElem (by omega)
    have e2 : vs[j + 1]? = some vs[j + 1] := List.getElem?_eq_getElem hlt
    rw [List.getD_eq_getElem?_getD, List.getD_eq_getElem?_getD, e1, e2]
    exact beq_iff_eq.mpr (h j _ _ e1 e2)
theorem rising_sort {ds : List PyData} (C : Cmp ds) : rising (sortD (onceD ds)) = true := by
  refine rising_iff.mpr fun j a b ha hb => ?_
  have hp := sortD_perm (onceD ds)
  have hm : ∀ d, d ∈ sortD (onceD ds) → d ∈ ds := fun d hd => (mem_once C.1).mp (hp.mem_iff.mp hd)
  have ma := hm a (List.mem_of_getElem? ha)
  have mb := hm b (List.mem_of_getElem? hb)
  have hs : dataLt b a = false := by
    have := sortD_sorted (onceD ds)
    rw [List.pairwise_iff_getElem] at this
    have h1 := get_lt ha
    have h2 := get_lt hb
    have q := this j (j + 1) h1 h2 (by omega)
    rw [List.getElem?_eq_getElem h1] at ha
    rw [List.getElem?_eq_getElem h2] at hb
    cases ha
    cases hb
    exact q
  have hn : (sortD (onceD ds)).Nodup := hp.nodup_iff.mpr (once_nodup C.1)
  have ne : a ≠ b := fun e => by
    unfold List.Nodup at hn
    rw [List.pairwise_iff_getElem] at hn
    have h1 := get_lt ha
    have h2 := get_lt hb
    have q := hn j (j + 1) h1 h2 (by omega)
    rw [List.getElem?_eq_getElem h1] at ha
    rw [List.getElem?_eq_getElem h2] at hb
    cases ha
    cases hb
    exact q e
  rw [C.lt ma mb]
  cases q : dataLt a b with
  | true => rfl
  | false => exact absurd (C.anti ma mb hs q) ne
theorem cmp_of {k : Kd} {ds : List PyData} (h : ∀ y ∈ ds, isV k y = true) : Cmp ds :=
  ⟨fun d hd => nums_sig d (isV_flat k d (h d hd)).1, fun d hd e he => isV_cmp k d e (h d hd) (h e he)⟩
theorem okSet_of {k : Kd} {ds : List PyData} (h : ∀ y ∈ ds, isV k y = true) (hk : k.deep ≤ 4) (hl : ds.length < 64) : okSet ds = true := by
  unfold okSet
  have C := cmp_of h
  rw [Bool.and_eq_true, Bool.and_eq_true, List.all_eq_true, List.all_eq_true, decide_eq_true_eq]
  refine ⟨fun d hd => ?_, fun d hd => List.all_eq_true.mpr fun e he => C.2 d hd e he, hl⟩
  obtain ⟨z1, z2⟩ := isV_flat k d (h d hd)
  rw [Bool.and_eq_true, Bool.and_eq_true, decide_eq_true_eq]
  exact ⟨nums_sig d z1, z1, by omega⟩
theorem sort_set {k : Kd} {ds : List PyData} (h : ∀ y ∈ ds, isV k y = true) (hk : k.deep ≤ 4) (hl : ds.length < 64) : ∃ es, dSortSet (.list ds) = .ret (.list es) ∧ (∀ y ∈ es, y ∈ ds) ∧ rising es = true ∧ es.length ≤ ds.length := by
  have C := cmp_of h
  refine ⟨sortD (onceD ds), ?_, fun y hy => (mem_once C.1).mp ((sortD_perm _).mem_iff.mp hy), rising_sort C, ?_⟩
  · unfold dSortSet
    simp only [okSet_of h hk hl, if_true]
  · rw [(sortD_perm _).length_eq]
    exact once_len ds

/-! ### the kinds right inside, the count -/
def okNum : PyData → Bool
  | .int i => decide (2 ≤ i) && decide (i ≤ 1000)
  | _ => false
/-- the kinds right inside, where the outermost is written as one -/
def shape : PyData → Option (List PyData)
  | .tuple [w, a] => if isW w "number" then (if okNum a then some [] else none)
    else if isW w "row" || (isW w "set" || isW w "bag") then some [a]
    else if isW w "record" then (match a with
      | .tuple ys => if 1 ≤ ys.length ∧ ys.length ≤ 4 then some ys else none
      | _ => none)
    else if isW w "choice" then (match a with
      | .tuple ys => if 2 ≤ ys.length ∧ ys.length ≤ 4 then some ys else none
      | _ => none)
    else none
  | .tuple [w, a, b] => if isW w "table" then some [a, b] else none
  | _ => none
def optT : Option (List PyData) → PyData
  | some l => .tuple l
  | none => .none
/-- the sum of what f tells of each -/
def cntAll (f : PyData → Option Int) : List PyData → Option Int
  | [] => some 0
  | y :: ys => match f y with
    | some c => (cntAll f ys).map (c + ·)
    | none => none
/-- how many kinds there are, where no more than d stand inside one another -/
def cntK : Nat → PyData → Option Int
  | 0, _ => none
  | d + 1, x => match shape x with
    | some l => (cntAll (cntK d) l).map (1 + ·)
    | none => none
def isK (x : PyData) : Bool := match cntK 5 x with
  | some c => decide (c ≤ 20)
  | none => false
def Kd.inner : Kd → List Kd
  | .num _ => []
  | .rcd ks => ks
  | .cho ks => ks
  | .row k => [k]
  | .set k => [k]
  | .bag k => [k]
  | .tab k e => [k, e]
theorem shape_enc {k : Kd} (h : k.ok = true) : shape (enc k) = some (encs k.inner) := by
  cases k with
  | num n =>
    rw [Kd.ok] at h
    show (if okNum (.int n) = true then some [] else none) = _
    rw [if_pos (show okNum (.int n) = true from h)]
    rfl
  | rcd ks =>
    rw [Kd.ok, Bool.and_eq_true, Bool.and_eq_true, decide_eq_true_eq, decide_eq_true_eq] at h
    rw [enc]
    show (if 1 ≤ (encs ks).length ∧ (encs ks).length ≤ 4 then some (encs ks) else none) = _
    rw [encs_len, if_pos h.1]
    rfl
  | cho ks =>
    rw [Kd.ok, Bool.and_eq_true, Bool.and_eq_true, decide_eq_true_eq, decide_eq_true_eq] at h
    rw [enc]
    show (if 2 ≤ (encs ks).length ∧ (encs ks).length ≤ 4 then some (encs ks) else none) = _
    rw [encs_len, if_pos h.1]
    rfl
  | row k => rw [enc]; rfl
  | set k => rw [enc]; rfl
  | bag k => rw [enc]; rfl
  | tab k e => rw [enc]; rfl
theorem inner_ok {k : Kd} (h : k.ok = true) : ∀ q ∈ k.inner, q.ok = true := by
  intro q hq
  cases k with
  | num n => cases hq
  | rcd ks =>
    rw [Kd.ok, Bool.and_eq_true] at h
    exact oks_mem h.2 q hq
  | cho ks =>
    rw [Kd.ok, Bool.and_eq_true] at h
    exact oks_mem h.2 q hq
  | row k =>
    rw [Kd.ok] at h
    cases List.mem_singleton.mp hq
    exact h
  | set k =>
    rw [Kd.ok] at h
    cases List.mem_singleton.mp hq
    exact h
  | bag k =>
    rw [Kd.ok] at h
    cases List.mem_singleton.mp hq
    exact h
  | tab k e =>
    rw [Kd.ok, Bool.and_eq_true] at h
    rcases List.mem_cons.mp hq with z | hq
    · rw [z]; exact h.1
    · cases List.mem_singleton.mp hq
      exact h.2
theorem inner_deep {k : Kd} : ∀ q ∈ k.inner, q.deep < k.deep := by
  intro q hq
  cases k with
  | num n => cases hq
  | rcd ks =>
    rw [Kd.deep]
    have := deeps_mem (ks := ks) q hq
    omega
  | cho ks =>
    rw [Kd.deep]
    have := deeps_mem (ks := ks) q hq
    omega
  | row k =>
    cases List.mem_singleton.mp hq
    rw [Kd.deep]
    omega
  | set k =>
    cases List.mem_singleton.mp hq
    rw [Kd.deep]
    omega
  | bag k =>
    cases List.mem_singleton.mp hq
    rw [Kd.deep]
    omega
  | tab k e =>
    rw [Kd.deep]
    rcases List.mem_cons.mp hq with z | hq
    · rw [z]; omega
    · cases List.mem_singleton.mp hq
      omega
theorem size_inner (k : Kd) : k.size = 1 + sizes k.inner := by
  cases k <;> simp [Kd.size, Kd.inner, sizes]
theorem cnt_enc : ∀ (d : Nat) (k : Kd), k.ok = true → k.deep ≤ d → cntK d (enc k) = some k.size
  | 0, k, _, h => absurd (deep_pos k) (by omega)
  | d + 1, k, ho, hd => by
    have key : ∀ qs : List Kd, (∀ q ∈ qs, q.ok = true ∧ q.deep ≤ d) → cntAll (cntK d) (encs qs) = some (sizes qs) := by
      intro qs
      induction qs with
      | nil => exact fun _ => rfl
      | cons q qs ih =>
        intro h
        obtain ⟨h1, h2⟩ := h q List.mem_cons_self
        rw [encs, cntAll, cnt_enc d q h1 h2, ih fun x hx => h x (List.mem_cons_of_mem _ hx)]
        rfl
    rw [cntK, shape_enc ho, size_inner]
    show (cntAll (cntK d) (encs k.inner)).map (1 + ·) = _
    rw [key k.inner fun q hq => ⟨inner_ok ho q hq, by have := inner_deep q hq; omega⟩]
    rfl

/-! ### what is drawn -/
abbrev F0 : Ek → Prop := fun _ => False
/-- tuples nested at most d deep, of at most l items, numbers of at most b -/
def Nc (l b : Nat) : Nat → PyData → Prop
  | 0, x => match x with
    | .int i => i.natAbs ≤ b
    | .tuple _ => False
    | .list _ => False
    | .dict _ => False
    | _ => True
  | d + 1, x => match x with
    | .int i => i.natAbs ≤ b
    | .tuple xs => xs.length ≤ l ∧ ∀ y ∈ xs, Nc l b d y
    | .list _ => False
    | .dict _ => False
    | _ => True
theorem nc_mono {l b l' b' : Nat} (hl : l ≤ l') (hb : b ≤ b') : ∀ (d d' : Nat) (x : PyData), d ≤ d' → Nc l b d x → Nc l' b' d' x
  | 0, 0, x, _, h => by
    cases x with
    | int i => exact Nat.le_trans (show i.natAbs ≤ b from h) hb
    | tuple xs => exact h.elim
    | list xs => exact h.elim
    | dict xs => exact h.elim
    | _ => exact trivial
  | 0, d' + 1, x, _, h => by
    cases x with
    | int i => exact Nat.le_trans (show i.natAbs ≤ b from h) hb
    | tuple xs => exact h.elim
    | list xs => exact h.elim
    | dict xs => exact h.elim
    | _ => exact trivial
  | d + 1, 0, _, hd, _ => absurd hd (by omega)
  | d + 1, d' + 1, x, hd, h => by
    cases x with
    | int i => exact Nat.le_trans (show i.natAbs ≤ b from h) hb
    | tuple xs => exact ⟨Nat.le_trans h.1 hl, fun y hy => nc_mono hl hb d d' y (by omega) (h.2 y hy)⟩
    | list xs => exact h.elim
    | dict xs => exact h.elim
    | _ => exact trivial
theorem nc_int {l b d : Nat} {i : Int} : Nc l b d (.int i) ↔ i.natAbs ≤ b := by
  cases d <;> exact Iff.rfl
theorem nc_depth {l b : Nat} : ∀ (d : Nat) (x : PyData), Nc l b d x → x.depth ≤ d
  | 0, x, h => by
    cases x with
    | tuple xs => exact h.elim
    | list xs => exact h.elim
    | dict xs => exact h.elim
    | _ => simp [PyData.depth]
  | d + 1, x, h => by
    cases x with
    | tuple xs => exact depth_tup fun y hy => nc_depth d y (h.2 y hy)
    | list xs => exact h.elim
    | dict xs => exact h.elim
    | _ => simp [PyData.depth]
theorem take_wp {m : Int} {Q : PyData → Prop} (h1 : 1 ≤ m) (h2 : m < 1073741824) (h : ∀ i : Nat, (i : Int) < m → Q (.int (i : Int))) : (takeT (.int m)).wp Q F0 := by
  show Tr.wp Q F0 (if 1 ≤ m ∧ m < 1073741824 then Tr.draw m.toNat fun i => Tr.ret (PyData.int (i : Int)) else Tr.bad)
  rw [if_pos ⟨h1, h2⟩]
  exact fun i hi => h i (by omega)
/-- what a draw keeps, told of any that draws so -/
def Draws (tk : PyData → Tr PyData) : Prop := ∀ {m : Int} {Q : PyData → Prop}, 1 ≤ m → m < 1073741824 → (∀ i : Nat, (i : Int) < m → Q (.int (i : Int))) → (tk (.int m)).wp Q F0
theorem take_draws : ∃ tk, takeT = tk ∧ Draws tk := ⟨takeT, rfl, take_wp⟩
/-- the same of a pick from a menu -/
def Picks (pk : PyData → Tr PyData) : Prop := ∀ {xs : List PyData} {Q : PyData → Prop}, 1 ≤ xs.length → xs.length < 1000000 → (∀ y ∈ xs, Q y) → (pk (.list xs)).wp Q F0
theorem map_wp {α : Type} {P : PyData → Prop} {f : α → Tr PyData} : ∀ (xs : List α), (∀ x ∈ xs, (f x).wp P F0) → (mapT f xs).wp (fun ys => ys.length = xs.length ∧ ∀ y ∈ ys, P y) F0
  | [], _ => ⟨rfl, fun y hy => nomatch hy⟩
  | x :: xs, h => by
    refine Tr.wp_bind.mpr (Tr.wp_mono (fun y hy => ?_) (fun _ z => z) (h x (List.mem_cons_self ..)))
    refine Tr.wp_bind.mpr (Tr.wp_mono (fun ys hys => ?_) (fun _ z => z) (map_wp xs fun z hz => h z (List.mem_cons_of_mem _ hz)))
    refine ⟨congrArg (· + 1) hys.1, fun z hz => ?_⟩
    rcases List.mem_cons.mp hz with rfl | hz
    · exact hy
    · exact hys.2 z hz
/-- item by item: what each gives -/
theorem map_wp2 {α : Type} {P : α → PyData → Prop} {f : α → Tr PyData} : ∀ (xs : List α), (∀ x ∈ xs, (f x).wp (P x) F0) → (mapT f xs).wp (fun ys => PySem.W.EachIs P xs ys) F0
  | [], _ => .nil
  | x :: xs, h => by
    refine Tr.wp_bind.mpr (Tr.wp_mono (fun y hy => ?_) (fun _ z => z) (h x (List.mem_cons_self ..)))
    refine Tr.wp_bind.mpr (Tr.wp_mono (fun ys hys => ?_) (fun _ z => z) (map_wp2 xs fun z hz => h z (List.mem_cons_of_mem _ hz)))
    exact .cons hy hys
end Km
/-! CgI: what the trees of common rows come to. -/
namespace Km
open PySem L2 Cg Cgo
def numIn (v : PyData) (lo hi : Int) : Bool := match v with
  | .int i => decide (lo ≤ i) && decide (i ≤ hi)
  | _ => false
theorem eq_get {α : Type} {xs ys : List α} (hl : xs.length = ys.length) (h : ∀ (j : Nat) a b, xs[j]? = some a → ys[j]? = some b → a = b) : xs = ys := by
  refine List.ext_getElem? fun j => ?_
  by_cases q : j < xs.length
  · have e1 : xs[j]? = some xs[j] := List.getElem?_eq_getElem q
    have e2 : ys[j]? = some ys[j] := List.getElem?_eq_getElem (by omega)
    rw [e1, e2, h j _ _ e1 e2]
  · rw [List.getElem?_eq_none (by omega), List.getElem?_eq_none (by omega)]
theorem rng_zip {ks : List Kd} {vs : List PyData} {G : PyData → PyData → Tr PyData} {g : Kd → PyData → PyData} (hl : vs.length = ks.length) (h : ∀ (j : Nat) k v, ks[j]? = some k → vs[j]? = some v → G (enc k) v = .ret (g k v)) :
    mapT (fun j => (dIx (.tuple (encs ks)) j).bind fun a => (dIx (.tuple vs) j).bind fun b => G a b) (rng 0 vs.length) = .ret (List.zipWith g ks vs) := by
  have e : mapT (fun j => (dIx (.tuple (encs ks)) j).bind fun a => (dIx (.tuple vs) j).bind fun b => G a b) (rng 0 vs.length) = .ret ((List.range vs.length).map fun i => match ks[i]?, vs[i]? with
      | some k, some v => g k v
      | _, _ => .none) := by
    refine map_rng fun i hi => ?_
    rw [Int.zero_add]
    have e1 : ks[i]? = some ks[i] := List.getElem?_eq_getElem (by omega)
    have e2 : vs[i]? = some vs[i] := List.getElem?_eq_getElem hi
    rw [ix_nat (encs_get e1), Tr.ret_bind, ix_nat e2, Tr.ret_bind, h i _ _ e1 e2, e1, e2]
  rw [e]
  congr 1
  refine eq_get (by rw [List.length_map, List.length_range, List.length_zipWith]; omega) fun j a b ha hb => ?_
  have hj : j < vs.length := by
    have := get_lt ha
    rwa [List.length_map, List.length_range] at this
  have e1 : ks[j]? = some ks[j] := List.getElem?_eq_getElem (by omega)
  have e2 : vs[j]? = some vs[j] := List.getElem?_eq_getElem hj
  rw [List.getElem?_map, List.getElem?_range hj] at ha
  simp only [Option.map, e1, e2, Option.some.injEq] at ha
  rw [List.getElem?_zipWith, e1, e2] at hb
  simp only [Option.some.injEq] at hb
  rw [← ha, ← hb]
theorem depth_bools : ∀ bs : List Bool, PyData.depthAll (bs.map PyData.bool) = 0
  | [] => by rw [List.map_nil, PyData.depthAll]
  | b :: bs => by
    rw [List.map_cons, PyData.depthAll, depth_bools bs, depth_bool]
    rfl
theorem notin_bools (bs : List Bool) : cNotIn (.bool false) (.list (bs.map PyData.bool)) = .ret (bs.all id) := by
  unfold cNotIn cIn
  show ((if min (PyData.depthAll (bs.map PyData.bool)) _ ≤ 64 then Tr.ret (memD (.bool false) (bs.map PyData.bool)) else .bad).bind fun k => Tr.ret (!k)) = _
  rw [depth_bools, if_pos (by omega), Tr.ret_bind]
  congr 1
  unfold memD
  induction bs with
  | nil => rfl
  | cons b bs ih =>
    rw [List.map_cons, List.any_cons, List.all_cons, ← ih]
    have e : PyData.eqv (.bool b) (.bool false) = !b := by
      cases b <;> simp [PyData.eqv]
    rw [e, Bool.not_or, Bool.not_not]
    rfl
theorem all_bools (bs : List Bool) : dAll (.list (bs.map PyData.bool)) = .ret (.bool (bs.all id)) := by
  have e : ∀ bs : List Bool, asBools (bs.map PyData.bool) = some bs := by
    intro bs
    induction bs with
    | nil => rfl
    | cons b bs ih =>
      show (asBools (bs.map PyData.bool)).map (b :: ·) = _
      rw [ih]
      rfl
  unfold dAll
  simp only [e]
theorem mapIf_rng {c : PyData → Tr Bool} {cc : Nat → Bool} {lo : Int} {n : Nat} (h : ∀ i, i < n → c (.int (lo + (i : Int))) = .ret (cc i)) :
    mapIf c (fun v => Tr.ret v) (rng lo n) = .ret (((List.range n).filter cc).map fun (i : Nat) => PyData.int (lo + (i : Int))) := by
  have e : ∀ xs : List Nat, (∀ i ∈ xs, i < n) → mapIf c (fun v => Tr.ret v) (xs.map fun (i : Nat) => PyData.int (lo + (i : Int))) = .ret ((xs.filter cc).map fun (i : Nat) => PyData.int (lo + (i : Int))) := by
    intro xs
    induction xs with
    | nil => exact fun _ => rfl
    | cons x xs ih =>
      intro hx
      show ((c _).bind _) = _
      rw [h x (hx x List.mem_cons_self), Tr.ret_bind, ih fun i hi => hx i (List.mem_cons_of_mem _ hi), List.filter_cons]
      cases cc x <;> rfl
  exact e _ fun i hi => List.mem_range.mp hi
theorem cEq_nil (L : List PyData) : cEq (.list L) (.list []) = .ret L.isEmpty := by
  unfold cEq
  have e : (PyData.list []).depth = 1 := by rw [PyData.depth, PyData.depthAll]
  rw [e, if_pos (by omega)]
  cases L <;> simp [PyData.eqv, PyData.eqvAll]
theorem cEq_nilT (L : List PyData) : cEq (.tuple L) (.tuple []) = .ret L.isEmpty := by
  unfold cEq
  have e : (PyData.tuple []).depth = 1 := by rw [PyData.depth, PyData.depthAll]
  rw [e, if_pos (by omega)]
  cases L <;> simp [PyData.eqv, PyData.eqvAll]
theorem forC_all {f : PyData → Unit → Tr (Ct Unit)} {ok : PyData → Bool} {kk : Unit → Tr PyData} {d : PyData} : ∀ {xs : List PyData}, (∀ x ∈ xs, f x () = .ret (if ok x then Ct.nx () else Ct.rt d)) → forC id f kk xs () = if xs.all ok = true then kk () else .ret d
  | [], _ => rfl
  | x :: xs, h => by
    rw [List.all_cons]
    show (f x ()).bind _ = _
    rw [h x List.mem_cons_self, Tr.ret_bind]
    cases ok x with
    | true =>
      show forC id f kk xs () = _
      rw [forC_all fun y hy => h y (List.mem_cons_of_mem _ hy)]
      rfl
    | false => rfl
theorem isVs_zip : ∀ (ks : List Kd) (vs : List PyData), vs.length = ks.length → isVs ks vs = (List.zipWith isV ks vs).all id
  | [], [], _ => rfl
  | k :: ks, v :: vs, h => by
    rw [isVs, List.zipWith_cons_cons, List.all_cons, isVs_zip ks vs (by simpa using h)]
    rfl
  | [], _ :: _, h => by simp at h
  | _ :: _, [], h => by simp at h
theorem isVs_ne {ks : List Kd} {vs : List PyData} (h : vs.length ≠ ks.length) : isVs ks vs = false := by
  cases e : isVs ks vs with
  | false => rfl
  | true => exact absurd (isVs_len e) h
theorem wts_zip : ∀ (ks : List Kd) (vs : List PyData), vs.length = ks.length → (List.zipWith wt ks vs).sum = wts ks vs
  | [], [], _ => rfl
  | k :: ks, v :: vs, h => by
    rw [wts, List.zipWith_cons_cons, List.sum_cons, wts_zip ks vs (by simpa using h)]
  | [], _ :: _, h => by simp at h
  | _ :: _, [], h => by simp at h
theorem zip_map {α β γ δ : Type} (f : α → β → γ) (g : γ → δ) : ∀ (xs : List α) (ys : List β), List.zipWith (fun a b => g (f a b)) xs ys = (List.zipWith f xs ys).map g
  | [], _ => rfl
  | _ :: _, [] => rfl
  | x :: xs, y :: ys => by
    rw [List.zipWith_cons_cons, List.zipWith_cons_cons, List.map_cons, zip_map f g xs ys]
/-- what of a tuple or list is read -/
structure SeqD (x : PyData) (vs : List PyData) : Prop where
  len : dLen x = .ret (.int vs.length)
  ix : ∀ (j : Nat) d, vs[j]? = some d → dIx x (.int (j : Int)) = .ret d
  it : items x = .ret vs
theorem seqT (vs : List PyData) : SeqD (.tuple vs) vs := ⟨rfl, fun _ _ h => ix_nat h, rfl⟩
theorem seqL (vs : List PyData) : SeqD (.list vs) vs := ⟨rfl, fun _ _ h => ixL_nat h, rfl⟩
theorem isV_choP (ks : List Kd) (a u : PyData) : isV (.cho ks) (.tuple [a, u]) = (numIn a 0 ((ks.length : Int) - 1) && match a with
    | .int i => isVn ks i.toNat u
    | _ => false) := by
  cases a with
  | int i =>
    simp only [isV, numIn]
    by_cases h0 : 0 ≤ i
    · rw [decide_eq_true h0]
      by_cases h1 : i ≤ (ks.length : Int) - 1
      · rw [decide_eq_true h1]
        rfl
      · rw [decide_eq_false h1, isVn_eq, List.getElem?_eq_none (by omega)]
        rfl
    · rw [decide_eq_false h0]
      rfl
  | _ => simp [isV, numIn]
theorem isV_choN {ks : List Kd} {vs : List PyData} (h : vs.length ≠ 2) : isV (.cho ks) (.tuple vs) = false := by
  cases e : isV (.cho ks) (.tuple vs) with
  | false => rfl
  | true =>
    obtain ⟨i, u, k, e1, _⟩ := isV_cho.mp e
    cases e1
    exact absurd rfl h
theorem isV_numEq (n : Int) (v : PyData) : isV (.num n) v = numIn v 0 (n - 1) := by
  cases v <;> simp [isV, numIn]
theorem isV_flatN {k : Kd} {v : PyData} (hk : ∀ n, k ≠ .num n) (h : isTup v = false) : isV k v = false := by
  cases e : isV k v with
  | false => rfl
  | true =>
    cases k with
    | num n => exact absurd rfl (hk n)
    | rcd ks =>
      obtain ⟨vs, rfl, _⟩ := isV_rcd.mp e
      cases h
    | cho ks =>
      obtain ⟨i, u, k, rfl, _⟩ := isV_cho.mp e
      cases h
    | row k =>
      obtain ⟨vs, rfl, _⟩ := isV_row.mp e
      cases h
    | set k =>
      obtain ⟨vs, rfl, _⟩ := isV_set.mp e
      cases h
    | bag k =>
      obtain ⟨vs, rfl, _⟩ := isV_bag.mp e
      cases h
    | tab k e' =>
      obtain ⟨vs, rfl, _⟩ := isV_tab.mp e
      cases h
theorem map_int {α : Type} (f : α → Int) (xs : List α) : xs.map (fun y => PyData.int (f y)) = (xs.map f).map PyData.int := by
  rw [List.map_map]
  rfl
theorem map_bool {α : Type} (f : α → Bool) (xs : List α) : xs.map (fun y => PyData.bool (f y)) = (xs.map f).map PyData.bool := by
  rw [List.map_map]
  rfl
theorem forC_wp {α β : Type} {r : PyData → β} {f : α → Unit → Tr (Ct Unit)} {k : Unit → Tr β} {Q : β → Prop} (hk : (k ()).wp Q F0) : ∀ (xs : List α), (∀ x ∈ xs, (f x ()).wp (fun c => c = Ct.nx ()) F0) → (forC r f k xs ()).wp Q F0
  | [], _ => hk
  | x :: xs, h => by
    refine Tr.wp_bind.mpr (Tr.wp_mono (fun c hc => ?_) (fun _ z => z) (h x (List.mem_cons_self ..)))
    cases hc
    exact forC_wp hk xs fun y hy => h y (List.mem_cons_of_mem _ hy)
theorem same_ne (s : Str) : cNe (.str s) (.str s) = .ret false := by
  rw [cNe_str]
  show Tr.ret (!(s == s)) = _
  rw [beq_self_eq_true]
  rfl
theorem same_eq (s : Str) : cEq (.str s) (.str s) = .ret true := by
  rw [cEq_str]
  show Tr.ret (s == s) = _
  rw [beq_self_eq_true]
theorem repr_no : dRepr .none = .ret (.str "None") := rfl
theorem repr_str {s : Str} (h : (reprText s).length ≤ sizeLine) : dRepr (.str s) = .ret (.str (reprText s)) := by
  show (if (reprText s).length ≤ sizeLine then Tr.ret (PyData.str (reprText s)) else .bad) = _
  rw [if_pos h]
theorem repr_int {i : Int} (h : i.natAbs < 2 ^ 60) : dRepr (.int i) = .ret (.str (toString i)) := by
  have h3 : i.natAbs.log2 < 1920 := by
    by_cases z : i.natAbs = 0
    · rw [z]
      decide
    · have := (Nat.log2_lt z).mpr h
      omega
  show (if i.natAbs.log2 < 1920 then Tr.ret (PyData.str (toString i)) else .bad) = _
  rw [if_pos h3]
theorem flat_one (m : Nat) (a : PyData) : (List.replicate m [a]).flatten = List.replicate m a := by
  induction m with
  | zero => rfl
  | succ m ih => rw [List.replicate_succ, List.replicate_succ, List.flatten_cons, ih]; rfl
theorem box_ints (ns : List Int) : boxT (.list (ns.map PyData.int)) = .ret () := by
  show (if (asInts (ns.map PyData.int)).isSome = true then Tr.ret () else .bad) = _
  rw [asInts_map]
  rfl
theorem nc_tup {l b d : Nat} {vs : List PyData} (h : Nc l b d (.tuple vs)) : ∃ e, d = e + 1 ∧ vs.length ≤ l ∧ ∀ y ∈ vs, Nc l b e y := by
  cases d with
  | zero => exact h.elim
  | succ e => exact ⟨e, rfl, h.1, h.2⟩
theorem w_number_number : isW (.str "number") "number" = true := rfl
theorem w_number_record : isW (.str "number") "record" = false := rfl
theorem w_number_choice : isW (.str "number") "choice" = false := rfl
theorem w_number_row : isW (.str "number") "row" = false := rfl
theorem w_number_set : isW (.str "number") "set" = false := rfl
theorem w_number_bag : isW (.str "number") "bag" = false := rfl
theorem w_number_table : isW (.str "number") "table" = false := rfl
theorem w_record_number : isW (.str "record") "number" = false := rfl
theorem w_record_record : isW (.str "record") "record" = true := rfl
theorem w_record_choice : isW (.str "record") "choice" = false := rfl
theorem w_record_row : isW (.str "record") "row" = false := rfl
theorem w_record_set : isW (.str "record") "set" = false := rfl
theorem w_record_bag : isW (.str "record") "bag" = false := rfl
theorem w_record_table : isW (.str "record") "table" = false := rfl
theorem w_choice_number : isW (.str "choice") "number" = false := rfl
theorem w_choice_record : isW (.str "choice") "record" = false := rfl
theorem w_choice_choice : isW (.str "choice") "choice" = true := rfl
theorem w_choice_row : isW (.str "choice") "row" = false := rfl
theorem w_choice_set : isW (.str "choice") "set" = false := rfl
theorem w_choice_bag : isW (.str "choice") "bag" = false := rfl
theorem w_choice_table : isW (.str "choice") "table" = false := rfl
theorem w_row_number : isW (.str "row") "number" = false := rfl
theorem w_row_record : isW (.str "row") "record" = false := rfl
theorem w_row_choice : isW (.str "row") "choice" = false := rfl
theorem w_row_row : isW (.str "row") "row" = true := rfl
theorem w_row_set : isW (.str "row") "set" = false := rfl
theorem w_row_bag : isW (.str "row") "bag" = false := rfl
theorem w_row_table : isW (.str "row") "table" = false := rfl
theorem w_set_number : isW (.str "set") "number" = false := rfl
theorem w_set_record : isW (.str "set") "record" = false := rfl
theorem w_set_choice : isW (.str "set") "choice" = false := rfl
theorem w_set_row : isW (.str "set") "row" = false := rfl
theorem w_set_set : isW (.str "set") "set" = true := rfl
theorem w_set_bag : isW (.str "set") "bag" = false := rfl
theorem w_set_table : isW (.str "set") "table" = false := rfl
theorem w_bag_number : isW (.str "bag") "number" = false := rfl
theorem w_bag_record : isW (.str "bag") "record" = false := rfl
theorem w_bag_choice : isW (.str "bag") "choice" = false := rfl
theorem w_bag_row : isW (.str "bag") "row" = false := rfl
theorem w_bag_set : isW (.str "bag") "set" = false := rfl
theorem w_bag_bag : isW (.str "bag") "bag" = true := rfl
theorem w_bag_table : isW (.str "bag") "table" = false := rfl
theorem w_table_number : isW (.str "table") "number" = false := rfl
theorem w_table_record : isW (.str "table") "record" = false := rfl
theorem w_table_choice : isW (.str "table") "choice" = false := rfl
theorem w_table_row : isW (.str "table") "row" = false := rfl
theorem w_table_set : isW (.str "table") "set" = false := rfl
theorem w_table_bag : isW (.str "table") "bag" = false := rfl
theorem w_table_table : isW (.str "table") "table" = true := rfl
end Km
/-! CgJ: a value's parts, as the program takes it apart. -/
namespace Km
open PySem L2 Cg Cgo
abbrev Part := Kd × PyData × Int
def encP (p : Part) : PyData := .tuple [enc p.1, p.2.1, .int p.2.2]
def bagP (p : PyData) : Bool := match p with
  | .tuple [_, .int c] => decide (1 ≤ c)
  | _ => false
def tabP (p : PyData) : Bool := match p with
  | .tuple [_, _] => true
  | _ => false
def bagT (k : Kd) (p : PyData) : Part := match p with
  | .tuple [u, .int c] => (k, u, c)
  | _ => (k, .none, 1)
def tabT (k e : Kd) (p : PyData) : List Part := match p with
  | .tuple [u, w] => [(k, u, 1), (e, w, 1)]
  | _ => []
def partsK : Kd → PyData → Option (List Part)
  | .num n, v => if numIn v 0 (n - 1) then some [] else none
  | .rcd ks, .tuple vs => if vs.length = ks.length then some (List.zipWith (fun k v => (k, v, 1)) ks vs) else none
  | .cho ks, .tuple [.int i, u] => if numIn (.int i) 0 ((ks.length : Int) - 1) then (ks[i.toNat]?).map fun k => [(k, u, 1)] else none
  | .row k, .tuple vs => some (vs.map fun v => (k, v, 1))
  | .set k, .tuple vs => some (vs.map fun v => (k, v, 1))
  | .bag k, .tuple vs => if vs.all bagP then some (vs.map (bagT k)) else none
  | .tab k e, .tuple vs => if vs.all tabP then some ((vs.map (tabT k e)).flatten) else none
  | _, _ => none
def ord : Kd → PyData → Bool
  | .set _, .tuple vs => rising vs
  | .bag _, .tuple vs => rising (fsts vs)
  | .tab _ _, .tuple vs => rising (fsts vs)
  | _, _ => true
def sumP (ps : List Part) : Int := (ps.map fun p => p.2.2 * wt p.1 p.2.1).sum
def allP (ps : List Part) : Bool := ps.all fun p => isV p.1 p.2.1
theorem bagP_iff {p : PyData} : bagP p = true ↔ ∃ u c, p = .tuple [u, .int c] ∧ 1 ≤ c := by
  constructor
  · intro h
    unfold bagP at h
    split at h
    · rename_i u c
      exact ⟨u, c, rfl, of_decide_eq_true h⟩
    · cases h
  · rintro ⟨u, c, rfl, h⟩
    exact decide_eq_true h
theorem tabP_iff {p : PyData} : tabP p = true ↔ ∃ u w, p = .tuple [u, w] := by
  constructor
  · intro h
    unfold tabP at h
    split at h
    · rename_i u w
      exact ⟨u, w, rfl⟩
    · cases h
  · rintro ⟨u, w, rfl⟩
    rfl
theorem parts_choN {ks : List Kd} {vs : List PyData} (h : ∀ i u, vs ≠ [.int i, u]) : partsK (.cho ks) (.tuple vs) = none := by
  match vs, h with
  | [], _ => simp [partsK]
  | [_], _ => simp [partsK]
  | [.int i, u], h => exact absurd rfl (h i u)
  | [.none, _], _ => simp [partsK]
  | [.bool _, _], _ => simp [partsK]
  | [.str _, _], _ => simp [partsK]
  | [.list _, _], _ => simp [partsK]
  | [.tuple _, _], _ => simp [partsK]
  | [.dict _, _], _ => simp [partsK]
  | _ :: _ :: _ :: _, _ => simp [partsK]
theorem parts_flat {k : Kd} {v : PyData} (hk : ∀ n, k ≠ .num n) (h : isTup v = false) : partsK k v = none := by
  cases v with
  | tuple vs => cases h
  | _ =>
    cases k with
    | num n => exact absurd rfl (hk n)
    | _ => simp [partsK]
/-- a value is what has parts that are values, and order -/
theorem isV_parts (k : Kd) (v : PyData) : isV k v = match partsK k v with
    | some ps => allP ps && ord k v
    | none => false := by
  by_cases hn : ∃ m, k = .num m
  · obtain ⟨m, rfl⟩ := hn
    rw [isV_numEq]
    have e : partsK (.num m) v = if numIn v 0 (m - 1) then some [] else none := by
      cases v <;> simp only [partsK]
    rw [e]
    cases numIn v 0 (m - 1) with
    | true => cases v <;> rfl
    | false => rfl
  have hnk : ∀ m, k ≠ .num m := fun m z => hn ⟨m, z⟩
  cases ht : isTup v with
  | false => rw [isV_flatN hnk ht, parts_flat hnk ht]
  | true =>
    obtain ⟨vs, rfl⟩ : ∃ vs, v = .tuple vs := by
      cases v with
      | tuple vs => exact ⟨vs, rfl⟩
      | _ => cases ht
    cases k with
    | num m => exact absurd rfl (hnk m)
    | rcd ks =>
      simp only [isV, partsK]
      by_cases hl : vs.length = ks.length
      · rw [if_pos hl]
        show _ = (allP _ && true)
        rw [Bool.and_true, isVs_zip _ _ hl]
        unfold allP
        clear hl hnk hn ht
        induction ks generalizing vs with
        | nil => rfl
        | cons k ks ih =>
          cases vs with
          | nil => rfl
          | cons v vs =>
            rw [List.zipWith_cons_cons, List.zipWith_cons_cons, List.all_cons, List.all_cons, ih]
            rfl
      · rw [if_neg hl, isVs_ne hl]
    | cho ks =>
      by_cases hp : ∃ i u, vs = [.int i, u]
      · obtain ⟨i, u, rfl⟩ := hp
        rw [isV_choP]
        simp only [partsK]
        cases hin : numIn (.int i) 0 ((ks.length : Int) - 1) with
        | false => rfl
        | true =>
          rw [if_pos rfl, isVn_eq]
          cases ks[i.toNat]? with
          | none => rfl
          | some k =>
            show (true && isV k u) = (allP [(k, u, 1)] && true)
            unfold allP
            simp
      · rw [parts_choN fun i u z => hp ⟨i, u, z⟩]
        cases e : isV (.cho ks) (.tuple vs) with
        | false => rfl
        | true =>
          obtain ⟨i, u, k, e1, _⟩ := isV_cho.mp e
          cases e1
          exact absurd ⟨i, u, rfl⟩ hp
    | row q =>
      simp only [isV, partsK]
      show _ = (allP _ && true)
      unfold allP
      rw [Bool.and_true, List.all_map]
      rfl
    | set q =>
      simp only [isV, partsK]
      show _ = (allP _ && rising vs)
      unfold allP
      rw [List.all_map]
      rfl
    | bag q =>
      rw [isV_bag0]
      simp only [partsK]
      have e : vs.all (bagItem q) = (vs.all bagP && allP (vs.map (bagT q))) := by
        unfold allP
        rw [List.all_map]
        induction vs with
        | nil => rfl
        | cons p vs ih =>
          rw [List.all_cons, List.all_cons, List.all_cons, ih rfl]
          have e1 : bagItem q p = (bagP p && isV (bagT q p).1 (bagT q p).2.1) := by
            cases hb : bagP p with
            | true =>
              obtain ⟨u, c, rfl, hc⟩ := bagP_iff.mp hb
              show (isV q u && decide (1 ≤ c)) = (true && isV q u)
              rw [decide_eq_true hc, Bool.and_true, Bool.true_and]
            | false =>
              cases z : bagItem q p with
              | false => rfl
              | true =>
                obtain ⟨u, c, rfl, _, hc⟩ := bagItem_iff.mp z
                rw [bagP_iff.mpr ⟨u, c, rfl, hc⟩] at hb
                cases hb
          rw [e1]
          simp only [Function.comp]
          generalize bagP p = a1
          generalize vs.all bagP = a2
          generalize isV (bagT q p).1 (bagT q p).2.1 = a3
          generalize vs.all _ = a4
          cases a1 <;> cases a2 <;> cases a3 <;> cases a4 <;> rfl
      rw [e]
      cases vs.all bagP with
      | false => rfl
      | true => rfl
    | tab q r =>
      rw [isV_tab0]
      simp only [partsK]
      have e : vs.all (tabItem q r) = (vs.all tabP && allP ((vs.map (tabT q r)).flatten)) := by
        unfold allP
        induction vs with
        | nil => rfl
        | cons p vs ih =>
          rw [List.all_cons, List.all_cons, List.map_cons, List.flatten_cons, List.all_append, ih rfl]
          have e1 : tabItem q r p = (tabP p && (tabT q r p).all fun p => isV p.1 p.2.1) := by
            cases hb : tabP p with
            | true =>
              obtain ⟨u, w, rfl⟩ := tabP_iff.mp hb
              show (isV q u && isV r w) = (true && (isV q u && (isV r w && true)))
              rw [Bool.and_true, Bool.true_and]
            | false =>
              cases z : tabItem q r p with
              | false => rfl
              | true =>
                obtain ⟨u, w, rfl, _⟩ := tabItem_iff.mp z
                cases hb
          rw [e1]
          generalize tabP p = a1
          generalize vs.all tabP = a2
          generalize (tabT q r p).all _ = a3
          generalize (vs.map (tabT q r)).flatten.all _ = a4
          cases a1 <;> cases a2 <;> cases a3 <;> cases a4 <;> rfl
      rw [e]
      cases vs.all tabP with
      | false => rfl
      | true => rfl
theorem sumP_map {α : Type} (f : α → Part) (xs : List α) : sumP (xs.map f) = (xs.map fun x => (f x).2.2 * wt (f x).1 (f x).2.1).sum := by
  unfold sumP
  rw [List.map_map]
  rfl
theorem sumP_app (ps qs : List Part) : sumP (ps ++ qs) = sumP ps + sumP qs := by
  unfold sumP
  rw [List.map_append, List.sum_append]
/-- its weight is that of its parts and one -/
theorem wt_parts {k : Kd} {v : PyData} {ps : List Part} (hv : isV k v = true) (hp : partsK k v = some ps) : wt k v = 1 + sumP ps := by
  cases k with
  | num n =>
    obtain ⟨i, rfl, _⟩ := isV_num.mp hv
    simp only [partsK] at hp
    split at hp
    · cases hp
      rw [wt_num]
      rfl
    · cases hp
  | rcd ks =>
    obtain ⟨vs, rfl, hx⟩ := isV_rcd.mp hv
    simp only [partsK] at hp
    rw [if_pos (isVs_len hx)] at hp
    cases hp
    rw [wt_rcd, ← wts_zip _ _ (isVs_len hx)]
    unfold sumP
    clear hx hv
    congr 1
    induction ks generalizing vs with
    | nil => rfl
    | cons k ks ih =>
      cases vs with
      | nil => rfl
      | cons v vs =>
        rw [List.zipWith_cons_cons, List.zipWith_cons_cons, List.sum_cons, List.map_cons, List.sum_cons, ih]
        simp
  | cho ks =>
    obtain ⟨i, u, q, rfl, h0, hq, hu⟩ := isV_cho.mp hv
    simp only [partsK, hq] at hp
    split at hp
    · cases hp
      rw [wt_cho hq]
      simp [sumP]
    · cases hp
  | row q =>
    obtain ⟨vs, rfl, hx⟩ := isV_row.mp hv
    simp only [partsK] at hp
    cases hp
    rw [wt_row, sumP_map]
    simp
  | set q =>
    obtain ⟨vs, rfl, hx, _⟩ := isV_set.mp hv
    simp only [partsK] at hp
    cases hp
    rw [wt_set, sumP_map]
    simp
  | bag q =>
    obtain ⟨us, rfl, hx, _⟩ := isV_bag.mp hv
    simp only [partsK] at hp
    split at hp
    · cases hp
      rw [wt_bag, sumP_map]
      unfold ofBag
      rw [List.map_map]
      rfl
    · cases hp
  | tab q r =>
    obtain ⟨us, rfl, hx, _⟩ := isV_tab.mp hv
    simp only [partsK] at hp
    split at hp
    · cases hp
      rw [wt_tab]
      congr 1
      rename_i h1 h2
      clear hv hx h1 h2
      unfold ofTab
      induction us with
      | nil => rfl
      | cons p us ih =>
        rw [List.map_cons, List.sum_cons, List.map_cons, List.map_cons, List.flatten_cons, sumP_app, ih]
        congr 1
        show _ = sumP [(q, p.1, 1), (r, p.2, 1)]
        simp [sumP]
    · cases hp
/-- what the parts are -/
theorem part_of {k : Kd} {v : PyData} {ps : List Part} {d : Nat} (hp : partsK k v = some ps) (hc : Nc 1000 1000000 (d + 1) v) : ps.length ≤ 2000 ∧ ∀ p ∈ ps, p.1 ∈ k.inner ∧ Nc 1000 1000000 d p.2.1 ∧ 1 ≤ p.2.2 ∧ p.2.2 ≤ 1000000 := by
  have up : ∀ {y : PyData} {d : Nat}, Nc 1000 1000000 d y → Nc 1000 1000000 (d + 1) y := fun h => nc_mono (Nat.le_refl _) (Nat.le_refl _) _ _ _ (by omega) h
  by_cases hn : ∃ m, k = .num m
  · obtain ⟨m, rfl⟩ := hn
    have e : partsK (.num m) v = if numIn v 0 (m - 1) then some [] else none := by
      cases v <;> simp only [partsK]
    rw [e] at hp
    split at hp
    · cases hp
      exact ⟨Nat.zero_le _, fun p hp => nomatch hp⟩
    · cases hp
  have hnk : ∀ m, k ≠ .num m := fun m z => hn ⟨m, z⟩
  cases ht : isTup v with
  | false =>
    rw [parts_flat hnk ht] at hp
    cases hp
  | true =>
    obtain ⟨vs, rfl⟩ : ∃ vs, v = .tuple vs := by
      cases v with
      | tuple vs => exact ⟨vs, rfl⟩
      | _ => cases ht
    obtain ⟨hl, hall⟩ := hc
    cases k with
    | num m => exact absurd rfl (hnk m)
    | rcd ks =>
      simp only [partsK] at hp
      split at hp
      · rename_i h1
        cases hp
        refine ⟨by rw [List.length_zipWith]; omega, fun p hp => ?_⟩
        obtain ⟨j, hj⟩ := List.getElem?_of_mem hp
        rw [List.getElem?_zipWith] at hj
        cases e1 : ks[j]? with
        | none =>
          rw [e1] at hj
          cases hj
        | some q =>
          cases e2 : vs[j]? with
          | none =>
            rw [e1, e2] at hj
            cases hj
          | some u =>
            rw [e1, e2] at hj
            cases hj
            exact ⟨List.mem_of_getElem? e1, hall u (List.mem_of_getElem? e2), by show (1 : Int) ≤ 1; omega, by show (1 : Int) ≤ _; omega⟩
      · cases hp
    | cho ks =>
      by_cases hq : ∃ i u, vs = [.int i, u]
      · obtain ⟨i, u, rfl⟩ := hq
        simp only [partsK] at hp
        split at hp
        · cases e1 : ks[i.toNat]? with
          | none =>
            rw [e1] at hp
            cases hp
          | some q =>
            rw [e1] at hp
            cases hp
            refine ⟨by show 1 ≤ 2000; omega, fun p hp => ?_⟩
            cases List.mem_singleton.mp hp
            exact ⟨List.mem_of_getElem? e1, hall u (by simp), by show (1 : Int) ≤ 1; omega, by show (1 : Int) ≤ _; omega⟩
        · cases hp
      · rw [parts_choN fun i u z => hq ⟨i, u, z⟩] at hp
        cases hp
    | row q =>
      simp only [partsK] at hp
      cases hp
      refine ⟨by rw [List.length_map]; omega, fun p hp => ?_⟩
      obtain ⟨u, hu, rfl⟩ := List.mem_map.mp hp
      exact ⟨by simp [Kd.inner], hall u hu, by show (1 : Int) ≤ 1; omega, by show (1 : Int) ≤ _; omega⟩
    | set q =>
      simp only [partsK] at hp
      cases hp
      refine ⟨by rw [List.length_map]; omega, fun p hp => ?_⟩
      obtain ⟨u, hu, rfl⟩ := List.mem_map.mp hp
      exact ⟨by simp [Kd.inner], hall u hu, by show (1 : Int) ≤ 1; omega, by show (1 : Int) ≤ _; omega⟩
    | bag q =>
      simp only [partsK] at hp
      split at hp
      · rename_i h1
        cases hp
        refine ⟨by rw [List.length_map]; omega, fun p hp => ?_⟩
        obtain ⟨x, hx, rfl⟩ := List.mem_map.mp hp
        obtain ⟨u, c, rfl, hc⟩ := bagP_iff.mp (List.all_eq_true.mp h1 x hx)
        obtain ⟨e, rfl, _, h2⟩ := nc_tup (hall _ hx)
        have hb : c.natAbs ≤ 1000000 := nc_int.mp (h2 (.int c) (by simp))
        exact ⟨by simp [Kd.inner, bagT], up (h2 u (by simp)), hc, by show c ≤ _; omega⟩
      · cases hp
    | tab q r =>
      simp only [partsK] at hp
      split at hp
      · rename_i h1
        cases hp
        refine ⟨?_, fun p hp => ?_⟩
        · have : ∀ ws : List PyData, ((ws.map (tabT q r)).flatten).length ≤ 2 * ws.length := by
            intro ws
            induction ws with
            | nil => simp
            | cons w ws ih =>
              rw [List.map_cons, List.flatten_cons, List.length_append, List.length_cons]
              have : (tabT q r w).length ≤ 2 := by
                unfold tabT
                split
                · exact Nat.le_refl _
                · exact Nat.zero_le _
              omega
          have := this vs
          omega
        · obtain ⟨x, hx, hp⟩ := List.mem_flatten.mp hp
          obtain ⟨y, hy, rfl⟩ := List.mem_map.mp hx
          obtain ⟨u, w, rfl⟩ := tabP_iff.mp (List.all_eq_true.mp h1 y hy)
          obtain ⟨e, rfl, _, h2⟩ := nc_tup (hall _ hy)
          have hp' : p = (q, u, (1 : Int)) ∨ p = (r, w, (1 : Int)) := by
            rcases List.mem_cons.mp (show p ∈ [(q, u, (1 : Int)), (r, w, 1)] from hp) with z | z
            · exact .inl z
            · exact .inr (List.mem_singleton.mp z)
          rcases hp' with rfl | rfl
          · exact ⟨by simp [Kd.inner], up (h2 u (by simp)), by show (1 : Int) ≤ 1; omega, by show (1 : Int) ≤ _; omega⟩
          · exact ⟨by simp [Kd.inner], up (h2 w (by simp)), by show (1 : Int) ≤ 1; omega, by show (1 : Int) ≤ _; omega⟩
      · cases hp
end Km
namespace K02
open PySem PySem.Spec PyProof.Rows L2 Cg
def topS (i : Nat) : Stmt := PySem.Challenge.pw_corrigenda_k02_values_and_weights.main.body.getD i (.Pass ⟨0, 0, 0, 0⟩)
abbrev s_check_kind : Stmt := topS 13
abbrev s_check_value : Stmt := topS 14
abbrev s_weight : Stmt := topS 15
abbrev s_is_whole : Stmt := topS 16
abbrev s_is_within : Stmt := topS 17
abbrev s_is_tuple : Stmt := topS 18
abbrev s_inner_kinds : Stmt := topS 19
abbrev s_count_kinds : Stmt := topS 20
abbrev s_is_value : Stmt := topS 21
abbrev s_weigh : Stmt := topS 22
abbrev s_value_parts : Stmt := topS 23
abbrev s_record_parts : Stmt := topS 24
abbrev s_choice_parts : Stmt := topS 25
abbrev s_item_parts : Stmt := topS 26
abbrev s_bag_parts : Stmt := topS 27
abbrev s_table_parts : Stmt := topS 28
abbrev s_is_ordered : Stmt := topS 30
abbrev s_is_rising : Stmt := topS 31
abbrev s__law_box : Stmt := topS 33
abbrev s__law_take : Stmt := topS 34
abbrev s__law_pick : Stmt := topS 35
abbrev s__law_kind : Stmt := topS 36
abbrev s__law_inner : Stmt := topS 37
abbrev s__law_many : Stmt := topS 38
abbrev s__law_some_kind : Stmt := topS 39
abbrev s__law_value : Stmt := topS 40
abbrev s__law_weight : Stmt := topS 41
abbrev s__law_some_value : Stmt := topS 42
abbrev s__law_plain : Stmt := topS 43
abbrev s__law_class : Stmt := topS 44
abbrev s__law_number : Stmt := topS 45
abbrev s__law_rises : Stmt := topS 46
abbrev s__law_is_value : Stmt := topS 47
abbrev s__law_spoilt : Stmt := topS 48
abbrev s__law_told : Stmt := topS 49
abbrev s__law_long_sets : Stmt := topS 50
abbrev s_law : Stmt := topS 51
def tab_FEWEST_INSIDE : List (Str × Int) := [("record", 1), ("choice", 2)]
structure Txt (w : World) (K : PySem.W.Frag) (mg : Str → Option Value) where
  d_check_kind : DefAt K mg "check_kind" s_check_kind ["kind"]
  d_check_value : DefAt K mg "check_value" s_check_value ["kind", "value"]
  d_weight : DefAt K mg "weight" s_weight ["kind", "value"]
  d_is_whole : DefAt K mg "is_whole" s_is_whole ["thing"]
  d_is_within : DefAt K mg "is_within" s_is_within ["thing", "low", "high"]
  d_is_tuple : DefAt K mg "is_tuple" s_is_tuple ["thing", "many"]
  d_inner_kinds : DefAt K mg "inner_kinds" s_inner_kinds ["kind"]
  d_count_kinds : DefAt K mg "count_kinds" s_count_kinds ["kind", "deep"]
  d_is_value : DefAt K mg "is_value" s_is_value ["kind", "value"]
  d_weigh : DefAt K mg "weigh" s_weigh ["kind", "value", "limit"]
  d_value_parts : DefAt K mg "value_parts" s_value_parts ["kind", "value"]
  d_record_parts : DefAt K mg "record_parts" s_record_parts ["kind", "value"]
  d_choice_parts : DefAt K mg "choice_parts" s_choice_parts ["kind", "value"]
  d_item_parts : DefAt K mg "item_parts" s_item_parts ["kind", "value"]
  d_bag_parts : DefAt K mg "bag_parts" s_bag_parts ["kind", "value"]
  d_table_parts : DefAt K mg "table_parts" s_table_parts ["kind", "value"]
  d_is_ordered : DefAt K mg "is_ordered" s_is_ordered ["kind", "value"]
  d_is_rising : DefAt K mg "is_rising" s_is_rising ["values"]
  d__law_box : DefAt K mg "_law_box" s__law_box ["script"]
  d__law_take : DefAt K mg "_law_take" s__law_take ["box", "m"]
  d__law_pick : DefAt K mg "_law_pick" s__law_pick ["box", "menu"]
  d__law_kind : DefAt K mg "_law_kind" s__law_kind ["box", "deep"]
  d__law_inner : DefAt K mg "_law_inner" s__law_inner ["kind"]
  d__law_many : DefAt K mg "_law_many" s__law_many ["kind"]
  d__law_some_kind : DefAt K mg "_law_some_kind" s__law_some_kind ["box"]
  d__law_value : DefAt K mg "_law_value" s__law_value ["box", "kind", "most"]
  d__law_weight : DefAt K mg "_law_weight" s__law_weight ["kind", "v"]
  d__law_some_value : DefAt K mg "_law_some_value" s__law_some_value ["box", "kind"]
  d__law_plain : DefAt K mg "_law_plain" s__law_plain ["kind"]
  d__law_class : DefAt K mg "_law_class" s__law_class ["e"]
  d__law_number : DefAt K mg "_law_number" s__law_number ["x", "low", "high"]
  d__law_rises : DefAt K mg "_law_rises" s__law_rises ["x"]
  d__law_is_value : DefAt K mg "_law_is_value" s__law_is_value ["kind", "v"]
  d__law_spoilt : DefAt K mg "_law_spoilt" s__law_spoilt ["box", "x"]
  d__law_told : DefAt K mg "_law_told" s__law_told ["way", "kind", "v"]
  d__law_long_sets : DefAt K mg "_law_long_sets" s__law_long_sets ["box"]
  d_law : DefAt K mg "law" s_law ["script"]
  z_ValueError : mg "ValueError" = none
  z_abs : mg "abs" = none
  z_all : mg "all" = none
  z_bool : mg "bool" = none
  z_int : mg "int" = none
  z_isinstance : mg "isinstance" = none
  z_len : mg "len" = none
  z_list : mg "list" = none
  z_max : mg "max" = none
  z_range : mg "range" = none
  z_repr : mg "repr" = none
  z_set : mg "set" = none
  z_sorted : mg "sorted" = none
  z_str : mg "str" = none
  z_sum : mg "sum" = none
  z_tuple : mg "tuple" = none
  z_zip : mg "zip" = none
  t_MOST_DEEP : Tok
  k_MOST_DEEP : mg "MOST_DEEP" = some (.int 5 t_MOST_DEEP)
  t_MOST_INSIDE : Tok
  k_MOST_INSIDE : mg "MOST_INSIDE" = some (.int 4 t_MOST_INSIDE)
  t_MOST_KINDS : Tok
  k_MOST_KINDS : mg "MOST_KINDS" = some (.int 20 t_MOST_KINDS)
  t_MOST_NUMBER : Tok
  k_MOST_NUMBER : mg "MOST_NUMBER" = some (.int 1000 t_MOST_NUMBER)
  t_MOST_WEIGHT : Tok
  k_MOST_WEIGHT : mg "MOST_WEIGHT" = some (.int 400 t_MOST_WEIGHT)
  cl : Ek → Addr
  e_BadKind : Cgx.ErrC K (cl Ek.kind)
  g_BadKind : mg "BadKind" = some (.ref (cl Ek.kind))
  e_BadPatch : Cgx.ErrC K (cl Ek.patch)
  g_BadPatch : mg "BadPatch" = some (.ref (cl Ek.patch))
  e_BadValue : Cgx.ErrC K (cl Ek.value)
  g_BadValue : mg "BadValue" = some (.ref (cl Ek.value))
  e_CorrigendaError : Cgx.ErrC K (cl Ek.base)
  g_CorrigendaError : mg "CorrigendaError" = some (.ref (cl Ek.base))
  e_Unfit : Cgx.ErrC K (cl Ek.unfit)
  g_Unfit : mg "Unfit" = some (.ref (cl Ek.unfit))
  p_FEWEST_INSIDE : Addr
  g_FEWEST_INSIDE : mg "FEWEST_INSIDE" = some (.ref p_FEWEST_INSIDE)
  kd_FEWEST_INSIDE : KdAt w K p_FEWEST_INSIDE tab_FEWEST_INSIDE
  p_VALUE_PARTS : Addr
  g_VALUE_PARTS : mg "VALUE_PARTS" = some (.ref p_VALUE_PARTS)
  fd_VALUE_PARTS : FdAt w K p_VALUE_PARTS [("record", d_record_parts.f), ("choice", d_choice_parts.f), ("row", d_item_parts.f), ("set", d_item_parts.f), ("bag", d_bag_parts.f), ("table", d_table_parts.f)]
  isE : ∀ c : Ek, ExcC K (cl c)
  strE : ∀ c : Ek, PySem.W.findIn K (.ref (cl c)) "__str__" = some (some (.builtin "BaseException.__str__"))
  kOne : ∀ c d : Ek, PySem.W.kitOne K (.ref (cl c)) (.ref (cl d)) = some (subE c d)
  kVE : ∀ c : Ek, PySem.W.kitOne K (.ref (cl c)) (.type "ValueError") = some true
  exm : ∀ c : Ek, PySem.W.exmOne K (.ref (cl c)) (.ref (cl Ek.base)) = some true
def fn_VALUE_PARTS : List Str := ["record", "choice", "row", "set", "bag", "table"]
def tab_VALUE_PARTS {w : World} {K : PySem.W.Frag} {mg : Str → Option Value} (T : Txt w K mg) : List (Str × Addr) := [("record", T.d_record_parts.f), ("choice", T.d_choice_parts.f), ("row", T.d_item_parts.f), ("set", T.d_item_parts.f), ("bag", T.d_bag_parts.f), ("table", T.d_table_parts.f)]
/-! ### the trees -/
def m_is_whole (v_thing : PyData) : Tr PyData :=
  if (isInt v_thing) then (asB (PyData.bool (isBool v_thing))).bind fun x1 => Tr.ret (PyData.bool (!x1)) else Tr.ret (PyData.bool false)
def m_is_within (v_thing v_low v_high : PyData) : Tr PyData :=
  (m_is_whole v_thing).bind fun x3 => (asB x3).bind fun x4 => if x4 then (cLe v_low v_thing).bind fun x2 => if x2 then (cLe v_thing v_high).bind fun k => Tr.ret (PyData.bool k) else Tr.ret (PyData.bool false) else Tr.ret (PyData.bool false)
def m_inner_kinds (v_kind : PyData) : Tr PyData :=
  (if (!(isTup v_kind)) then Tr.ret true else (dLen v_kind).bind fun x5 => cLt x5 (PyData.int 2)).bind fun x30 => if x30 then Tr.ret PyData.none else (dIx v_kind (PyData.int 0)).bind fun v_word => (cEq v_word (PyData.str "table")).bind fun x29 => if x29 then ((dLen v_kind).bind fun x6 => cEq x6 (PyData.int 3)).bind fun x8 => if x8 then (asI (PyData.int 1)).bind fun x7 => dSl v_kind (some x7) none else Tr.ret PyData.none else ((dLen v_kind).bind fun x9 => cGt x9 (PyData.int 2)).bind fun x28 => if x28 then Tr.ret PyData.none else (cEq v_word (PyData.str "number")).bind fun x27 => if x27 then (((dIx v_kind (PyData.int 1)).bind fun x10 => m_is_within x10 (PyData.int 2) (PyData.int 1000)).bind fun x11 => (asB x11).bind fun x12 => Tr.ret x12).bind fun x13 => if x13 then Tr.ret (PyData.tuple []) else Tr.ret PyData.none else (cIn v_word (PyData.tuple [(PyData.str "row"), (PyData.str "set"), (PyData.str "bag")])).bind fun x26 => if x26 then (asI (PyData.int 1)).bind fun x14 => dSl v_kind (some x14) none else ((cNotIn v_word (PyData.tuple [(PyData.str "record"), (PyData.str "choice")])).bind fun x19 => if x19 then Tr.ret true else (((dIx v_kind (PyData.int 1)).bind fun x15 => Tr.ret (PyData.bool (isTup x15))).bind fun x16 => (asB x16).bind fun x17 => Tr.ret x17).bind fun x18 => Tr.ret (!x18)).bind fun x25 => if x25 then Tr.ret PyData.none else ((kdT tab_FEWEST_INSIDE v_word).bind fun x21 => ((dIx v_kind (PyData.int 1)).bind fun x20 => dLen x20).bind fun x22 => (cLe x21 x22).bind fun x23 => if x23 then cLe x22 (PyData.int 4) else Tr.ret false).bind fun x24 => if x24 then dIx v_kind (PyData.int 1) else Tr.ret PyData.none
def m_count_kinds : Nat → PyData → PyData → Tr PyData
  | 0, _, _ => Tr.bad
  | n + 1, v_kind, v_deep => (m_inner_kinds v_kind).bind fun v_inside => (if (isNon v_inside) then Tr.ret true else cLt v_deep (PyData.int 1)).bind fun x34 => if x34 then Tr.ret PyData.none else (Tr.ret (PyData.int 1)).bind fun v_total => (items v_inside).bind fun x33 => forC id (fun (v_inner : PyData) (x31 : PyData) => (((dSub v_deep (PyData.int 1)).bind fun x32 => m_count_kinds n v_inner x32).bind fun v_many => if (isNon v_many) then Tr.ret (Ct.rt PyData.none) else (asI x31).bind fun a => (asI v_many).bind fun b => (fun v_total => Tr.ret (Ct.nx v_total)) (.int (a + b)) : Tr (Ct (PyData)))) (fun x31 => Tr.ret x31) x33 v_total
def b_check_kind (v_kind : PyData) : Tr Unit :=
  ((m_count_kinds 8 v_kind (PyData.int 5)).noX).bind fun v_many => (if (isNon v_many) then Tr.ret true else cGt v_many (PyData.int 20)).bind fun x35 => if x35 then Tr.exc Ek.kind else Tr.ret ()
def m_check_kind (v_kind : PyData) : Tr PyData := (b_check_kind v_kind).bind fun _ => Tr.ret .none
def m_is_rising (v_values : PyData) : Tr PyData :=
  ((dLen v_values).bind fun x40 => (rangeT (PyData.int 1) x40).bind fun x41 => (mapT (fun v_at => (((dSub v_at (PyData.int 1)).bind fun x36 => dIx v_values x36).bind fun x37 => (dIx v_values v_at).bind fun x38 => cLtD x37 x38).bind fun x39 => Tr.ret (PyData.bool x39)) x41).bind fun x42 => Tr.ret (PyData.list x42)).bind fun x43 => dAll x43
def m_is_ordered (v_kind v_value : PyData) : Tr PyData :=
  ((dIx v_kind (PyData.int 0)).bind fun x44 => cEq x44 (PyData.str "set")).bind fun x50 => if x50 then m_is_rising v_value else ((dIx v_kind (PyData.int 0)).bind fun x45 => cIn x45 (PyData.tuple [(PyData.str "bag"), (PyData.str "table")])).bind fun x49 => if x49 then ((items v_value).bind fun x46 => (mapT (fun v_pair => dIx v_pair (PyData.int 0)) x46).bind fun x47 => Tr.ret (PyData.list x47)).bind fun x48 => m_is_rising x48 else Tr.ret (PyData.bool true)
def m_is_tuple (v_thing v_many : PyData) : Tr PyData :=
  if (isTup v_thing) then ((dLen v_thing).bind fun x51 => cEq x51 v_many).bind fun x52 => Tr.ret (PyData.bool x52) else Tr.ret (PyData.bool false)
def m_bag_parts (v_kind v_value : PyData) : Tr PyData :=
  (items v_value).bind fun x68 => forC id (fun (v_pair : PyData) (x53 : Unit) => (((((m_is_tuple v_pair (PyData.int 2)).bind fun x54 => (asB x54).bind fun x55 => Tr.ret x55).bind fun x56 => Tr.ret (!x56)).bind fun x63 => if x63 then Tr.ret true else ((((dIx v_pair (PyData.int 1)).bind fun x57 => m_is_whole x57).bind fun x58 => (asB x58).bind fun x59 => Tr.ret x59).bind fun x60 => Tr.ret (!x60)).bind fun x62 => if x62 then Tr.ret true else (dIx v_pair (PyData.int 1)).bind fun x61 => cLt x61 (PyData.int 1)).bind fun x64 => if x64 then Tr.ret (Ct.rt PyData.none) else Tr.ret (Ct.nx ()) : Tr (Ct (Unit)))) (fun x53 => (items v_value).bind fun x66 => (mapT (un2 fun v_item v_count => (dIx v_kind (PyData.int 1)).bind fun x65 => Tr.ret (PyData.tuple [x65, v_item, v_count])) x66).bind fun x67 => Tr.ret (PyData.list x67)) x68 ()
def m_choice_parts (v_kind v_value : PyData) : Tr PyData :=
  (((dLen v_value).bind fun x69 => cNe x69 (PyData.int 2)).bind fun x77 => if x77 then Tr.ret true else (((dIx v_value (PyData.int 0)).bind fun x72 => (((dIx v_kind (PyData.int 1)).bind fun x70 => dLen x70).bind fun x71 => dSub x71 (PyData.int 1)).bind fun x73 => m_is_within x72 (PyData.int 0) x73).bind fun x74 => (asB x74).bind fun x75 => Tr.ret x75).bind fun x76 => Tr.ret (!x76)).bind fun x83 => if x83 then Tr.ret PyData.none else (((dIx v_kind (PyData.int 1)).bind fun x78 => (dIx v_value (PyData.int 0)).bind fun x79 => dIx x78 x79).bind fun x80 => (dIx v_value (PyData.int 1)).bind fun x81 => Tr.ret (PyData.tuple [x80, x81, (PyData.int 1)])).bind fun x82 => Tr.ret (PyData.list [x82])
def m_item_parts (v_kind v_value : PyData) : Tr PyData :=
  (items v_value).bind fun x85 => (mapT (fun v_item => (dIx v_kind (PyData.int 1)).bind fun x84 => Tr.ret (PyData.tuple [x84, v_item, (PyData.int 1)])) x85).bind fun x86 => Tr.ret (PyData.list x86)
def m_record_parts (v_kind v_value : PyData) : Tr PyData :=
  ((dLen v_value).bind fun x88 => ((dIx v_kind (PyData.int 1)).bind fun x87 => dLen x87).bind fun x89 => cNe x88 x89).bind fun x93 => if x93 then Tr.ret PyData.none else (dIx v_kind (PyData.int 1)).bind fun x90 => (dZip x90 v_value).bind fun x91 => (mapT (un2 fun v_inner v_item => Tr.ret (PyData.tuple [v_inner, v_item, (PyData.int 1)])) x91).bind fun x92 => Tr.ret (PyData.list x92)
def m_table_parts (v_kind v_value : PyData) : Tr PyData :=
  (Tr.ret (PyData.list [])).bind fun v_parts => (items v_value).bind fun x105 => forC id (fun (v_pair : PyData) (x94 : PyData) => ((((m_is_tuple v_pair (PyData.int 2)).bind fun x95 => (asB x95).bind fun x96 => Tr.ret x96).bind fun x97 => Tr.ret (!x97)).bind fun x104 => if x104 then Tr.ret (Ct.rt PyData.none) else ((dIx v_kind (PyData.int 1)).bind fun x98 => (dIx v_pair (PyData.int 0)).bind fun x99 => Tr.ret (PyData.tuple [x98, x99, (PyData.int 1)])).bind fun x103 => (dApp x94 x103).bind fun v_parts => ((dIx v_kind (PyData.int 2)).bind fun x100 => (dIx v_pair (PyData.int 1)).bind fun x101 => Tr.ret (PyData.tuple [x100, x101, (PyData.int 1)])).bind fun x102 => (dApp v_parts x102).bind fun v_parts => Tr.ret (Ct.nx v_parts) : Tr (Ct (PyData)))) (fun x94 => Tr.ret (PyData.list (unL x94))) x105 v_parts
def fm_VALUE_PARTS (s : Str) : List PyData → Tr PyData :=
  if s = "record" then fun ds => match ds with | [a0, a1] => m_record_parts a0 a1 | _ => Tr.bad else
  if s = "choice" then fun ds => match ds with | [a0, a1] => m_choice_parts a0 a1 | _ => Tr.bad else
  if s = "row" then fun ds => match ds with | [a0, a1] => m_item_parts a0 a1 | _ => Tr.bad else
  if s = "set" then fun ds => match ds with | [a0, a1] => m_item_parts a0 a1 | _ => Tr.bad else
  if s = "bag" then fun ds => match ds with | [a0, a1] => m_bag_parts a0 a1 | _ => Tr.bad else
  if s = "table" then fun ds => match ds with | [a0, a1] => m_table_parts a0 a1 | _ => Tr.bad else
  fun _ => Tr.bad
def m_value_parts (v_kind v_value : PyData) : Tr PyData :=
  ((dIx v_kind (PyData.int 0)).bind fun x106 => cEq x106 (PyData.str "number")).bind fun x113 => if x113 then ((((dIx v_kind (PyData.int 1)).bind fun x107 => dSub x107 (PyData.int 1)).bind fun x108 => m_is_within v_value (PyData.int 0) x108).bind fun x109 => (asB x109).bind fun x110 => Tr.ret x110).bind fun x111 => if x111 then Tr.ret (PyData.list []) else Tr.ret PyData.none else if (!(isTup v_value)) then Tr.ret PyData.none else (dIx v_kind (PyData.int 0)).bind fun x112 => (fdT fn_VALUE_PARTS x112).bind fun a => fm_VALUE_PARTS a [v_kind, v_value]
def m_weigh : Nat → PyData → PyData → PyData → Tr PyData
  | 0, _, _, _ => Tr.bad
  | n + 1, v_kind, v_value, v_limit => (m_value_parts v_kind v_value).bind fun v_parts => (if (isNon v_parts) then Tr.ret true else (dLen v_parts).bind fun x114 => cGe x114 v_limit).bind fun x123 => if x123 then Tr.ret PyData.none else (Tr.ret (PyData.int 1)).bind fun v_total => (items v_parts).bind fun x122 => forC id (fun (d : PyData) (x115 : PyData) => un3 (fun v_inner v_item v_times => ((((dSub v_limit x115).bind fun x116 => dDiv x116 v_times).bind fun x117 => m_weigh n v_inner v_item x117).bind fun v_each => if (isNon v_each) then Tr.ret (Ct.rt PyData.none) else (dMul v_times v_each).bind fun x118 => (asI x115).bind fun a => (asI x118).bind fun b => (fun v_total => Tr.ret (Ct.nx v_total)) (.int (a + b)) : Tr (Ct (PyData)))) d) (fun x115 => ((m_is_ordered v_kind v_value).bind fun x119 => (asB x119).bind fun x120 => Tr.ret x120).bind fun x121 => if x121 then Tr.ret x115 else Tr.ret PyData.none) x122 v_total
def m_is_value (v_kind v_value : PyData) : Tr PyData :=
  (m_weigh 8 v_kind v_value (PyData.int 400)).bind fun x124 => Tr.ret (PyData.bool (!isNon x124))
def b_check_value (v_kind v_value : PyData) : Tr Unit :=
  (m_check_kind v_kind).bind fun _ => ((((m_is_value v_kind v_value).noX).bind fun x125 => (asB x125).bind fun x126 => Tr.ret x126).bind fun x127 => Tr.ret (!x127)).bind fun x128 => if x128 then Tr.exc Ek.value else Tr.ret ()
def m_check_value (v_kind v_value : PyData) : Tr PyData := (b_check_value v_kind v_value).bind fun _ => Tr.ret .none
def m_weight (v_kind v_value : PyData) : Tr PyData :=
  (m_check_kind v_kind).bind fun _ => ((m_weigh 8 v_kind v_value (PyData.int 400)).noX).bind fun v_heavy => if (isNon v_heavy) then Tr.exc Ek.value else Tr.ret v_heavy
def m__law_pick (v_menu : PyData) : Tr PyData :=
  ((dLen v_menu).bind fun x129 => takeT x129).bind fun x130 => dIx v_menu x130
def m__law_kind : Nat → PyData → Tr PyData
  | 0, _ => Tr.bad
  | n + 1, v_deep => (takeT (PyData.int 10)).bind fun v_sort => ((cLe v_deep (PyData.int 1)).bind fun x131 => if x131 then Tr.ret true else cLt v_sort (PyData.int 2)).bind fun x161 => if x161 then ((((takeT (PyData.int 999)).bind fun x132 => dAdd (PyData.int 2) x132).bind fun x133 => Tr.ret (PyData.list [(PyData.int 2), (PyData.int 2), (PyData.int 3), (PyData.int 5), (PyData.int 10), (PyData.int 1000), x133])).bind fun x134 => m__law_pick x134).bind fun x135 => Tr.ret (PyData.tuple [(PyData.str "number"), x135]) else (cLt v_sort (PyData.int 4)).bind fun x160 => if x160 then (((m__law_pick (PyData.list [(PyData.int 1), (PyData.int 2), (PyData.int 2), (PyData.int 3), (PyData.int 4)])).bind fun x137 => (rangeT (.int 0) x137).bind fun x138 => (mapT (fun v_k => (dSub v_deep (PyData.int 1)).bind fun x136 => m__law_kind n x136) x138).bind fun x139 => Tr.ret (PyData.list x139)).bind fun x140 => dTuple x140).bind fun x141 => Tr.ret (PyData.tuple [(PyData.str "record"), x141]) else (cEq v_sort (PyData.int 4)).bind fun x159 => if x159 then (((m__law_pick (PyData.list [(PyData.int 2), (PyData.int 2), (PyData.int 3), (PyData.int 4)])).bind fun x143 => (rangeT (.int 0) x143).bind fun x144 => (mapT (fun v_k => (dSub v_deep (PyData.int 1)).bind fun x142 => m__law_kind n x142) x144).bind fun x145 => Tr.ret (PyData.list x145)).bind fun x146 => dTuple x146).bind fun x147 => Tr.ret (PyData.tuple [(PyData.str "choice"), x147]) else (cLt v_sort (PyData.int 7)).bind fun x158 => if x158 then ((dSub v_deep (PyData.int 1)).bind fun x148 => m__law_kind n x148).bind fun x149 => Tr.ret (PyData.tuple [(PyData.str "row"), x149]) else (cLt v_sort (PyData.int 9)).bind fun x157 => if x157 then (m__law_pick (PyData.list [(PyData.str "set"), (PyData.str "bag")])).bind fun x151 => ((dSub v_deep (PyData.int 1)).bind fun x150 => m__law_kind n x150).bind fun x152 => Tr.ret (PyData.tuple [x151, x152]) else ((dSub v_deep (PyData.int 2)).bind fun x153 => m__law_kind n x153).bind fun x155 => ((dSub v_deep (PyData.int 1)).bind fun x154 => m__law_kind n x154).bind fun x156 => Tr.ret (PyData.tuple [(PyData.str "table"), x155, x156])
def m__law_inner (v_kind : PyData) : Tr PyData :=
  ((dIx v_kind (PyData.int 0)).bind fun x162 => cIn x162 (PyData.tuple [(PyData.str "record"), (PyData.str "choice")])).bind fun x168 => if x168 then (dIx v_kind (PyData.int 1)).bind fun x163 => dList x163 else ((dIx v_kind (PyData.int 0)).bind fun x164 => cNe x164 (PyData.str "number")).bind fun x167 => if x167 then ((asI (PyData.int 1)).bind fun x165 => dSl v_kind (some x165) none).bind fun x166 => dList x166 else Tr.ret (PyData.list [])
def m__law_many : Nat → PyData → Tr PyData
  | 0, _ => Tr.bad
  | n + 1, v_kind => (((m__law_inner v_kind).bind fun x169 => (items x169).bind fun x170 => (mapT (fun v_one => m__law_many n v_one) x170).bind fun x171 => Tr.ret (PyData.list x171)).bind fun x172 => dSum x172).bind fun x173 => dAdd (PyData.int 1) x173
def m__law_some_kind : Tr PyData :=
  ((m__law_pick (PyData.list [(PyData.int 2), (PyData.int 3), (PyData.int 3), (PyData.int 4), (PyData.int 5)])).bind fun x174 => m__law_kind 8 x174).bind fun v_kind => ((m__law_many 12 v_kind).bind fun x175 => cLe x175 (PyData.int 20)).bind fun x176 => if x176 then Tr.ret v_kind else Tr.ret (PyData.tuple [(PyData.str "row"), (PyData.tuple [(PyData.str "number"), (PyData.int 3)])])
def m__law_value : Nat → PyData → PyData → Tr PyData
  | 0, _, _ => Tr.bad
  | n + 1, v_kind, v_most => (dIx v_kind (PyData.int 0)).bind fun v_word => (cEq v_word (PyData.str "number")).bind fun x211 => if x211 then (dIx v_kind (PyData.int 1)).bind fun x177 => takeT x177 else (cEq v_word (PyData.str "record")).bind fun x210 => if x210 then ((dIx v_kind (PyData.int 1)).bind fun x178 => (items x178).bind fun x179 => (mapT (fun v_one => m__law_value n v_one v_most) x179).bind fun x180 => Tr.ret (PyData.list x180)).bind fun x181 => dTuple x181 else (cEq v_word (PyData.str "choice")).bind fun x209 => if x209 then (((dIx v_kind (PyData.int 1)).bind fun x182 => dLen x182).bind fun x183 => takeT x183).bind fun v_k => (((dIx v_kind (PyData.int 1)).bind fun x184 => dIx x184 v_k).bind fun x185 => m__law_value n x185 v_most).bind fun x186 => Tr.ret (PyData.tuple [v_k, x186]) else (((dAdd v_most (PyData.int 1)).bind fun x190 => takeT x190).bind fun x191 => (rangeT (.int 0) x191).bind fun x192 => (mapT (fun v_k => (dIx v_kind (PyData.int 1)).bind fun x188 => ((dSub v_most (PyData.int 1)).bind fun x187 => dMax (PyData.int 0) x187).bind fun x189 => m__law_value n x188 x189) x192).bind fun x193 => Tr.ret (PyData.list x193)).bind fun v_items => (cEq v_word (PyData.str "row")).bind fun x208 => if x208 then dTuple v_items else (dSortSet v_items).bind fun v_items => (cEq v_word (PyData.str "set")).bind fun x207 => if x207 then dTuple v_items else (cEq v_word (PyData.str "bag")).bind fun x206 => if x206 then ((items v_items).bind fun x196 => (mapT (fun v_one => ((takeT (PyData.int 3)).bind fun x194 => dAdd (PyData.int 1) x194).bind fun x195 => Tr.ret (PyData.tuple [v_one, x195])) x196).bind fun x197 => Tr.ret (PyData.list x197)).bind fun x198 => dTuple x198 else ((items v_items).bind fun x203 => (mapT (fun v_one => ((dIx v_kind (PyData.int 2)).bind fun x200 => ((dSub v_most (PyData.int 1)).bind fun x199 => dMax (PyData.int 0) x199).bind fun x201 => m__law_value n x200 x201).bind fun x202 => Tr.ret (PyData.tuple [v_one, x202])) x203).bind fun x204 => Tr.ret (PyData.list x204)).bind fun x205 => dTuple x205
def m__law_weight : Nat → PyData → PyData → Tr PyData
  | 0, _, _ => Tr.bad
  | n + 1, v_kind, v_v => (dIx v_kind (PyData.int 0)).bind fun v_word => (cEq v_word (PyData.str "number")).bind fun x248 => if x248 then Tr.ret (PyData.int 1) else (cEq v_word (PyData.str "record")).bind fun x247 => if x247 then (((dLen v_v).bind fun x215 => (rangeT (.int 0) x215).bind fun x216 => (mapT (fun v_k => ((dIx v_kind (PyData.int 1)).bind fun x212 => dIx x212 v_k).bind fun x213 => (dIx v_v v_k).bind fun x214 => m__law_weight n x213 x214) x216).bind fun x217 => Tr.ret (PyData.list x217)).bind fun x218 => dSum x218).bind fun x219 => dAdd (PyData.int 1) x219 else (cEq v_word (PyData.str "choice")).bind fun x246 => if x246 then (((dIx v_kind (PyData.int 1)).bind fun x220 => (dIx v_v (PyData.int 0)).bind fun x221 => dIx x220 x221).bind fun x222 => (dIx v_v (PyData.int 1)).bind fun x223 => m__law_weight n x222 x223).bind fun x224 => dAdd (PyData.int 1) x224 else (cIn v_word (PyData.tuple [(PyData.str "row"), (PyData.str "set")])).bind fun x245 => if x245 then (((items v_v).bind fun x226 => (mapT (fun v_one => (dIx v_kind (PyData.int 1)).bind fun x225 => m__law_weight n x225 v_one) x226).bind fun x227 => Tr.ret (PyData.list x227)).bind fun x228 => dSum x228).bind fun x229 => dAdd (PyData.int 1) x229 else (cEq v_word (PyData.str "bag")).bind fun x244 => if x244 then (((items v_v).bind fun x232 => (mapT (un2 fun v_one v_count => ((dIx v_kind (PyData.int 1)).bind fun x230 => m__law_weight n x230 v_one).bind fun x231 => dMul v_count x231) x232).bind fun x233 => Tr.ret (PyData.list x233)).bind fun x234 => dSum x234).bind fun x235 => dAdd (PyData.int 1) x235 else (((items v_v).bind fun x240 => (mapT (un2 fun v_key v_entry => ((dIx v_kind (PyData.int 1)).bind fun x236 => m__law_weight n x236 v_key).bind fun x238 => ((dIx v_kind (PyData.int 2)).bind fun x237 => m__law_weight n x237 v_entry).bind fun x239 => dAdd x238 x239) x240).bind fun x241 => Tr.ret (PyData.list x241)).bind fun x242 => dSum x242).bind fun x243 => dAdd (PyData.int 1) x243
def m__law_plain : Nat → PyData → Tr PyData
  | 0, _ => Tr.bad
  | n + 1, v_kind => ((dIx v_kind (PyData.int 0)).bind fun x249 => cEq x249 (PyData.str "number")).bind fun x261 => if x261 then Tr.ret (PyData.int 0) else ((dIx v_kind (PyData.int 0)).bind fun x250 => cEq x250 (PyData.str "record")).bind fun x260 => if x260 then ((dIx v_kind (PyData.int 1)).bind fun x251 => (items x251).bind fun x252 => (mapT (fun v_one => m__law_plain n v_one) x252).bind fun x253 => Tr.ret (PyData.list x253)).bind fun x254 => dTuple x254 else ((dIx v_kind (PyData.int 0)).bind fun x255 => cEq x255 (PyData.str "choice")).bind fun x259 => if x259 then (((dIx v_kind (PyData.int 1)).bind fun x256 => dIx x256 (PyData.int 0)).bind fun x257 => m__law_plain n x257).bind fun x258 => Tr.ret (PyData.tuple [(PyData.int 0), x258]) else Tr.ret (PyData.tuple [])
def m__law_some_value (v_kind : PyData) : Tr PyData :=
  ((m__law_pick (PyData.list [(PyData.int 1), (PyData.int 2), (PyData.int 3), (PyData.int 3), (PyData.int 5)])).bind fun x262 => m__law_value 8 v_kind x262).bind fun v_v => ((m__law_weight 8 v_kind v_v).bind fun x263 => cLe x263 (PyData.int 100)).bind fun x264 => if x264 then Tr.ret v_v else m__law_plain 8 v_kind
def m__law_number (v_x v_low v_high : PyData) : Tr PyData :=
  if (isInt v_x) then ((asB (PyData.bool (isBool v_x))).bind fun x265 => Tr.ret (PyData.bool (!x265))).bind fun x270 => (asB x270).bind fun x271 => if x271 then ((cLe v_low v_x).bind fun x266 => Tr.ret (PyData.bool x266)).bind fun x268 => (asB x268).bind fun x269 => if x269 then (cLe v_x v_high).bind fun x267 => Tr.ret (PyData.bool x267) else Tr.ret (PyData.bool false) else Tr.ret (PyData.bool false) else Tr.ret (PyData.bool false)
def m__law_rises (v_x : PyData) : Tr PyData :=
  (((dLen v_x).bind fun x276 => (rangeT (PyData.int 1) x276).bind fun x277 => (mapIf (fun v_k => (((dSub v_k (PyData.int 1)).bind fun x272 => dIx v_x x272).bind fun x273 => (dIx v_x v_k).bind fun x274 => cLtD x273 x274).bind fun x275 => Tr.ret (!x275)) (fun v_k => Tr.ret v_k) x277).bind fun x278 => Tr.ret (PyData.list x278)).bind fun x279 => cEq x279 (PyData.list [])).bind fun x280 => Tr.ret (PyData.bool x280)
def m__law_is_value : Nat → PyData → PyData → Tr PyData
  | 0, _, _ => Tr.bad
  | n + 1, v_kind, v_v => (dIx v_kind (PyData.int 0)).bind fun v_word => (cEq v_word (PyData.str "number")).bind fun x351 => if x351 then ((dIx v_kind (PyData.int 1)).bind fun x281 => dSub x281 (PyData.int 1)).bind fun x282 => m__law_number v_v (PyData.int 0) x282 else if (!(isTup v_v)) then Tr.ret (PyData.bool false) else (cEq v_word (PyData.str "record")).bind fun x350 => if x350 then (((dLen v_v).bind fun x284 => ((dIx v_kind (PyData.int 1)).bind fun x283 => dLen x283).bind fun x285 => cEq x284 x285).bind fun x286 => Tr.ret (PyData.bool x286)).bind fun x295 => (asB x295).bind fun x296 => if x296 then (((dLen v_v).bind fun x290 => (rangeT (.int 0) x290).bind fun x291 => (mapT (fun v_k => ((dIx v_kind (PyData.int 1)).bind fun x287 => dIx x287 v_k).bind fun x288 => (dIx v_v v_k).bind fun x289 => m__law_is_value n x288 x289) x291).bind fun x292 => Tr.ret (PyData.list x292)).bind fun x293 => cNotIn (PyData.bool false) x293).bind fun x294 => Tr.ret (PyData.bool x294) else Tr.ret (PyData.bool false) else (cEq v_word (PyData.str "choice")).bind fun x349 => if x349 then (((dLen v_v).bind fun x297 => cEq x297 (PyData.int 2)).bind fun x298 => Tr.ret (PyData.bool x298)).bind fun x309 => (asB x309).bind fun x310 => if x310 then ((dIx v_v (PyData.int 0)).bind fun x301 => (((dIx v_kind (PyData.int 1)).bind fun x299 => dLen x299).bind fun x300 => dSub x300 (PyData.int 1)).bind fun x302 => m__law_number x301 (PyData.int 0) x302).bind fun x307 => (asB x307).bind fun x308 => if x308 then ((dIx v_kind (PyData.int 1)).bind fun x303 => (dIx v_v (PyData.int 0)).bind fun x304 => dIx x303 x304).bind fun x305 => (dIx v_v (PyData.int 1)).bind fun x306 => m__law_is_value n x305 x306 else Tr.ret (PyData.bool false) else Tr.ret (PyData.bool false) else (cEq v_word (PyData.str "row")).bind fun x348 => if x348 then (((items v_v).bind fun x312 => (mapT (fun v_x => (dIx v_kind (PyData.int 1)).bind fun x311 => m__law_is_value n x311 v_x) x312).bind fun x313 => Tr.ret (PyData.list x313)).bind fun x314 => cNotIn (PyData.bool false) x314).bind fun x315 => Tr.ret (PyData.bool x315) else (cEq v_word (PyData.str "set")).bind fun x347 => if x347 then ((((items v_v).bind fun x317 => (mapT (fun v_x => (dIx v_kind (PyData.int 1)).bind fun x316 => m__law_is_value n x316 v_x) x317).bind fun x318 => Tr.ret (PyData.list x318)).bind fun x319 => cNotIn (PyData.bool false) x319).bind fun x320 => Tr.ret (PyData.bool x320)).bind fun x321 => (asB x321).bind fun x322 => if x322 then m__law_rises v_v else Tr.ret (PyData.bool false) else (items v_v).bind fun x346 => forC id (fun (v_pair : PyData) (x323 : Unit) => ((if (!(isTup v_pair)) then Tr.ret true else ((dLen v_pair).bind fun x324 => cNe x324 (PyData.int 2)).bind fun x330 => if x330 then Tr.ret true else (((dIx v_kind (PyData.int 1)).bind fun x325 => (dIx v_pair (PyData.int 0)).bind fun x326 => m__law_is_value n x325 x326).bind fun x327 => (asB x327).bind fun x328 => Tr.ret x328).bind fun x329 => Tr.ret (!x329)).bind fun x342 => if x342 then Tr.ret (Ct.rt (PyData.bool false)) else (((cEq v_word (PyData.str "bag")).bind fun x339 => if x339 then ((dIx v_pair (PyData.int 1)).bind fun x331 => (dPow (PyData.int 10) (PyData.int 9)).bind fun x332 => m__law_number x331 (PyData.int 1) x332).bind fun x333 => (asB x333).bind fun x334 => Tr.ret x334 else ((dIx v_kind (PyData.int 2)).bind fun x335 => (dIx v_pair (PyData.int 1)).bind fun x336 => m__law_is_value n x335 x336).bind fun x337 => (asB x337).bind fun x338 => Tr.ret x338).bind fun x340 => Tr.ret (!x340)).bind fun x341 => if x341 then Tr.ret (Ct.rt (PyData.bool false)) else Tr.ret (Ct.nx ()) : Tr (Ct (Unit)))) (fun x323 => ((items v_v).bind fun x343 => (mapT (fun v_pair => dIx v_pair (PyData.int 0)) x343).bind fun x344 => Tr.ret (PyData.list x344)).bind fun x345 => m__law_rises x345) x346 ()
def m__law_spoilt : Nat → PyData → Tr PyData
  | 0, _ => Tr.bad
  | n + 1, v_x => (if (!(isTup v_x)) then Tr.ret true else (cEq v_x (PyData.tuple [])).bind fun x353 => if x353 then Tr.ret true else (takeT (PyData.int 8)).bind fun x352 => cEq x352 (PyData.int 0)).bind fun x394 => if x394 then (if (isInt v_x) then if (!(isBool v_x)) then (takeT (PyData.int 3)).bind fun x354 => cGt x354 (PyData.int 0) else Tr.ret false else Tr.ret false).bind fun x356 => if x356 then (m__law_pick (PyData.list [(PyData.int 1), (PyData.int (-1)), (PyData.int 2), (PyData.int 1000)])).bind fun x355 => dAdd v_x x355 else m__law_pick (PyData.list [(PyData.int 0), (PyData.int 1), (PyData.int (-1)), (PyData.bool true), (PyData.bool false), PyData.none, (PyData.str "row"), (PyData.str "same"), (PyData.str "x"), (PyData.tuple []), (PyData.tuple [(PyData.str "same")]), (PyData.tuple [(PyData.int 0), (PyData.int 1)]), (PyData.tuple [(PyData.tuple [(PyData.int 0), (PyData.int 1)])]), (PyData.tuple [(PyData.str "number"), (PyData.int 2)]), (PyData.tuple [(PyData.str "keep"), (PyData.int 1)]), (PyData.tuple [(PyData.str "only"), (PyData.int 0)]), (PyData.tuple [(PyData.str "cut"), (PyData.int 0)])]) else ((dLen v_x).bind fun x357 => takeT x357).bind fun v_at => (takeT (PyData.int 6)).bind fun v_sort => (cEq v_sort (PyData.int 0)).bind fun x393 => if x393 then ((asI v_at).bind fun x358 => dSl v_x none (some x358)).bind fun x361 => ((dAdd v_at (PyData.int 1)).bind fun x359 => (asI x359).bind fun x360 => dSl v_x (some x360) none).bind fun x362 => dAdd x361 x362 else (cEq v_sort (PyData.int 1)).bind fun x392 => if x392 then (((asI v_at).bind fun x363 => dSl v_x none (some x363)).bind fun x365 => ((dIx v_x v_at).bind fun x364 => Tr.ret (PyData.tuple [x364])).bind fun x366 => dAdd x365 x366).bind fun x368 => ((asI v_at).bind fun x367 => dSl v_x (some x367) none).bind fun x369 => dAdd x368 x369 else ((cEq v_sort (PyData.int 2)).bind fun x370 => if x370 then cGt v_at (PyData.int 0) else Tr.ret false).bind fun x391 => if x391 then (((dSub v_at (PyData.int 1)).bind fun x371 => (asI x371).bind fun x372 => dSl v_x none (some x372)).bind fun x376 => ((dIx v_x v_at).bind fun x374 => ((dSub v_at (PyData.int 1)).bind fun x373 => dIx v_x x373).bind fun x375 => Tr.ret (PyData.tuple [x374, x375])).bind fun x377 => dAdd x376 x377).bind fun x380 => ((dAdd v_at (PyData.int 1)).bind fun x378 => (asI x378).bind fun x379 => dSl v_x (some x379) none).bind fun x381 => dAdd x380 x381 else (((asI v_at).bind fun x382 => dSl v_x none (some x382)).bind fun x385 => (((dIx v_x v_at).bind fun x383 => m__law_spoilt n x383).bind fun x384 => Tr.ret (PyData.tuple [x384])).bind fun x386 => dAdd x385 x386).bind fun x389 => ((dAdd v_at (PyData.int 1)).bind fun x387 => (asI x387).bind fun x388 => dSl v_x (some x388) none).bind fun x390 => dAdd x389 x390
def m__law_told (v_way v_kind v_v : PyData) : Tr PyData := catchT (fun c => .str (nmE c)) ((cEq v_way (PyData.int 0)).bind fun k => if k then m_check_value v_kind v_v else m_weight v_kind v_v)
def m__law_long_sets : Tr PyData :=
  (((takeT (PyData.int 189)).bind fun x395 => dAdd (PyData.int 2) x395).bind fun x397 => ((takeT (PyData.int 5)).bind fun x396 => dAdd (PyData.int 1) x396).bind fun x398 => Tr.ret (PyData.tuple [x397, x398])).bind (un2 fun v_n v_step => (rangeT (.int 0) v_n).bind fun xs => (mapT (fun v_k => dMul v_k v_step) xs).bind fun ys => (fun v_names => (((takeT (PyData.int 2)).bind fun x401 => cEq x401 (PyData.int 0)).bind fun x402 => Tr.ret (PyData.bool x402)).bind fun v_good => (((asB v_good).bind fun x403 => Tr.ret x403).bind fun x404 => Tr.ret (!x404)).bind fun x436 => (if x436 then (((dSub v_n (PyData.int 1)).bind fun x406 => takeT x406).bind fun v_at => (dSwap v_names v_at).bind fun v_names => Tr.ret v_names : Tr (PyData)) else Tr.ret v_names).bind fun x405 => (Tr.ret (PyData.tuple [(PyData.str "number"), (PyData.int 1000)])).bind fun v_number => ((((dTuple (PyData.list (unL x405))).bind fun x407 => Tr.ret (PyData.tuple [(PyData.tuple [(PyData.str "set"), v_number]), x407])).bind fun x416 => ((((items (PyData.list (unL x405))).bind fun x408 => (mapT (fun v_x => Tr.ret (PyData.tuple [v_x, (PyData.int 1)])) x408).bind fun x409 => Tr.ret (PyData.list x409)).bind fun x410 => dTuple x410).bind fun x411 => Tr.ret (PyData.tuple [(PyData.tuple [(PyData.str "bag"), v_number]), x411])).bind fun x417 => ((((items (PyData.list (unL x405))).bind fun x412 => (mapT (fun v_x => Tr.ret (PyData.tuple [v_x, (PyData.int 3)])) x412).bind fun x413 => Tr.ret (PyData.list x413)).bind fun x414 => dTuple x414).bind fun x415 => Tr.ret (PyData.tuple [(PyData.tuple [(PyData.str "table"), v_number, v_number]), x415])).bind fun x418 => Tr.ret (PyData.list [x416, x417, x418])).bind fun x419 => m__law_pick x419).bind (un2 fun v_kind v_v => ((((m__law_told (PyData.int 0) v_kind v_v).bind fun x420 => dRepr x420).bind fun x424 => ((((asB v_good).bind fun x421 => Tr.ret x421).bind fun x422 => if x422 then Tr.ret PyData.none else Tr.ret (PyData.str "value")).bind fun x423 => dRepr x423).bind fun x425 => cEq x424 x425).bind fun x426 => Tr.ret (PyData.bool x426)).bind fun x434 => (asB x434).bind fun x435 => if x435 then (((m__law_told (PyData.int 1) v_kind v_v).bind fun x427 => dRepr x427).bind fun x431 => ((((asB v_good).bind fun x428 => Tr.ret x428).bind fun x429 => if x429 then m__law_weight 8 v_kind v_v else Tr.ret (PyData.str "value")).bind fun x430 => dRepr x430).bind fun x432 => cEq x431 x432).bind fun x433 => Tr.ret (PyData.bool x433) else Tr.ret (PyData.bool false))) (PyData.list ys))
def m_law (v_script : PyData) : Tr PyData :=
  (boxT v_script).bind fun x505 => (rangeT (.int 0) (PyData.int 3)).bind fun x504 => forC id (fun (v_turn : PyData) (x437 : Unit) => ((m__law_some_kind ).bind fun v_kind => (m__law_some_value v_kind).bind fun v_v => (m__law_spoilt 16 v_v).bind fun v_spoilt => ((m__law_spoilt 16 v_spoilt).bind fun x462 => ((m__law_some_kind ).bind fun x461 => m__law_some_value x461).bind fun x463 => (m__law_pick (PyData.list [PyData.none, (PyData.bool true), (PyData.str ""), (PyData.tuple []), (PyData.int (-1)), (PyData.int 0), (PyData.tuple [(PyData.int 0)]), (PyData.tuple [(PyData.tuple [(PyData.int 0), (PyData.int 1)])])])).bind fun x464 => Tr.ret (PyData.tuple [v_v, v_spoilt, x462, x463, x464])).bind fun x465 => (items x465).bind fun x466 => forC Ct.rt (fun (v_x : PyData) (x438 : Unit) => (((m__law_is_value 8 v_kind v_x).bind fun x441 => (asB x441).bind fun x442 => if x442 then ((m__law_weight 8 v_kind v_x).bind fun x439 => cLe x439 (PyData.int 400)).bind fun x440 => Tr.ret (PyData.bool x440) else Tr.ret (PyData.bool false)).bind fun v_good => (((m__law_told (PyData.int 0) v_kind v_x).bind fun x443 => dRepr x443).bind fun x447 => ((((asB v_good).bind fun x444 => Tr.ret x444).bind fun x445 => if x445 then Tr.ret PyData.none else Tr.ret (PyData.str "value")).bind fun x446 => dRepr x446).bind fun x448 => cNe x447 x448).bind fun x460 => if x460 then Tr.ret (Ct.rt (PyData.bool false)) else (((m__law_told (PyData.int 1) v_kind v_x).bind fun x449 => dRepr x449).bind fun x453 => ((((asB v_good).bind fun x450 => Tr.ret x450).bind fun x451 => if x451 then m__law_weight 8 v_kind v_x else Tr.ret (PyData.str "value")).bind fun x452 => dRepr x452).bind fun x454 => cNe x453 x454).bind fun x459 => if x459 then Tr.ret (Ct.rt (PyData.bool false)) else (((m__law_told (PyData.int 0) (PyData.tuple [(PyData.str "number"), (PyData.int 1)]) v_x).bind fun x455 => cNe x455 (PyData.str "kind")).bind fun x457 => if x457 then Tr.ret true else (m__law_told (PyData.int 1) PyData.none v_x).bind fun x456 => cNe x456 (PyData.str "kind")).bind fun x458 => if x458 then Tr.ret (Ct.rt (PyData.bool false)) else Tr.ret (Ct.nx ()) : Tr (Ct (Unit)))) (fun x438 => Tr.ret (Ct.nx ())) x466 () : Tr (Ct (Unit)))) (fun x437 => ((takeT (PyData.int 3)).bind fun x467 => dAdd (PyData.int 398) x467).bind fun v_many => (Tr.ret (PyData.tuple [(PyData.tuple [(PyData.str "row"), (PyData.tuple [(PyData.str "number"), (PyData.int 2)])]), (PyData.tuple [(PyData.str "bag"), (PyData.tuple [(PyData.str "record"), (PyData.tuple [(PyData.tuple [(PyData.str "number"), (PyData.int 3)])])])])])).bind (un2 fun v_row v_bag => (takeT (PyData.int 399)).bind fun v_some => (((((dMul (PyData.tuple [(PyData.int 1)]) v_many).bind fun x468 => m__law_told (PyData.int 0) v_row x468).bind fun x469 => dRepr x469).bind fun x472 => (((cLt v_many (PyData.int 400)).bind fun x470 => if x470 then Tr.ret PyData.none else Tr.ret (PyData.str "value")).bind fun x471 => dRepr x471).bind fun x473 => cNe x472 x473).bind fun x480 => if x480 then Tr.ret true else (((dMul (PyData.tuple [(PyData.int 1)]) v_many).bind fun x474 => m__law_told (PyData.int 1) v_row x474).bind fun x475 => dRepr x475).bind fun x478 => (((cLt v_many (PyData.int 400)).bind fun x476 => if x476 then dAdd v_many (PyData.int 1) else Tr.ret (PyData.str "value")).bind fun x477 => dRepr x477).bind fun x479 => cNe x478 x479).bind fun x503 => if x503 then Tr.ret (PyData.bool false) else (((((dMul (PyData.tuple [(PyData.int 0)]) v_some).bind fun x481 => m__law_told (PyData.int 1) v_row x481).bind fun x482 => dRepr x482).bind fun x484 => ((dAdd v_some (PyData.int 1)).bind fun x483 => dRepr x483).bind fun x485 => cNe x484 x485).bind fun x489 => if x489 then Tr.ret true else ((m__law_long_sets ).bind fun x486 => (asB x486).bind fun x487 => Tr.ret x487).bind fun x488 => Tr.ret (!x488)).bind fun x502 => if x502 then Tr.ret (PyData.bool false) else ((((((dDiv v_many (PyData.int 2)).bind fun x490 => Tr.ret (PyData.tuple [(PyData.tuple [(PyData.int 2)]), x490])).bind fun x491 => Tr.ret (PyData.tuple [x491])).bind fun x492 => m__law_told (PyData.int 0) v_bag x492).bind fun x493 => dRepr x493).bind fun x499 => ((((((dDiv v_many (PyData.int 2)).bind fun x494 => dMul (PyData.int 2) x494).bind fun x495 => dAdd (PyData.int 1) x495).bind fun x496 => cLe x496 (PyData.int 400)).bind fun x497 => if x497 then Tr.ret PyData.none else Tr.ret (PyData.str "value")).bind fun x498 => dRepr x498).bind fun x500 => cEq x499 x500).bind fun x501 => Tr.ret (PyData.bool x501))) x504 ()
section
variable {P : Program} {w : World} {K : PySem.W.Frag} {mg : Str → Option Value} {base : Heap}
theorem sc_is_whole : FnScope ["thing"] ["thing"] (defScope s_is_whole) := ⟨rfl, rfl, rfl, by decide +kernel, rfl, by decide +kernel, by decide +kernel⟩
theorem ok_is_whole (T : Txt w K mg) : FnOk P w K mg base CX0 1 T.d_is_whole.f T.d_is_whole.fd ["thing"] (SpN K 1 (fun ds => match ds with | [v_thing] => m_is_whole v_thing | _ => Tr.bad)) :=
  fn_pure (cl := T.cl) T.d_is_whole.F sc_is_whole (fun cdv A outer s H E hr => ⟨_, (pss_cons (ps_ret (pe_and (pe_callB call_isi (by rfl) T.z_isinstance (by decide +kernel) (pa_cons (pv 0) (pa_cons (pe_bltn (v := V.ty "int") (u := .type "int") (by rfl) T.z_int (by decide +kernel) rfl) pa_nil))) (pe_one (pe_not (pe_callB call_isi (by rfl) T.z_isinstance (by decide +kernel) (pa_cons (pv 0) (pa_cons (pe_bltn (v := V.ty "bool") (u := .type "bool") (by rfl) T.z_bool (by decide +kernel) rfl) pa_nil))))))) pss_nil), fun ds hl => match ds, hl with
      | [v_thing], _ => StG.eq ((st_ret (ev_andV (ev_isi isTy_int (ev_var (i := 0) rfl)) (ev_notV (ev_isi isTy_bool (ev_var (i := 0) rfl)))))) (by simp only [m_is_whole, Tr.ret_bind, Tr.bind_assoc, Tr.bind_ret, asB_bool, asI_int, on1_one, on2g_two, on2_two])⟩)
theorem sc_is_within : FnScope ["thing", "low", "high"] ["thing", "low", "high"] (defScope s_is_within) := ⟨rfl, rfl, rfl, by decide +kernel, rfl, by decide +kernel, by decide +kernel⟩
theorem ok_is_within (T : Txt w K mg) : FnOk P w K mg base CX0 2 T.d_is_within.f T.d_is_within.fd ["thing", "low", "high"] (SpN K 3 (fun ds => match ds with | [v_thing, v_low, v_high] => m_is_within v_thing v_low v_high | _ => Tr.bad)) :=
  fn_pure (cl := T.cl) T.d_is_within.F sc_is_within (fun cdv A outer s H E hr => ⟨_, (pss_cons (ps_ret (pe_and (pe_call (ok_is_whole T) (hr.mono (by decide)) (by rfl) T.d_is_whole.g T.d_is_whole.F.kp T.d_is_whole.b .nil pass0 (pa_cons (pv 0) pa_nil)) (pe_one (pe_chain op_le op_le (pv 1) (pv 0) (pv 2))))) pss_nil), fun ds hl => match ds, hl with
      | [v_thing, v_low, v_high], _ => StG.eq ((st_ret (ev_andV (ev_callN (ea_cons (ev_var (i := 0) rfl) ea_nil)) (ev_chain rc_le rc_le (ev_var (i := 1) rfl) (ev_var (i := 0) rfl) (ev_var (i := 2) rfl))))) (by simp only [m_is_within, Tr.ret_bind, Tr.bind_assoc, Tr.bind_ret, asB_bool, asI_int, on1_one, on2g_two, on2_two])⟩)
theorem sc_inner_kinds : FnScope ["kind", "word"] ["kind"] (defScope s_inner_kinds) := ⟨rfl, rfl, rfl, by decide +kernel, rfl, by decide +kernel, by decide +kernel⟩
theorem ok_inner_kinds (T : Txt w K mg) : FnOk P w K mg base CX0 3 T.d_inner_kinds.f T.d_inner_kinds.fd ["kind"] (SpN K 1 (fun ds => match ds with | [v_kind] => m_inner_kinds v_kind | _ => Tr.bad)) :=
  fn_pure (cl := T.cl) T.d_inner_kinds.F sc_inner_kinds (fun cdv A outer s H E hr => ⟨_, (pss_cons (ps_if (PW.pt (pw_or (pt_not (pt_val (pe_callB call_isi (by rfl) T.z_isinstance (by decide +kernel) (pa_cons (pv 0) (pa_cons (pe_bltn (v := V.ty "tuple") (u := .type "tuple") (by rfl) T.z_tuple (by decide +kernel) rfl) pa_nil))))) (pw_or1 (pt_cmpR op_lt (pe_callB call_len_seq (by rfl) T.z_len (by decide +kernel) (pa_cons (pv 0) pa_nil)) pe_int (nomark _))))) (pss_cons (ps_ret pe_non) pss_nil) pss_nil) (pss_cons (ps_set (i := 1) sc_inner_kinds.nd rfl (Or.inl rfl) (pe_ix ix_seq (pv 0) pe_int (fun _ _ => rfl))) (pss_cons (ps_if (pt_cmpR (op_eqP (room64 hr)) (pv 1) pe_str (nomark _)) (pss_cons (ps_ret (pe_ifExp (pt_cmpR (op_eqP (room64 hr)) (pe_callB call_len_seq (by rfl) T.z_len (by decide +kernel) (pa_cons (pv 0) pa_nil)) pe_int (nomark _)) (pe_slice sl_P (pv 0) (po_some pe_int) po_none) pe_non)) pss_nil) pss_nil) (pss_cons (ps_if (pt_cmpR op_gt (pe_callB call_len_seq (by rfl) T.z_len (by decide +kernel) (pa_cons (pv 0) pa_nil)) pe_int (nomark _)) (pss_cons (ps_ret pe_non) pss_nil) pss_nil) (pss_cons (ps_if (pt_cmpR (op_eqP (room64 hr)) (pv 1) pe_str (nomark _)) (pss_cons (ps_ret (pe_ifExp (pt_val (pe_call (ok_is_within T) (hr.mono (by decide)) (by rfl) T.d_is_within.g T.d_is_within.F.kp T.d_is_within.b .nil pass0 (pa_cons (pe_ix ix_seq (pv 0) pe_int (fun _ _ => rfl)) (pa_cons pe_int (pa_cons (pe_glob (v := V.int 1000) (by rfl) T.k_MOST_NUMBER ⟨_, rfl⟩) pa_nil))))) (pe_tup pa_nil) pe_non)) pss_nil) pss_nil) (pss_cons (ps_if (pt_cmpR (op_inP (room65 hr)) (pv 1) (pe_tup (pa_cons pe_str (pa_cons pe_str (pa_cons pe_str pa_nil)))) rfl) (pss_cons (ps_ret (pe_slice sl_P (pv 0) (po_some pe_int) po_none)) pss_nil) pss_nil) (pss_cons (ps_if (PW.pt (pw_or (pt_cmpR (op_notInP (room65 hr)) (pv 1) (pe_tup (pa_cons pe_str (pa_cons pe_str pa_nil))) rfl) (pw_or1 (pt_not (pt_val (pe_callB call_isi (by rfl) T.z_isinstance (by decide +kernel) (pa_cons (pe_ix ix_seq (pv 0) pe_int (fun _ _ => rfl)) (pa_cons (pe_bltn (v := V.ty "tuple") (u := .type "tuple") (by rfl) T.z_tuple (by decide +kernel) rfl) pa_nil)))))))) (pss_cons (ps_ret pe_non) pss_nil) pss_nil) (pss_cons (ps_ret (pe_ifExp (pt_chain op_le op_le (pe_ix ix_kdict (pe_glob (v := V.ref T.p_FEWEST_INSIDE) (by rfl) T.g_FEWEST_INSIDE rfl) (pv 1) (fun _ _ => rfl)) (pe_callB call_len_seq (by rfl) T.z_len (by decide +kernel) (pa_cons (pe_ix ix_seq (pv 0) pe_int (fun _ _ => rfl)) pa_nil)) (pe_glob (v := V.int 4) (by rfl) T.k_MOST_INSIDE ⟨_, rfl⟩)) (pe_ix ix_seq (pv 0) pe_int (fun _ _ => rfl)) pe_non)) pss_nil)))))))), fun ds hl => match ds, hl with
      | [v_kind], _ => StG.eq ((st_if (et_or (et_not (et_B (ev_isi isTy_tuple (ev_var (i := 0) rfl)))) (et_cmp rc_lt (ev_cb1 rk_len (ev_var (i := 0) rfl)) ev_int)) (st_ret ev_non) (st_asg (i := 1) (fun _ _ => rfl) (ev_op rr_ix (ev_var (i := 0) rfl) ev_int) (fun v_word => (st_if (et_cmp rc_eq (ev_var (i := 1) rfl) ev_str) (st_ret (ev_if (et_cmp rc_eq (ev_cb1 rk_len (ev_var (i := 0) rfl)) ev_int) (ev_sl rs_P (ev_var (i := 0) rfl) (eo_some ev_int) eo_none) ev_non)) (st_if (et_cmp rc_gt (ev_cb1 rk_len (ev_var (i := 0) rfl)) ev_int) (st_ret ev_non) (st_if (et_cmp rc_eq (ev_var (i := 1) rfl) ev_str) (st_ret (ev_if (et_B (ev_callN (ea_cons (ev_op rr_ix (ev_var (i := 0) rfl) ev_int) (ea_cons ev_int (ea_cons ev_int ea_nil))))) (ev_tup ea_nil) ev_non)) (st_if (et_cmp rc_in (ev_var (i := 1) rfl) (ev_tup (ea_cons ev_str (ea_cons ev_str (ea_cons ev_str ea_nil))))) (st_ret (ev_sl rs_P (ev_var (i := 0) rfl) (eo_some ev_int) eo_none)) (st_if (et_or (et_cmp rc_notIn (ev_var (i := 1) rfl) (ev_tup (ea_cons ev_str (ea_cons ev_str ea_nil)))) (et_not (et_B (ev_isi isTy_tuple (ev_op rr_ix (ev_var (i := 0) rfl) ev_int))))) (st_ret ev_non) (st_ret (ev_if (et_chain rc_le rc_le (ev_kd T.kd_FEWEST_INSIDE (ev_var (i := 1) rfl)) (ev_cb1 rk_len (ev_op rr_ix (ev_var (i := 0) rfl) ev_int)) ev_int) (ev_op rr_ix (ev_var (i := 0) rfl) ev_int) ev_non))))))))))) (by simp only [m_inner_kinds, Tr.ret_bind, Tr.bind_assoc, Tr.bind_ret, asB_bool, asI_int, on1_one, on2g_two, on2_two])⟩)
theorem sc_count_kinds : FnScope ["kind", "deep", "inside", "total", "inner", "many"] ["kind", "deep"] (defScope s_count_kinds) := ⟨rfl, rfl, rfl, by decide +kernel, rfl, by decide +kernel, by decide +kernel⟩
theorem rk_count_kinds (T : Txt w K mg) : ∀ n : Nat, (FnOk P w K mg base CX0 (3 + n) T.d_count_kinds.f T.d_count_kinds.fd ["kind", "deep"] (SpN K 2 (fun ds => match ds with | [v_kind, v_deep] => m_count_kinds n v_kind v_deep | _ => Tr.bad)))
  | 0 => fn_never (spN_bad fun ds hl => match ds, hl with | [v_kind, v_deep], _ => by simp only [m_count_kinds])
  | n + 1 => by
    have ih := rk_count_kinds T n
    have ih_count_kinds := ih
    exact fn_pure (cl := T.cl) T.d_count_kinds.F sc_count_kinds (fun cdv A outer s H E hr => ⟨_, (pss_cons (ps_set (i := 2) sc_count_kinds.nd rfl (Or.inl rfl) (pe_call (ok_inner_kinds T) (hr.mono (Nat.le_trans (by decide : 3 ≤ 3) (Nat.le_add_right 3 n))) (by rfl) T.d_inner_kinds.g T.d_inner_kinds.F.kp T.d_inner_kinds.b .nil pass0 (pa_cons (pv 0) pa_nil))) (pss_cons (ps_if (PW.pt (pw_or (pt_cmpR op_isN (pv 2) pe_non (nomark _)) (pw_or1 (pt_cmpR op_lt (pv 1) pe_int (nomark _))))) (pss_cons (ps_ret pe_non) pss_nil) pss_nil) (pss_cons (ps_set (i := 3) sc_count_kinds.nd rfl (Or.inl rfl) pe_int) (pss_cons (ps_for PassesOwn.never rfl (pi_seq (pv 2)) (pg_name (i := 4) sc_count_kinds.nd rfl (Or.inl rfl)) (pss_cons (ps_set (i := 5) sc_count_kinds.nd rfl (Or.inl rfl) (pe_call ih_count_kinds (hr.mono (Nat.le_refl _)) (by rfl) T.d_count_kinds.g T.d_count_kinds.F.kp T.d_count_kinds.b .nil pass0 (pa_cons (pv 4) (pa_cons (pe_op op_sub (pv 1) pe_int) pa_nil)))) (pss_cons (ps_if (pt_cmpR op_isN (pv 5) pe_non (nomark _)) (pss_cons (ps_ret pe_non) pss_nil) pss_nil) (pss_cons (ps_aug (i := 3) sc_count_kinds.nd rfl (Or.inl rfl) (pv 5) ip_add) pss_nil)))) (pss_cons (ps_ret (pv 3)) pss_nil))))), fun ds hl => match ds, hl with
          | [v_kind, v_deep], _ => StG.eq ((st_asg (i := 2) (fun _ _ => rfl) (ev_callN (ea_cons (ev_var (i := 0) rfl) ea_nil)) (fun v_inside => (st_if (et_or (et_isN (ev_var (i := 2) rfl)) (et_cmp rc_lt (ev_var (i := 1) rfl) ev_int)) (st_ret ev_non) (st_asg (i := 3) (fun _ _ => rfl) ev_int (fun v_total => (st_forS1 (S1 := PyData) (ρs := fun (x31 : PyData) => [.dat v_kind, .dat v_deep, .dat v_inside, .dat x31, .any, .any]) (r := id) (i := 4) (s0 := v_total) (fun _ _ => rfl) (fun _ => rfl) (ev_var (i := 2) rfl) (.same _ (.same _ (.same _ (.same _ (.same _ (.same _ .nil)))))) (fun _ => rfl) (fun v_inner x31 => (st_asg (i := 5) (fun _ _ => rfl) (ev_callN (ea_cons (ev_var (i := 4) rfl) (ea_cons (ev_op rr_sub (ev_var (i := 1) rfl) ev_int) ea_nil))) (fun v_many => (st_if (et_isN (ev_var (i := 5) rfl)) (st_rt (r := Ct.rt) (fun _ => rfl) ev_non) (st_aug (i := 3) (op := fun i j => i + j) (fun _ _ => rfl) rfl (ev_var (i := 5) rfl) (fun v_total => (st_nx (b := Ct.nx v_total) (s := v_total) rfl (.same _ (.same _ (.same _ (.same _ (.any rfl (.any rfl .nil))))))))))))) (fun x31 => (st_ret (ev_var (i := 3) rfl)))))))))) (by simp only [m_count_kinds, Tr.ret_bind, Tr.bind_assoc, Tr.bind_ret, asB_bool, asI_int, on1_one, on2g_two, on2_two])⟩)
theorem ok_count_kinds (T : Txt w K mg) : FnOk P w K mg base CX0 11 T.d_count_kinds.f T.d_count_kinds.fd ["kind", "deep"] (SpN K 2 (fun ds => match ds with | [v_kind, v_deep] => m_count_kinds 8 v_kind v_deep | _ => Tr.bad)) := (rk_count_kinds T 8)
theorem sc_check_kind : FnScope ["kind", "many"] ["kind"] (defScope s_check_kind) := ⟨rfl, rfl, rfl, by decide +kernel, rfl, by decide +kernel, by decide +kernel⟩
theorem ok_check_kind (T : Txt w K mg) : FnOk P w K mg base (Cgx.CT P w) 12 T.d_check_kind.f T.d_check_kind.fd ["kind"] (SpP K T.cl 1 (fun ds => ((fun ds => match ds with | [v_kind] => b_check_kind v_kind | _ => Tr.bad) ds).bind fun _ => Tr.ret .none)) :=
  fn_raise0 (cl := T.cl) T.d_check_kind.F sc_check_kind (fun cdv A outer s H E hr => ⟨_, (fun _ => [.any, .any]), (pss_cons (ps_set (i := 1) sc_check_kind.nd rfl (Or.inl rfl) (pe_call (ok_count_kinds T) (hr.mono (by decide)) (by rfl) T.d_count_kinds.g T.d_count_kinds.F.kp T.d_count_kinds.b .nil pass0 (pa_cons (pv 0) (pa_cons (pe_glob (v := V.int 5) (by rfl) T.k_MOST_DEEP ⟨_, rfl⟩) pa_nil)))) (pss_cons (ps_if (PW.pt (pw_or (pt_cmpR op_isN (pv 1) pe_non (nomark _)) (pw_or1 (pt_cmpR op_gt (pv 1) (pe_glob (v := V.int 20) (by rfl) T.k_MOST_KINDS ⟨_, rfl⟩) (nomark _))))) (pss_cons (Cgx.ps_raise0 rfl (Cgx.lets_of rfl rfl rfl rfl) T.e_BadKind T.g_BadKind (by rfl)) pss_nil) pss_nil) pss_nil)), fun ds hl => match ds, hl with
      | [v_kind], _ => StG.eq ((st_asg (i := 1) (fun _ _ => rfl) (ev_callX (ea_cons (ev_var (i := 0) rfl) (ea_cons ev_int ea_nil))) (fun v_many => (st_if (et_or (et_isN (ev_var (i := 1) rfl)) (et_cmp rc_gt (ev_var (i := 1) rfl) ev_int)) (st_raise (c := Ek.kind)) (st_nx (b := ()) (s := ()) rfl (.any rfl (.any rfl .nil))))))) (by simp only [b_check_kind, Tr.ret_bind, Tr.bind_assoc, Tr.bind_ret, asB_bool, asI_int, on1_one, on2g_two, on2_two])⟩)
theorem sc_is_rising : FnScope ["values", "at"] ["values"] (defScope s_is_rising) := ⟨rfl, rfl, rfl, by decide +kernel, rfl, by decide +kernel, by decide +kernel⟩
theorem ok_is_rising (T : Txt w K mg) : FnOk P w K mg base CX0 1 T.d_is_rising.f T.d_is_rising.fd ["values"] (SpN K 1 (fun ds => match ds with | [v_values] => m_is_rising v_values | _ => Tr.bad)) :=
  fn_pure (cl := T.cl) T.d_is_rising.F sc_is_rising (fun cdv A outer s H E hr => ⟨_, (pss_cons (ps_ret (pe_callB (cr_all rfl) (by rfl) T.z_all (by decide +kernel) (pa_cons (pe_lc (own := [("at", 1)]) rfl sc_is_rising.nd (pi_range2 (by rfl) T.z_range (pa_cons pe_int (pa_cons (pe_callB call_len_seq (by rfl) T.z_len (by decide +kernel) (pa_cons (pv 0) pa_nil)) pa_nil))) (blkOk_by (N := ["values", "at"]) (sc := defScope s_is_rising) (by decide +kernel)) (fun _ _ _ _ _ => pg_name (i := 1) sc_is_rising.nd rfl (Or.inl rfl)) (fun _ _ _ _ _ => pts_nil) (fun _ _ _ _ _ => (pe_cmpR (Cgo.op_ltD (room64 hr)) (pe_ix ix_seq (pv 0) (pe_op op_sub (pv 1) pe_int) (fun _ _ => rfl)) (pe_ix ix_seq (pv 0) (pv 1) (fun _ _ => rfl)) (nomark _)))) pa_nil))) pss_nil), fun ds hl => match ds, hl with
      | [v_values], _ => StG.eq ((st_ret (ev_cb1 rk_all (ev_lcR2n (fun _ _ => rfl) ev_int (ev_cb1 rk_len (ev_var (i := 0) rfl)) rfl (fun v_at => (ev_cmp rc_ltD (ev_op rr_ix (ev_var (i := 0) rfl) (ev_op rr_sub (ev_var (i := 1) rfl) ev_int)) (ev_op rr_ix (ev_var (i := 0) rfl) (ev_var (i := 1) rfl)))))))) (by simp only [m_is_rising, Tr.ret_bind, Tr.bind_assoc, Tr.bind_ret, asB_bool, asI_int, on1_one, on2g_two, on2_two])⟩)
theorem sc_is_ordered : FnScope ["kind", "value", "pair"] ["kind", "value"] (defScope s_is_ordered) := ⟨rfl, rfl, rfl, by decide +kernel, rfl, by decide +kernel, by decide +kernel⟩
theorem ok_is_ordered (T : Txt w K mg) : FnOk P w K mg base CX0 2 T.d_is_ordered.f T.d_is_ordered.fd ["kind", "value"] (SpN K 2 (fun ds => match ds with | [v_kind, v_value] => m_is_ordered v_kind v_value | _ => Tr.bad)) :=
  fn_pure (cl := T.cl) T.d_is_ordered.F sc_is_ordered (fun cdv A outer s H E hr => ⟨_, (pss_cons (ps_if (pt_cmpR (op_eqP (room64 hr)) (pe_ix ix_seq (pv 0) pe_int (fun _ _ => rfl)) pe_str (nomark _)) (pss_cons (ps_ret (pe_call (ok_is_rising T) (hr.mono (by decide)) (by rfl) T.d_is_rising.g T.d_is_rising.F.kp T.d_is_rising.b .nil pass0 (pa_cons (pv 1) pa_nil))) pss_nil) pss_nil) (pss_cons (ps_if (pt_cmpR (op_inP (room65 hr)) (pe_ix ix_seq (pv 0) pe_int (fun _ _ => rfl)) (pe_tup (pa_cons pe_str (pa_cons pe_str pa_nil))) rfl) (pss_cons (ps_ret (pe_call (ok_is_rising T) (hr.mono (by decide)) (by rfl) T.d_is_rising.g T.d_is_rising.F.kp T.d_is_rising.b .nil pass0 (pa_cons (pe_lc (own := [("pair", 2)]) rfl sc_is_ordered.nd (pi_seq (pv 1)) (blkOk_by (N := ["kind", "value", "pair"]) (sc := defScope s_is_ordered) (by decide +kernel)) (fun _ _ _ _ _ => pg_name (i := 2) sc_is_ordered.nd rfl (Or.inl rfl)) (fun _ _ _ _ _ => pts_nil) (fun _ _ _ _ _ => (pe_ix ix_seq (pv 2) pe_int (fun _ _ => rfl)))) pa_nil))) pss_nil) pss_nil) (pss_cons (ps_ret pe_bl) pss_nil))), fun ds hl => match ds, hl with
      | [v_kind, v_value], _ => StG.eq ((st_if (et_cmp rc_eq (ev_op rr_ix (ev_var (i := 0) rfl) ev_int) ev_str) (st_ret (ev_callN (ea_cons (ev_var (i := 1) rfl) ea_nil))) (st_if (et_cmp rc_in (ev_op rr_ix (ev_var (i := 0) rfl) ev_int) (ev_tup (ea_cons ev_str (ea_cons ev_str ea_nil)))) (st_ret (ev_callN (ea_cons (ev_lcS1 (fun _ _ => rfl) (ev_var (i := 1) rfl) rfl (fun v_pair => (ev_op rr_ix (ev_var (i := 2) rfl) ev_int))) ea_nil))) (st_ret ev_bl)))) (by simp only [m_is_ordered, Tr.ret_bind, Tr.bind_assoc, Tr.bind_ret, asB_bool, asI_int, on1_one, on2g_two, on2_two])⟩)
theorem sc_is_tuple : FnScope ["thing", "many"] ["thing", "many"] (defScope s_is_tuple) := ⟨rfl, rfl, rfl, by decide +kernel, rfl, by decide +kernel, by decide +kernel⟩
theorem ok_is_tuple (T : Txt w K mg) : FnOk P w K mg base CX0 1 T.d_is_tuple.f T.d_is_tuple.fd ["thing", "many"] (SpN K 2 (fun ds => match ds with | [v_thing, v_many] => m_is_tuple v_thing v_many | _ => Tr.bad)) :=
  fn_pure (cl := T.cl) T.d_is_tuple.F sc_is_tuple (fun cdv A outer s H E hr => ⟨_, (pss_cons (ps_ret (pe_and (pe_callB call_isi (by rfl) T.z_isinstance (by decide +kernel) (pa_cons (pv 0) (pa_cons (pe_bltn (v := V.ty "tuple") (u := .type "tuple") (by rfl) T.z_tuple (by decide +kernel) rfl) pa_nil))) (pe_one (pe_cmpR (op_eqP (room64 hr)) (pe_callB call_len_seq (by rfl) T.z_len (by decide +kernel) (pa_cons (pv 0) pa_nil)) (pv 1) (nomark _))))) pss_nil), fun ds hl => match ds, hl with
      | [v_thing, v_many], _ => StG.eq ((st_ret (ev_andV (ev_isi isTy_tuple (ev_var (i := 0) rfl)) (ev_cmp rc_eq (ev_cb1 rk_len (ev_var (i := 0) rfl)) (ev_var (i := 1) rfl))))) (by simp only [m_is_tuple, Tr.ret_bind, Tr.bind_assoc, Tr.bind_ret, asB_bool, asI_int, on1_one, on2g_two, on2_two])⟩)
theorem sc_bag_parts : FnScope ["kind", "value", "pair", "item", "count"] ["kind", "value"] (defScope s_bag_parts) := ⟨rfl, rfl, rfl, by decide +kernel, rfl, by decide +kernel, by decide +kernel⟩
theorem ok_bag_parts (T : Txt w K mg) : FnOk P w K mg base CX0 2 T.d_bag_parts.f T.d_bag_parts.fd ["kind", "value"] (SpN K 2 (fun ds => match ds with | [v_kind, v_value] => m_bag_parts v_kind v_value | _ => Tr.bad)) :=
  fn_pure (cl := T.cl) T.d_bag_parts.F sc_bag_parts (fun cdv A outer s H E hr => ⟨_, (pss_cons (ps_for PassesOwn.never rfl (pi_seq (pv 1)) (pg_name (i := 2) sc_bag_parts.nd rfl (Or.inl rfl)) (pss_cons (ps_if (PW.pt (pw_or (pt_not (pt_val (pe_call (ok_is_tuple T) (hr.mono (by decide)) (by rfl) T.d_is_tuple.g T.d_is_tuple.F.kp T.d_is_tuple.b .nil pass0 (pa_cons (pv 2) (pa_cons pe_int pa_nil))))) (pw_or (pt_not (pt_val (pe_call (ok_is_whole T) (hr.mono (by decide)) (by rfl) T.d_is_whole.g T.d_is_whole.F.kp T.d_is_whole.b .nil pass0 (pa_cons (pe_ix ix_seq (pv 2) pe_int (fun _ _ => rfl)) pa_nil)))) (pw_or1 (pt_cmpR op_lt (pe_ix ix_seq (pv 2) pe_int (fun _ _ => rfl)) pe_int (nomark _)))))) (pss_cons (ps_ret pe_non) pss_nil) pss_nil) pss_nil)) (pss_cons (ps_ret (pe_lc (own := [("item", 3), ("count", 4)]) rfl sc_bag_parts.nd (pi_seq (pv 1)) (blkOk_by (N := ["kind", "value", "pair", "item", "count"]) (sc := defScope s_bag_parts) (by decide +kernel)) (fun _ _ _ _ _ => pg_tup rfl (pgs_cons (pg_name (i := 3) sc_bag_parts.nd rfl (Or.inl rfl)) (pgs_cons (pg_name (i := 4) sc_bag_parts.nd rfl (Or.inl rfl)) pgs_nil))) (fun _ _ _ _ _ => pts_nil) (fun _ _ _ _ _ => (pe_tup (pa_cons (pe_ix ix_seq (pv 0) pe_int (fun _ _ => rfl)) (pa_cons (pv 3) (pa_cons (pv 4) pa_nil))))))) pss_nil)), fun ds hl => match ds, hl with
      | [v_kind, v_value], _ => StG.eq ((st_forS1 (S1 := Unit) (ρs := fun (x53 : Unit) => [.dat v_kind, .dat v_value, .any, .any, .any]) (r := id) (i := 2) (s0 := ()) (fun _ _ => rfl) (fun _ => rfl) (ev_var (i := 1) rfl) (.same _ (.same _ (.same _ (.same _ (.same _ .nil))))) (fun _ => rfl) (fun v_pair x53 => (st_if (et_or (et_not (et_B (ev_callN (ea_cons (ev_var (i := 2) rfl) (ea_cons ev_int ea_nil))))) (et_or (et_not (et_B (ev_callN (ea_cons (ev_op rr_ix (ev_var (i := 2) rfl) ev_int) ea_nil)))) (et_cmp rc_lt (ev_op rr_ix (ev_var (i := 2) rfl) ev_int) ev_int))) (st_rt (r := Ct.rt) (fun _ => rfl) ev_non) (st_nx (b := Ct.nx ()) (s := ()) rfl (.same _ (.same _ (.any rfl (.same _ (.same _ .nil)))))))) (fun x53 => (st_ret (ev_lcS2 (fun _ _ => rfl) (ev_var (i := 1) rfl) rfl (fun v_item v_count => (ev_tup (ea_cons (ev_op rr_ix (ev_var (i := 0) rfl) ev_int) (ea_cons (ev_var (i := 3) rfl) (ea_cons (ev_var (i := 4) rfl) ea_nil)))))))))) (by simp only [m_bag_parts, Tr.ret_bind, Tr.bind_assoc, Tr.bind_ret, asB_bool, asI_int, on1_one, on2g_two, on2_two])⟩)
theorem sc_choice_parts : FnScope ["kind", "value"] ["kind", "value"] (defScope s_choice_parts) := ⟨rfl, rfl, rfl, by decide +kernel, rfl, by decide +kernel, by decide +kernel⟩
theorem ok_choice_parts (T : Txt w K mg) : FnOk P w K mg base CX0 3 T.d_choice_parts.f T.d_choice_parts.fd ["kind", "value"] (SpN K 2 (fun ds => match ds with | [v_kind, v_value] => m_choice_parts v_kind v_value | _ => Tr.bad)) :=
  fn_pure (cl := T.cl) T.d_choice_parts.F sc_choice_parts (fun cdv A outer s H E hr => ⟨_, (pss_cons (ps_if (PW.pt (pw_or (pt_cmpR (op_neP (room64 hr)) (pe_callB call_len_seq (by rfl) T.z_len (by decide +kernel) (pa_cons (pv 1) pa_nil)) pe_int (nomark _)) (pw_or1 (pt_not (pt_val (pe_call (ok_is_within T) (hr.mono (by decide)) (by rfl) T.d_is_within.g T.d_is_within.F.kp T.d_is_within.b .nil pass0 (pa_cons (pe_ix ix_seq (pv 1) pe_int (fun _ _ => rfl)) (pa_cons pe_int (pa_cons (pe_op op_sub (pe_callB call_len_seq (by rfl) T.z_len (by decide +kernel) (pa_cons (pe_ix ix_seq (pv 0) pe_int (fun _ _ => rfl)) pa_nil)) pe_int) pa_nil))))))))) (pss_cons (ps_ret pe_non) pss_nil) pss_nil) (pss_cons (ps_ret (pe_lst (pa_cons (pe_tup (pa_cons (pe_ix ix_seq (pe_ix ix_seq (pv 0) pe_int (fun _ _ => rfl)) (pe_ix ix_seq (pv 1) pe_int (fun _ _ => rfl)) (fun _ _ => rfl)) (pa_cons (pe_ix ix_seq (pv 1) pe_int (fun _ _ => rfl)) (pa_cons pe_int pa_nil)))) pa_nil))) pss_nil)), fun ds hl => match ds, hl with
      | [v_kind, v_value], _ => StG.eq ((st_if (et_or (et_cmp rc_ne (ev_cb1 rk_len (ev_var (i := 1) rfl)) ev_int) (et_not (et_B (ev_callN (ea_cons (ev_op rr_ix (ev_var (i := 1) rfl) ev_int) (ea_cons ev_int (ea_cons (ev_op rr_sub (ev_cb1 rk_len (ev_op rr_ix (ev_var (i := 0) rfl) ev_int)) ev_int) ea_nil))))))) (st_ret ev_non) (st_ret (ev_lst (ea_cons (ev_tup (ea_cons (ev_op rr_ix (ev_op rr_ix (ev_var (i := 0) rfl) ev_int) (ev_op rr_ix (ev_var (i := 1) rfl) ev_int)) (ea_cons (ev_op rr_ix (ev_var (i := 1) rfl) ev_int) (ea_cons ev_int ea_nil)))) ea_nil))))) (by simp only [m_choice_parts, Tr.ret_bind, Tr.bind_assoc, Tr.bind_ret, asB_bool, asI_int, on1_one, on2g_two, on2_two])⟩)
theorem sc_item_parts : FnScope ["kind", "value", "item"] ["kind", "value"] (defScope s_item_parts) := ⟨rfl, rfl, rfl, by decide +kernel, rfl, by decide +kernel, by decide +kernel⟩
theorem ok_item_parts (T : Txt w K mg) : FnOk P w K mg base CX0 1 T.d_item_parts.f T.d_item_parts.fd ["kind", "value"] (SpN K 2 (fun ds => match ds with | [v_kind, v_value] => m_item_parts v_kind v_value | _ => Tr.bad)) :=
  fn_pure (cl := T.cl) T.d_item_parts.F sc_item_parts (fun cdv A outer s H E hr => ⟨_, (pss_cons (ps_ret (pe_lc (own := [("item", 2)]) rfl sc_item_parts.nd (pi_seq (pv 1)) (blkOk_by (N := ["kind", "value", "item"]) (sc := defScope s_item_parts) (by decide +kernel)) (fun _ _ _ _ _ => pg_name (i := 2) sc_item_parts.nd rfl (Or.inl rfl)) (fun _ _ _ _ _ => pts_nil) (fun _ _ _ _ _ => (pe_tup (pa_cons (pe_ix ix_seq (pv 0) pe_int (fun _ _ => rfl)) (pa_cons (pv 2) (pa_cons pe_int pa_nil))))))) pss_nil), fun ds hl => match ds, hl with
      | [v_kind, v_value], _ => StG.eq ((st_ret (ev_lcS1 (fun _ _ => rfl) (ev_var (i := 1) rfl) rfl (fun v_item => (ev_tup (ea_cons (ev_op rr_ix (ev_var (i := 0) rfl) ev_int) (ea_cons (ev_var (i := 2) rfl) (ea_cons ev_int ea_nil)))))))) (by simp only [m_item_parts, Tr.ret_bind, Tr.bind_assoc, Tr.bind_ret, asB_bool, asI_int, on1_one, on2g_two, on2_two])⟩)
theorem sc_record_parts : FnScope ["kind", "value", "inner", "item"] ["kind", "value"] (defScope s_record_parts) := ⟨rfl, rfl, rfl, by decide +kernel, rfl, by decide +kernel, by decide +kernel⟩
theorem ok_record_parts (T : Txt w K mg) : FnOk P w K mg base CX0 1 T.d_record_parts.f T.d_record_parts.fd ["kind", "value"] (SpN K 2 (fun ds => match ds with | [v_kind, v_value] => m_record_parts v_kind v_value | _ => Tr.bad)) :=
  fn_pure (cl := T.cl) T.d_record_parts.F sc_record_parts (fun cdv A outer s H E hr => ⟨_, (pss_cons (ps_if (pt_cmpR (op_neP (room64 hr)) (pe_callB call_len_seq (by rfl) T.z_len (by decide +kernel) (pa_cons (pv 1) pa_nil)) (pe_callB call_len_seq (by rfl) T.z_len (by decide +kernel) (pa_cons (pe_ix ix_seq (pv 0) pe_int (fun _ _ => rfl)) pa_nil)) (nomark _)) (pss_cons (ps_ret pe_non) pss_nil) pss_nil) (pss_cons (ps_ret (pe_lc (own := [("inner", 2), ("item", 3)]) rfl sc_record_parts.nd (RZ.pi_zipA (by rfl) T.z_zip (pa_cons (pe_ix ix_seq (pv 0) pe_int (fun _ _ => rfl)) (pa_cons (pv 1) pa_nil))) (blkOk_by (N := ["kind", "value", "inner", "item"]) (sc := defScope s_record_parts) (by decide +kernel)) (fun _ _ _ _ _ => pg_tup rfl (pgs_cons (pg_name (i := 2) sc_record_parts.nd rfl (Or.inl rfl)) (pgs_cons (pg_name (i := 3) sc_record_parts.nd rfl (Or.inl rfl)) pgs_nil))) (fun _ _ _ _ _ => pts_nil) (fun _ _ _ _ _ => (pe_tup (pa_cons (pv 2) (pa_cons (pv 3) (pa_cons pe_int pa_nil))))))) pss_nil)), fun ds hl => match ds, hl with
      | [v_kind, v_value], _ => StG.eq ((st_if (et_cmp rc_ne (ev_cb1 rk_len (ev_var (i := 1) rfl)) (ev_cb1 rk_len (ev_op rr_ix (ev_var (i := 0) rfl) ev_int))) (st_ret ev_non) (st_ret (ev_lcZ2 (fun _ _ => rfl) (ev_op rr_ix (ev_var (i := 0) rfl) ev_int) (ev_var (i := 1) rfl) rfl (fun v_inner v_item => (ev_tup (ea_cons (ev_var (i := 2) rfl) (ea_cons (ev_var (i := 3) rfl) (ea_cons ev_int ea_nil))))))))) (by simp only [m_record_parts, Tr.ret_bind, Tr.bind_assoc, Tr.bind_ret, asB_bool, asI_int, on1_one, on2g_two, on2_two])⟩)
theorem sc_table_parts : FnScope ["kind", "value", "parts", "pair"] ["kind", "value"] (defScope s_table_parts) := ⟨rfl, rfl, rfl, by decide +kernel, rfl, by decide +kernel, by decide +kernel⟩
theorem ok_table_parts (T : Txt w K mg) : FnOk P w K mg base CX0 2 T.d_table_parts.f T.d_table_parts.fd ["kind", "value"] (SpN K 2 (fun ds => match ds with | [v_kind, v_value] => m_table_parts v_kind v_value | _ => Tr.bad)) :=
  fn_pure (cl := T.cl) T.d_table_parts.F sc_table_parts (fun cdv A outer s H E hr => ⟨_, (pss_cons (ps_set (i := 2) sc_table_parts.nd rfl (Or.inl rfl) (pe_lst pa_nil)) (pss_cons (ps_for PassesOwn.never rfl (pi_seq (pv 1)) (pg_name (i := 3) sc_table_parts.nd rfl (Or.inl rfl)) (pss_cons (ps_if (pt_not (pt_val (pe_call (ok_is_tuple T) (hr.mono (by decide)) (by rfl) T.d_is_tuple.g T.d_is_tuple.F.kp T.d_is_tuple.b .nil pass0 (pa_cons (pv 3) (pa_cons pe_int pa_nil))))) (pss_cons (ps_ret pe_non) pss_nil) pss_nil) (pss_cons (ps_expr (pe_bm PySem.F.plainAttrs_list PySem.F.slot_list_append PySem.F.type_list_append mt_append (pv 2) (pa_cons (pe_tup (pa_cons (pe_ix ix_seq (pv 0) pe_int (fun _ _ => rfl)) (pa_cons (pe_ix ix_seq (pv 3) pe_int (fun _ _ => rfl)) (pa_cons pe_int pa_nil)))) pa_nil))) (pss_cons (ps_expr (pe_bm PySem.F.plainAttrs_list PySem.F.slot_list_append PySem.F.type_list_append mt_append (pv 2) (pa_cons (pe_tup (pa_cons (pe_ix ix_seq (pv 0) pe_int (fun _ _ => rfl)) (pa_cons (pe_ix ix_seq (pv 3) pe_int (fun _ _ => rfl)) (pa_cons pe_int pa_nil)))) pa_nil))) pss_nil)))) (pss_cons (ps_ret (pv 2)) pss_nil))), fun ds hl => match ds, hl with
      | [v_kind, v_value], _ => StG.eq ((st_accNew (fun _ _ => rfl) (i := 2) (fun v_parts => (st_forS1 (S1 := PyData) (ρs := fun (x94 : PyData) => [.dat v_kind, .dat v_value, .acc (unL x94), .any]) (r := id) (i := 3) (s0 := v_parts) (fun _ _ => rfl) (fun _ => rfl) (ev_var (i := 1) rfl) (.same _ (.same _ (.same _ (.same _ .nil)))) (fun _ => rfl) (fun v_pair x94 => (st_if (et_not (et_B (ev_callN (ea_cons (ev_var (i := 3) rfl) (ea_cons ev_int ea_nil))))) (st_rt (r := Ct.rt) (fun _ => rfl) ev_non) (st_append (fun _ _ => rfl) (i := 2) (a := x94) rfl (ev_tup (ea_cons (ev_op rr_ix (ev_var (i := 0) rfl) ev_int) (ea_cons (ev_op rr_ix (ev_var (i := 3) rfl) ev_int) (ea_cons ev_int ea_nil)))) (fun v_parts => (st_append (fun _ _ => rfl) (i := 2) (a := v_parts) rfl (ev_tup (ea_cons (ev_op rr_ix (ev_var (i := 0) rfl) ev_int) (ea_cons (ev_op rr_ix (ev_var (i := 3) rfl) ev_int) (ea_cons ev_int ea_nil)))) (fun v_parts => (st_nx (b := Ct.nx v_parts) (s := v_parts) rfl (.same _ (.same _ (.same _ (.any rfl .nil))))))))))) (fun x94 => (st_freeze (fun _ _ => rfl) (i := 2) rfl (st_ret (ev_var (i := 2) rfl)))))))) (by simp only [m_table_parts, Tr.ret_bind, Tr.bind_assoc, Tr.bind_ret, asB_bool, asI_int, on1_one, on2g_two, on2_two])⟩)
theorem fr_VALUE_PARTS (T : Txt w K mg) : ∀ q ∈ tab_VALUE_PARTS T, FnR P w K mg base CX0 3 q.2 (fun vs H Q E => SpN K 2 (fm_VALUE_PARTS q.1) (vs ++ []) H Q E) ∧ PySem.W.keepIn K (.ref q.2) = true := by
  intro q hq
  simp only [tab_VALUE_PARTS, List.mem_cons, List.not_mem_nil, or_false] at hq
  rcases hq with rfl | rfl | rfl | rfl | rfl | rfl
  · have e : fm_VALUE_PARTS "record" = (fun ds => match ds with | [a0, a1] => m_record_parts a0 a1 | _ => Tr.bad) := by
      unfold fm_VALUE_PARTS
      rw [if_pos rfl]
    exact ⟨by
      show FnR P w K mg base CX0 3 T.d_record_parts.f (fun vs H Q E => SpN K 2 (fm_VALUE_PARTS "record") (vs ++ []) H Q E)
      rw [e]
      exact FnOk.raw ((ok_record_parts T).mono (by decide)) T.d_record_parts.b .nil, T.d_record_parts.F.kp⟩
  · have e : fm_VALUE_PARTS "choice" = (fun ds => match ds with | [a0, a1] => m_choice_parts a0 a1 | _ => Tr.bad) := by
      unfold fm_VALUE_PARTS
      rw [if_neg (by decide), if_pos rfl]
    exact ⟨by
      show FnR P w K mg base CX0 3 T.d_choice_parts.f (fun vs H Q E => SpN K 2 (fm_VALUE_PARTS "choice") (vs ++ []) H Q E)
      rw [e]
      exact FnOk.raw ((ok_choice_parts T).mono (by decide)) T.d_choice_parts.b .nil, T.d_choice_parts.F.kp⟩
  · have e : fm_VALUE_PARTS "row" = (fun ds => match ds with | [a0, a1] => m_item_parts a0 a1 | _ => Tr.bad) := by
      unfold fm_VALUE_PARTS
      rw [if_neg (by decide), if_neg (by decide), if_pos rfl]
    exact ⟨by
      show FnR P w K mg base CX0 3 T.d_item_parts.f (fun vs H Q E => SpN K 2 (fm_VALUE_PARTS "row") (vs ++ []) H Q E)
      rw [e]
      exact FnOk.raw ((ok_item_parts T).mono (by decide)) T.d_item_parts.b .nil, T.d_item_parts.F.kp⟩
  · have e : fm_VALUE_PARTS "set" = (fun ds => match ds with | [a0, a1] => m_item_parts a0 a1 | _ => Tr.bad) := by
      unfold fm_VALUE_PARTS
      rw [if_neg (by decide), if_neg (by decide), if_neg (by decide), if_pos rfl]
    exact ⟨by
      show FnR P w K mg base CX0 3 T.d_item_parts.f (fun vs H Q E => SpN K 2 (fm_VALUE_PARTS "set") (vs ++ []) H Q E)
      rw [e]
      exact FnOk.raw ((ok_item_parts T).mono (by decide)) T.d_item_parts.b .nil, T.d_item_parts.F.kp⟩
  · have e : fm_VALUE_PARTS "bag" = (fun ds => match ds with | [a0, a1] => m_bag_parts a0 a1 | _ => Tr.bad) := by
      unfold fm_VALUE_PARTS
      rw [if_neg (by decide), if_neg (by decide), if_neg (by decide), if_neg (by decide), if_pos rfl]
    exact ⟨by
      show FnR P w K mg base CX0 3 T.d_bag_parts.f (fun vs H Q E => SpN K 2 (fm_VALUE_PARTS "bag") (vs ++ []) H Q E)
      rw [e]
      exact FnOk.raw ((ok_bag_parts T).mono (by decide)) T.d_bag_parts.b .nil, T.d_bag_parts.F.kp⟩
  · have e : fm_VALUE_PARTS "table" = (fun ds => match ds with | [a0, a1] => m_table_parts a0 a1 | _ => Tr.bad) := by
      unfold fm_VALUE_PARTS
      rw [if_neg (by decide), if_neg (by decide), if_neg (by decide), if_neg (by decide), if_neg (by decide), if_pos rfl]
    exact ⟨by
      show FnR P w K mg base CX0 3 T.d_table_parts.f (fun vs H Q E => SpN K 2 (fm_VALUE_PARTS "table") (vs ++ []) H Q E)
      rw [e]
      exact FnOk.raw ((ok_table_parts T).mono (by decide)) T.d_table_parts.b .nil, T.d_table_parts.F.kp⟩
theorem sc_value_parts : FnScope ["kind", "value", "action"] ["kind", "value"] (defScope s_value_parts) := ⟨rfl, rfl, rfl, by decide +kernel, rfl, by decide +kernel, by decide +kernel⟩
theorem ok_value_parts (T : Txt w K mg) : FnOk P w K mg base CX0 4 T.d_value_parts.f T.d_value_parts.fd ["kind", "value"] (SpN K 2 (fun ds => match ds with | [v_kind, v_value] => m_value_parts v_kind v_value | _ => Tr.bad)) :=
  fn_pure (cl := T.cl) T.d_value_parts.F sc_value_parts (fun cdv A outer s H E hr => ⟨_, (pss_cons (ps_if (pt_cmpR (op_eqP (room64 hr)) (pe_ix ix_seq (pv 0) pe_int (fun _ _ => rfl)) pe_str (nomark _)) (pss_cons (ps_ret (pe_ifExp (pt_val (pe_call (ok_is_within T) (hr.mono (by decide)) (by rfl) T.d_is_within.g T.d_is_within.F.kp T.d_is_within.b .nil pass0 (pa_cons (pv 1) (pa_cons pe_int (pa_cons (pe_op op_sub (pe_ix ix_seq (pv 0) pe_int (fun _ _ => rfl)) pe_int) pa_nil))))) (pe_lst pa_nil) pe_non)) pss_nil) pss_nil) (pss_cons (ps_if (pt_not (pt_val (pe_callB call_isi (by rfl) T.z_isinstance (by decide +kernel) (pa_cons (pv 1) (pa_cons (pe_bltn (v := V.ty "tuple") (u := .type "tuple") (by rfl) T.z_tuple (by decide +kernel) rfl) pa_nil))))) (pss_cons (ps_ret pe_non) pss_nil) pss_nil) (pss_cons (ps_set (i := 2) sc_value_parts.nd rfl (Or.inl rfl) (pe_ix ix_kdict (pe_glob (v := V.ref T.p_VALUE_PARTS) (by rfl) T.g_VALUE_PARTS rfl) (pe_ix ix_seq (pv 0) pe_int (fun _ _ => rfl)) (fun _ _ => rfl))) (pss_cons (ps_ret (pe_alt fun (k : { q : Str × Addr // q ∈ tab_VALUE_PARTS T }) => ItX.pe_callV ((fr_VALUE_PARTS (P := P) (base := base) T k.1 k.2).1.mono (by decide : 3 ≤ 3)) (hr.mono (by decide)) (fr_VALUE_PARTS (P := P) (base := base) T k.1 k.2).2 pass0 rfl (by first | exact Or.inl rfl | exact Or.inr (Or.inl rfl) | exact Or.inr (Or.inr rfl)) (pa_cons (pv 0) (pa_cons (pv 1) pa_nil)))) pss_nil)))), fun ds hl => match ds, hl with
      | [v_kind, v_value], _ => StG.eq ((st_if (et_cmp rc_eq (ev_op rr_ix (ev_var (i := 0) rfl) ev_int) ev_str) (st_ret (ev_if (et_B (ev_callN (ea_cons (ev_var (i := 1) rfl) (ea_cons ev_int (ea_cons (ev_op rr_sub (ev_op rr_ix (ev_var (i := 0) rfl) ev_int) ev_int) ea_nil))))) (ev_lst ea_nil) ev_non)) (st_if (et_not (et_B (ev_isi isTy_tuple (ev_var (i := 1) rfl)))) (st_ret ev_non) (st_asgF2 (i := 2) (names := fn_VALUE_PARTS) (g := fun a => fm_VALUE_PARTS a [v_kind, v_value]) (fun _ _ => rfl) T.fd_VALUE_PARTS rfl (ev_op rr_ix (ev_var (i := 0) rfl) ev_int) (fun q hq => st_ret (ev_callF (i := 2) (tab := tab_VALUE_PARTS T) (m := fm_VALUE_PARTS) hq rfl (ea_cons (ev_var (i := 0) rfl) (ea_cons (ev_var (i := 1) rfl) ea_nil)))))))) (by simp only [m_value_parts, Tr.ret_bind, Tr.bind_assoc, Tr.bind_ret, asB_bool, asI_int, on1_one, on2g_two, on2_two])⟩)
theorem sc_weigh : FnScope ["kind", "value", "limit", "parts", "total", "inner", "item", "times", "each"] ["kind", "value", "limit"] (defScope s_weigh) := ⟨rfl, rfl, rfl, by decide +kernel, rfl, by decide +kernel, by decide +kernel⟩
theorem rk_weigh (T : Txt w K mg) : ∀ n : Nat, (FnOk P w K mg base CX0 (4 + n) T.d_weigh.f T.d_weigh.fd ["kind", "value", "limit"] (SpN K 3 (fun ds => match ds with | [v_kind, v_value, v_limit] => m_weigh n v_kind v_value v_limit | _ => Tr.bad)))
  | 0 => fn_never (spN_bad fun ds hl => match ds, hl with | [v_kind, v_value, v_limit], _ => by simp only [m_weigh])
  | n + 1 => by
    have ih := rk_weigh T n
    have ih_weigh := ih
    exact fn_pure (cl := T.cl) T.d_weigh.F sc_weigh (fun cdv A outer s H E hr => ⟨_, (pss_cons (ps_set (i := 3) sc_weigh.nd rfl (Or.inl rfl) (pe_call (ok_value_parts T) (hr.mono (Nat.le_trans (by decide : 4 ≤ 4) (Nat.le_add_right 4 n))) (by rfl) T.d_value_parts.g T.d_value_parts.F.kp T.d_value_parts.b .nil pass0 (pa_cons (pv 0) (pa_cons (pv 1) pa_nil)))) (pss_cons (ps_if (PW.pt (pw_or (pt_cmpR op_isN (pv 3) pe_non (nomark _)) (pw_or1 (pt_cmpR op_ge (pe_callB call_len_seq (by rfl) T.z_len (by decide +kernel) (pa_cons (pv 3) pa_nil)) (pv 2) (nomark _))))) (pss_cons (ps_ret pe_non) pss_nil) pss_nil) (pss_cons (ps_set (i := 4) sc_weigh.nd rfl (Or.inl rfl) pe_int) (pss_cons (ps_for PassesOwn.never rfl (pi_seq (pv 3)) (pg_tup rfl (pgs_cons (pg_name (i := 5) sc_weigh.nd rfl (Or.inl rfl)) (pgs_cons (pg_name (i := 6) sc_weigh.nd rfl (Or.inl rfl)) (pgs_cons (pg_name (i := 7) sc_weigh.nd rfl (Or.inl rfl)) pgs_nil)))) (pss_cons (ps_set (i := 8) sc_weigh.nd rfl (Or.inl rfl) (pe_call ih_weigh (hr.mono (Nat.le_refl _)) (by rfl) T.d_weigh.g T.d_weigh.F.kp T.d_weigh.b .nil pass0 (pa_cons (pv 5) (pa_cons (pv 6) (pa_cons (pe_op op_fdiv (pe_op op_sub (pv 2) (pv 4)) (pv 7)) pa_nil))))) (pss_cons (ps_if (pt_cmpR op_isN (pv 8) pe_non (nomark _)) (pss_cons (ps_ret pe_non) pss_nil) pss_nil) (pss_cons (ps_aug (i := 4) sc_weigh.nd rfl (Or.inl rfl) (pe_op op_mulA (pv 7) (pv 8)) ip_add) pss_nil)))) (pss_cons (ps_ret (pe_ifExp (pt_val (pe_call (ok_is_ordered T) (hr.mono (Nat.le_trans (by decide : 2 ≤ 4) (Nat.le_add_right 4 n))) (by rfl) T.d_is_ordered.g T.d_is_ordered.F.kp T.d_is_ordered.b .nil pass0 (pa_cons (pv 0) (pa_cons (pv 1) pa_nil)))) (pv 4) pe_non)) pss_nil))))), fun ds hl => match ds, hl with
          | [v_kind, v_value, v_limit], _ => StG.eq ((st_asg (i := 3) (fun _ _ => rfl) (ev_callN (ea_cons (ev_var (i := 0) rfl) (ea_cons (ev_var (i := 1) rfl) ea_nil))) (fun v_parts => (st_if (et_or (et_isN (ev_var (i := 3) rfl)) (et_cmp rc_ge (ev_cb1 rk_len (ev_var (i := 3) rfl)) (ev_var (i := 2) rfl))) (st_ret ev_non) (st_asg (i := 4) (fun _ _ => rfl) ev_int (fun v_total => (st_forS3 (S1 := PyData) (ρs := fun (x115 : PyData) => [.dat v_kind, .dat v_value, .dat v_limit, .dat v_parts, .dat x115, .any, .any, .any, .any]) (r := id) (i := 5) (j := 6) (l := 7) (s0 := v_total) (fun _ _ => rfl) (fun _ => rfl) (ev_var (i := 3) rfl) (.same _ (.same _ (.same _ (.same _ (.same _ (.same _ (.same _ (.same _ (.same _ .nil))))))))) (fun _ => rfl) (fun v_inner v_item v_times x115 => (st_asg (i := 8) (fun _ _ => rfl) (ev_callN (ea_cons (ev_var (i := 5) rfl) (ea_cons (ev_var (i := 6) rfl) (ea_cons (ev_op rr_div (ev_op rr_sub (ev_var (i := 2) rfl) (ev_var (i := 4) rfl)) (ev_var (i := 7) rfl)) ea_nil)))) (fun v_each => (st_if (et_isN (ev_var (i := 8) rfl)) (st_rt (r := Ct.rt) (fun _ => rfl) ev_non) (st_aug (i := 4) (op := fun i j => i + j) (fun _ _ => rfl) rfl (ev_op rr_mul (ev_var (i := 7) rfl) (ev_var (i := 8) rfl)) (fun v_total => (st_nx (b := Ct.nx v_total) (s := v_total) rfl (.same _ (.same _ (.same _ (.same _ (.same _ (.any rfl (.any rfl (.any rfl (.any rfl .nil)))))))))))))))) (fun x115 => (st_ret (ev_if (et_B (ev_callN (ea_cons (ev_var (i := 0) rfl) (ea_cons (ev_var (i := 1) rfl) ea_nil)))) (ev_var (i := 4) rfl) ev_non)))))))))) (by simp only [m_weigh, Tr.ret_bind, Tr.bind_assoc, Tr.bind_ret, asB_bool, asI_int, on1_one, on2g_two, on2_two])⟩)
theorem ok_weigh (T : Txt w K mg) : FnOk P w K mg base CX0 12 T.d_weigh.f T.d_weigh.fd ["kind", "value", "limit"] (SpN K 3 (fun ds => match ds with | [v_kind, v_value, v_limit] => m_weigh 8 v_kind v_value v_limit | _ => Tr.bad)) := (rk_weigh T 8)
theorem sc_is_value : FnScope ["kind", "value"] ["kind", "value"] (defScope s_is_value) := ⟨rfl, rfl, rfl, by decide +kernel, rfl, by decide +kernel, by decide +kernel⟩
theorem ok_is_value (T : Txt w K mg) : FnOk P w K mg base CX0 13 T.d_is_value.f T.d_is_value.fd ["kind", "value"] (SpN K 2 (fun ds => match ds with | [v_kind, v_value] => m_is_value v_kind v_value | _ => Tr.bad)) :=
  fn_pure (cl := T.cl) T.d_is_value.F sc_is_value (fun cdv A outer s H E hr => ⟨_, (pss_cons (ps_ret (pe_cmpR op_notN (pe_call (ok_weigh T) (hr.mono (by decide)) (by rfl) T.d_weigh.g T.d_weigh.F.kp T.d_weigh.b .nil pass0 (pa_cons (pv 0) (pa_cons (pv 1) (pa_cons (pe_glob (v := V.int 400) (by rfl) T.k_MOST_WEIGHT ⟨_, rfl⟩) pa_nil)))) pe_non (nomark _))) pss_nil), fun ds hl => match ds, hl with
      | [v_kind, v_value], _ => StG.eq ((st_ret (ev_notN (ev_callN (ea_cons (ev_var (i := 0) rfl) (ea_cons (ev_var (i := 1) rfl) (ea_cons ev_int ea_nil))))))) (by simp only [m_is_value, Tr.ret_bind, Tr.bind_assoc, Tr.bind_ret, asB_bool, asI_int, on1_one, on2g_two, on2_two])⟩)
theorem sc_check_value : FnScope ["kind", "value"] ["kind", "value"] (defScope s_check_value) := ⟨rfl, rfl, rfl, by decide +kernel, rfl, by decide +kernel, by decide +kernel⟩
theorem ok_check_value (T : Txt w K mg) : FnOk P w K mg base (Cgx.CT P w) 14 T.d_check_value.f T.d_check_value.fd ["kind", "value"] (SpP K T.cl 2 (fun ds => ((fun ds => match ds with | [v_kind, v_value] => b_check_value v_kind v_value | _ => Tr.bad) ds).bind fun _ => Tr.ret .none)) :=
  fn_raise0 (cl := T.cl) T.d_check_value.F sc_check_value (fun cdv A outer s H E hr => ⟨_, (fun _ => [.any, .any]), (pss_cons (ps_expr (pe_call (ok_check_kind T) (hr.mono (by decide)) (by rfl) T.d_check_kind.g T.d_check_kind.F.kp T.d_check_kind.b .nil (Cgx.lets_call (Cgx.lets_of rfl rfl rfl rfl) (fun _ _ _ _ h => h)) (pa_cons (pv 0) pa_nil))) (pss_cons (ps_if (pt_not (pt_val (pe_call (ok_is_value T) (hr.mono (by decide)) (by rfl) T.d_is_value.g T.d_is_value.F.kp T.d_is_value.b .nil pass0 (pa_cons (pv 0) (pa_cons (pv 1) pa_nil))))) (pss_cons (Cgx.ps_raise0 rfl (Cgx.lets_of rfl rfl rfl rfl) T.e_BadValue T.g_BadValue (by rfl)) pss_nil) pss_nil) pss_nil)), fun ds hl => match ds, hl with
      | [v_kind, v_value], _ => StG.eq ((st_drop (fun _ _ => rfl) (ev_call (ea_cons (ev_var (i := 0) rfl) ea_nil)) (st_if (et_not (et_B (ev_callX (ea_cons (ev_var (i := 0) rfl) (ea_cons (ev_var (i := 1) rfl) ea_nil))))) (st_raise (c := Ek.value)) (st_nx (b := ()) (s := ()) rfl (.any rfl (.any rfl .nil)))))) (by simp only [b_check_value, Tr.ret_bind, Tr.bind_assoc, Tr.bind_ret, asB_bool, asI_int, on1_one, on2g_two, on2_two, m_check_kind])⟩)
theorem sc_weight : FnScope ["kind", "value", "heavy"] ["kind", "value"] (defScope s_weight) := ⟨rfl, rfl, rfl, by decide +kernel, rfl, by decide +kernel, by decide +kernel⟩
theorem ok_weight (T : Txt w K mg) : FnOk P w K mg base (Cgx.CT P w) 13 T.d_weight.f T.d_weight.fd ["kind", "value"] (SpP K T.cl 2 (fun ds => match ds with | [v_kind, v_value] => m_weight v_kind v_value | _ => Tr.bad)) :=
  fn_raise (cl := T.cl) T.d_weight.F sc_weight (fun cdv A outer s H E hr => ⟨_, (pss_cons (ps_expr (pe_call (ok_check_kind T) (hr.mono (by decide)) (by rfl) T.d_check_kind.g T.d_check_kind.F.kp T.d_check_kind.b .nil (Cgx.lets_call (Cgx.lets_of rfl rfl rfl rfl) (fun _ _ _ _ h => h)) (pa_cons (pv 0) pa_nil))) (pss_cons (ps_set (i := 2) sc_weight.nd rfl (Or.inl rfl) (pe_call (ok_weigh T) (hr.mono (by decide)) (by rfl) T.d_weigh.g T.d_weigh.F.kp T.d_weigh.b .nil pass0 (pa_cons (pv 0) (pa_cons (pv 1) (pa_cons (pe_glob (v := V.int 400) (by rfl) T.k_MOST_WEIGHT ⟨_, rfl⟩) pa_nil))))) (pss_cons (ps_if (pt_cmpR op_isN (pv 2) pe_non (nomark _)) (pss_cons (Cgx.ps_raise0 rfl (Cgx.lets_of rfl rfl rfl rfl) T.e_BadValue T.g_BadValue (by rfl)) pss_nil) pss_nil) (pss_cons (ps_ret (pv 2)) pss_nil)))), fun ds hl => match ds, hl with
      | [v_kind, v_value], _ => StG.eq ((st_drop (fun _ _ => rfl) (ev_call (ea_cons (ev_var (i := 0) rfl) ea_nil)) (st_asg (i := 2) (fun _ _ => rfl) (ev_callX (ea_cons (ev_var (i := 0) rfl) (ea_cons (ev_var (i := 1) rfl) (ea_cons ev_int ea_nil)))) (fun v_heavy => (st_if (et_isN (ev_var (i := 2) rfl)) (st_raise (c := Ek.value)) (st_ret (ev_var (i := 2) rfl))))))) (by simp only [m_weight, Tr.ret_bind, Tr.bind_assoc, Tr.bind_ret, asB_bool, asI_int, on1_one, on2g_two, on2_two, m_check_kind])⟩)
theorem sc_box : FnScope ["script", "x"] ["script"] (defScope s__law_box) := ⟨rfl, rfl, rfl, by decide +kernel, rfl, by decide +kernel, by decide +kernel⟩
theorem ok__law_box (T : Txt w K mg) : FnOk P w K mg base CX0 1 T.d__law_box.f T.d__law_box.fd ["script"] (SpMk K) := by
  refine T.d__law_box.F.ok sc_box (fun vs H Q E h => ?_) fun cdv A outer s H vs Q E hr h => ?_
  · obtain ⟨v, ns, G, rfl, _⟩ := h
    rfl
  · obtain ⟨v, ns, G, rfl, r, e, h⟩ := h
    refine ⟨_, pss_one (ps_ret (pe_lst (pa_cons pe_int (pa_cons pe_int (pa_cons pe_int (pa_cons
      (pe_lc (own := [("x", 1)]) (g := gName 1) (tt := tYes) rfl sc_box.nd (pi_seq (pv 0)) (blkOk_by (N := ["script", "x"]) (sc := defScope s__law_box) (by decide +kernel)) (fun _ _ _ _ _ => pg_name (i := 1) sc_box.nd rfl (Or.inl rfl)) (fun _ _ _ _ _ => pts_nil)
        (fun _ _ _ _ _ => pe_callB call_abs (by rfl) T.z_abs (by decide +kernel) (pa_cons (pe_callTy call_int1 (by rfl) T.z_int (by decide +kernel) (pa_cons (pv 1) pa_nil)) pa_nil)))
      pa_nil)))))), ?_⟩
    have S : Sta K G H [.dat (.list (ns.map PyData.int)), .any] (L2.start ["script", "x"] [v]) := sta_start (N := ["script", "x"]) (ds := [.list (ns.map PyData.int)]) (.cons r .nil) e (by show 1 ≤ 2; decide)
    have ev := ev_lcS1 (K := K) (cl := fun _ => 0) (E := fun _ => none) (ρ := [.dat (.list (ns.map PyData.int)), .any]) (i := 1) (fun _ _ => rfl) (ev_var (i := 0) rfl) rfl (fun d => ev_cb1 rk_abs (ev_cb1 rk_int (ev_var (i := 1) rfl)))
    refine (show tLc (iSeq K (tVar 0)) (gName 1) tYes (tCB _ (tCons (tCB _ (tCons (tVar 1) tNil)) tNil)) [1] (L2.start ["script", "x"] [v]) H (fun x H1 => ([V.int 0, V.int 0, V.int 0, x] : List V).length ≤ sizeLine ∧ ∀ p, H1 p = none → Q (.ref p) (upd H1 p (.lst [V.int 0, V.int 0, V.int 0, x]))) from ?_)
    refine ev G H _ S _ ?_
    have em : mapT (fun d => ((Tr.ret d).bind dInt).bind dAbs) (ns.map PyData.int) = .ret ((ns.map fun i => if i < 0 then -i else i).map PyData.int) := mapT_ints (g := fun i => if i < 0 then -i else i) (fun i => rfl) ns
    show ((mapT (fun d => ((Tr.ret d).bind dInt).bind dAbs) (ns.map PyData.int)).bind fun ys => Tr.ret (PyData.list ys)).wp _ _
    rw [em]
    intro x G1 H1 g1 S1 rx
    have no : ∀ a, Owns [.dat (.list (ns.map PyData.int)), .any] (L2.start ["script", "x"] [v]) a → False := fun a z => owns_start (n := 2) (ds := [.list (ns.map PyData.int)]) z
    have g1' : Gr (fun _ => False) G H G1 H1 := g1.less fun a z => no a z
    cases rx with
    | @lst c xs ds hs hl ha =>
      have exs := ha.ints
      subst exs
      refine ⟨by show 4 ≤ sizeLine; decide, fun p hp => ?_⟩
      have hHp : H p = none := by
        cases q : H p with
        | none => rfl
        | some o =>
          rw [g1'.fr p o id q] at hp
          cases hp
      refine h p G1 _ (g1'.trans' ⟨Ex.refl _, fun _ _ _ h => h, fun a o _ ha => by rw [upd_ne (ne_of_none ha hp)]; exact ha, fun a hn => by rw [upd_ne (fun z => hn (by rw [z]; exact hp))]; exact hn⟩) (fun a o ha => ?_) hHp ⟨S1.sub.back hp, 0, 0, 0, c, _, upd_same, hs, Int.le_refl 0⟩
      rw [upd_ne (ne_of_none (S1.sub a o ha) hp)]
      exact S1.sub a o ha
/-! ### the box's own defs -/
theorem sc_take : FnScope ["box", "m", "at", "cell", "told"] ["box", "m"] (defScope s__law_take) := ⟨rfl, rfl, rfl, by decide +kernel, rfl, by decide +kernel, by decide +kernel⟩
theorem ok__law_take (T : Txt w K mg) : FnOk P w K mg base CX0 1 T.d__law_take.f T.d__law_take.fd ["box", "m"] (SpB K 1 (on1 takeT)) := by
  refine T.d__law_take.F.ok sc_take (fun vs H Q E h => h.len) fun cdv A outer s H vs Q E hr h => ?_
  obtain ⟨b, ws, ds, G, rfl, ⟨gb, cell, k, at0, c, ns, hb, hc, h0⟩, r, hl, e, h⟩ := h
  match ds, hl with
  | [d], _ =>
  cases r with
  | cons r rt =>
  cases rt
  cases r with
  | int m =>
    have h' : (if 1 ≤ m ∧ m < 1073741824 then Tr.draw m.toNat fun i => Tr.ret (PyData.int (i : Int)) else .bad).wp (fun d => ∀ v G' H', Gr (fun a => a = b) G H G' H' → Ex G' H' → BoxOk K G' H' b → Rp K G' v d → Q v H') (fun _ => False) := h
    split at h'
    · rename_i hm
      have ex : ∀ o, Ex G (upd H b o) := fun o a u ha => by
        rw [upd_ne (fun z => by rw [z, gb] at ha; cases ha)]
        exact e a u ha
      have sq : ∀ o, SqL K (upd H b o) c (ns.map V.int) := fun o => (ex o).l hc
      have fin : ∀ (t x y z : Int), 0 ≤ t → t < m → 0 ≤ z → Q (.int t) (upd H b (.lst [.int x, .int y, .int z, .ref c])) := fun t x y z h1 h2 h3 => by
        have q := h' t.toNat (by omega) (.int t) G (upd H b (.lst [.int x, .int y, .int z, .ref c])) ⟨Ex.refl G, fun _ _ _ h => h, fun a o na ha => by rw [upd_ne na]; exact ha, fun a hn => by
          by_cases ea : a = b
          · rw [ea, upd_same]; exact fun z => nomatch z
          · rw [upd_ne ea]; exact hn⟩ (ex _) ⟨gb, x, y, z, c, ns, upd_same, hc, h3⟩ (by
            have e1 : ((t.toNat : Nat) : Int) = t := by omega
            rw [e1]
            exact .int t)
        exact q
      have modlt : ∀ x : Int, 0 ≤ x % m ∧ x % m < m := fun x => ⟨Int.emod_nonneg x (by omega), Int.emod_lt_of_pos x (by omega)⟩
      -- behind the first if
      obtain ⟨tt, htt, rt⟩ : ∃ tt, PSs (cxOf CX0 P w K mg base ["box", "m", "at", "cell", "told"] "_law_take" (defScope s__law_take) T.d__law_take.f cdv A outer s H E).nox (defBody s__law_take).tail tt ∧
          ∀ (x y z : Int) (s2 s3 s4 : Option V), 0 ≤ z → tt { nx := fun _ H' => Q .non H', rt := Q } [some (.ref b), some (.int m), s2, s3, s4] (upd H b (.lst [.int x, .int y, .int z, .ref c])) := by
        refine ⟨_, pss_cons (ps_if (pt_cmpR op_gt (pe_ix ix_list (pv 0) pe_int (fun _ _ => rfl)) pe_int (nomark _))
            (pss_cons (ps_set (i := 4) sc_take.nd rfl (Or.inl rfl) (pe_op op_mod (pe_callTy call_int1 (by rfl) T.z_int (by decide +kernel) (pa_cons (pe_ix ix_list (pv 0) pe_int (fun _ _ => rfl)) pa_nil)) (pv 1)))
            (pss_cons (ps_asg (pe_op op_fdiv (pe_ix ix_list (pv 0) pe_int (fun _ _ => rfl)) (pv 1)) (pg_sub (pv 0) pe_int set_list))
            (pss_cons (ps_asg (pe_ifExp (pt_cmpR op_gt (pe_ix ix_list (pv 0) pe_int (fun _ _ => rfl)) pe_int (nomark _)) (pe_op op_sub (pe_ix ix_list (pv 0) pe_int (fun _ _ => rfl)) pe_int) pe_int) (pg_sub (pv 0) pe_int set_list))
            (pss_one (ps_ret (pv 4)))))) pss_nil)
          (pss_cons (ps_asg (pe_op op_add (pe_ix ix_list (pv 0) pe_int (fun _ _ => rfl)) pe_int) (pg_sub (pv 0) pe_int set_list))
          (pss_cons (ps_asg (pe_op op_mod (pe_callTy call_int1 (by rfl) T.z_int (by decide +kernel) (pa_cons (pe_op op_add (pe_op op_mul (pe_ix ix_list (pv 0) pe_int (fun _ _ => rfl)) pe_int) (pe_op op_mul pe_int (pe_op op_add (pe_ix ix_list (pv 0) pe_int (fun _ _ => rfl)) pe_int))) pa_nil)) pe_int) (pg_sub (pv 0) pe_int set_list))
          (pss_one (ps_ret (pe_op op_mod (pe_op op_mod (pe_callTy call_int1 (by rfl) T.z_int (by decide +kernel) (pa_cons (pe_op op_add (pe_op op_fdiv (pe_ix ix_list (pv 0) pe_int (fun _ _ => rfl)) pe_int) (pe_ix ix_list (pv 0) pe_int (fun _ _ => rfl))) pa_nil)) pe_int) (pv 1)))))), fun x y z s2 s3 s4 hz => ?_⟩
        refine ⟨.ref b, rfl, b, _, 1, _, rfl, rfl, SqL.of upd_same, rfl, y, 0, rfl, rfl, _, rfl, ite2 (fun c1 => ?_) (fun c1 => ?_)⟩
        · refine ⟨.ref b, rfl, b, _, 0, _, rfl, rfl, SqL.of upd_same, rfl, .inl ⟨x, rfl, .int m, rfl, x, m, rfl, rfl, by show (0 : Int) < m; omega, ?_⟩⟩
          refine ⟨.ref b, rfl, b, _, 0, _, rfl, rfl, SqL.of upd_same, rfl, .int m, rfl, x, m, rfl, rfl, ⟨by omega, by omega⟩, .ref b, rfl, b, _, 0, 0, rfl, rfl, upd_same, rfl, ?_⟩
          rw [upd_upd]
          refine ⟨.ref b, rfl, b, _, 0, _, rfl, rfl, SqL.of upd_same, rfl, x / m, 0, rfl, rfl, _, rfl, ite2 (fun c2 => ?_) (fun c2 => ?_)⟩
          · refine ⟨.ref b, rfl, b, _, 1, _, rfl, rfl, SqL.of upd_same, rfl, y, 1, rfl, rfl, .ref b, rfl, b, _, 1, 1, rfl, rfl, upd_same, rfl, ?_⟩
            rw [upd_upd]
            exact ⟨.int (x % m), rfl, fin _ _ _ _ (modlt x).1 (modlt x).2 hz⟩
          · refine ⟨.ref b, rfl, b, _, 1, 1, rfl, rfl, upd_same, rfl, ?_⟩
            rw [upd_upd]
            exact ⟨.int (x % m), rfl, fin _ _ _ _ (modlt x).1 (modlt x).2 hz⟩
        · refine ⟨.ref b, rfl, b, _, 1, _, rfl, rfl, SqL.of upd_same, rfl, y, 1, rfl, rfl, .ref b, rfl, b, _, 1, 1, rfl, rfl, upd_same, rfl, ?_⟩
          rw [upd_upd]
          refine ⟨.ref b, rfl, b, _, 0, _, rfl, rfl, SqL.of upd_same, rfl, x, 48271, rfl, rfl, .inr ⟨by decide, by decide⟩, .ref b, rfl, b, _, 1, _, rfl, rfl, SqL.of upd_same, rfl, y + 1, 20, rfl, rfl, 69621, _, rfl, rfl, .inl ⟨by decide, by decide⟩, _, _, rfl, rfl, .inl ⟨_, rfl, _, 2147483647, rfl, rfl, by show (0 : Int) < 2147483647; decide, ?_⟩⟩
          refine ⟨.ref b, rfl, b, _, 0, 0, rfl, rfl, upd_same, rfl, ?_⟩
          rw [upd_upd]
          refine ⟨.ref b, rfl, b, _, 0, _, rfl, rfl, SqL.of upd_same, rfl, _, 7, rfl, rfl, ⟨by decide, by decide⟩, .ref b, rfl, b, _, 0, _, rfl, rfl, SqL.of upd_same, rfl, _, _, rfl, rfl, .inl ⟨_, rfl, _, 1000003, rfl, rfl, by show (0 : Int) < 1000003; decide, .int m, rfl, _, m, rfl, rfl, by show (0 : Int) < m; omega, ?_⟩⟩
          exact fin _ _ _ _ (modlt _).1 (modlt _).2 hz
      have hH : upd H b (.lst [.int cell, .int k, .int at0, .ref c]) = H := by
        funext a
        by_cases ea : a = b
        · rw [ea, upd_same, hb]
        · rw [upd_ne ea]
      refine ⟨_, pss_cons (ps_if (pt_cmpR op_eq (pe_ix ix_list (pv 0) pe_int (fun _ _ => rfl)) pe_int (nomark _))
          (pss_cons (ps_set (i := 2) sc_take.nd rfl (Or.inl rfl) (pe_ix ix_list (pv 0) pe_int (fun _ _ => rfl)))
          (pss_cons (ps_set (i := 3) sc_take.nd rfl (Or.inl rfl) pe_int)
          (pss_cons (ps_if (pt_cmpR op_lt (pv 2) (pe_callB call_len_seq (by rfl) T.z_len PySem.boot_len (pa_cons (pe_ix ix_list (pv 0) pe_int (fun _ _ => rfl)) pa_nil)) (nomark _))
              (pss_cons (ps_set (i := 3) sc_take.nd rfl (Or.inl rfl) (pe_ix ix_list (pe_ix ix_list (pv 0) pe_int (fun _ _ => rfl)) (pv 2) (fun _ _ => rfl)))
              (pss_cons (ps_asg (pe_ifExp (pt_cmpR op_ge (pv 3) (pe_op op_pow pe_int pe_int) (nomark _)) pe_int (pe_un un_neg pe_int)) (pg_sub (pv 0) pe_int set_list)) pss_nil)) pss_nil)
          (pss_cons (ps_asg (pe_op op_add (pv 2) pe_int) (pg_sub (pv 0) pe_int set_list))
          (pss_cons (ps_asg (pv 3) (pg_sub (pv 0) pe_int set_list))
          (pss_cons (ps_if (pt_cmpR op_eq (pe_ix ix_list (pv 0) pe_int (fun _ _ => rfl)) pe_int (nomark _)) (pss_one (ps_ret pe_int)) pss_nil) pss_nil)))))) pss_nil) htt, ?_⟩
      refine ⟨.ref b, rfl, b, _, 1, _, rfl, rfl, SqL.of hb, rfl, rfl, _, rfl, ite2 (fun c1 => ?_) (fun c1 => hH ▸ rt cell k at0 none none none h0)⟩
      -- the last three statements of the branch
      have last : ∀ (x y : Int) (cl2 : Int), (tSeq (tAsg (tOp (rI0 fun i j => .int (i + j)) (tVar 2) (tC (.int 1))) (gSub (tVar 0) (tC (.int 2)) rSetL))
          (tSeq (tAsg (tVar 3) (gSub (tVar 0) (tC (.int 0)) rSetL))
          (tSeq (tIfS (tTest (tOp rEq (tOp (rIxL K) (tVar 0) (tC (.int 1))) (tC (.int 0)))) (tRet (tC (.int 0))) tNext) tNext)))
          { nx := tt { nx := fun _ H' => Q .non H', rt := Q }, rt := Q } [some (.ref b), some (.int m), some (.int at0), some (.int cl2), none] (upd H b (.lst [.int x, .int y, .int at0, .ref c])) := fun x y cl2 => by
        refine ⟨.int at0, rfl, at0, 1, rfl, rfl, .ref b, rfl, b, _, 2, 2, rfl, rfl, upd_same, rfl, ?_⟩
        rw [upd_upd]
        refine ⟨.int cl2, rfl, .ref b, rfl, b, _, 0, 0, rfl, rfl, upd_same, rfl, ?_⟩
        rw [upd_upd]
        refine ⟨.ref b, rfl, b, _, 1, _, rfl, rfl, SqL.of upd_same, rfl, rfl, _, rfl, ite2 (fun c3 => ?_) (fun c3 => rt _ _ _ _ _ _ (by omega))⟩
        exact fin 0 _ _ _ (by omega) (by omega) (by omega)
      have sqH : SqL K H c (ns.map V.int) := e.l hc
      refine ⟨.ref b, rfl, b, _, 2, _, rfl, rfl, SqL.of hb, rfl, ?_⟩
      refine ⟨.int at0, rfl, .ref b, rfl, b, _, 3, _, rfl, rfl, SqL.of hb, rfl, c, _, rfl, .inl sqH, at0, _, rfl, rfl, _, rfl, ite2 (fun c2 => ?_) (fun c2 => hH ▸ last cell k 0)⟩
      have c2' : at0 < ((ns.map V.int).length : Int) := of_decide_eq_true c2
      rw [List.length_map] at c2'
      obtain ⟨j, ej⟩ : ∃ j : Nat, at0 = (j : Int) := ⟨at0.toNat, by omega⟩
      have hget : atI (ns.map V.int) at0 = some (.int (ns.getD j 0)) := by
        rw [ej]
        refine atI_nat ?_
        have hj : j < ns.length := by omega
        rw [List.getElem?_map, List.getElem?_eq_getElem hj, List.getD_eq_getElem?_getD, List.getElem?_eq_getElem hj]
        rfl
      refine ⟨.ref b, rfl, b, _, 3, _, rfl, rfl, SqL.of hb, rfl, .int at0, rfl, c, _, at0, _, rfl, rfl, sqH, hget, ?_⟩
      refine ⟨_, rfl, 10, 18, rfl, rfl, ⟨by decide, by decide, by decide⟩, _, _, rfl, rfl, _, rfl, ite2 (fun c3 => ?_) (fun c3 => ?_)⟩
      · exact ⟨.ref b, rfl, b, _, 1, 1, rfl, rfl, hb, rfl, last _ _ _⟩
      · exact ⟨9, rfl, .ref b, rfl, b, _, 1, 1, rfl, rfl, hb, rfl, last _ _ _⟩
    · exact h'.elim
  | _ => exact (h : False).elim
theorem sc__law_pick : FnScope ["box", "menu"] ["box", "menu"] (defScope s__law_pick) := ⟨rfl, rfl, rfl, by decide +kernel, rfl, by decide +kernel, by decide +kernel⟩
theorem ok__law_pick (T : Txt w K mg) : FnOk P w K mg base CX0 2 T.d__law_pick.f T.d__law_pick.fd ["box", "menu"] (SpB K 1 (fun ds => match ds with | [v_menu] => m__law_pick v_menu | _ => Tr.bad)) :=
  fn_box (cl := T.cl) T.d__law_pick.F sc__law_pick rfl (fun cdv A outer s H E hr => ⟨_, (pss_cons (ps_ret (pe_ix ix_seq (pv 1) (pe_call (ok__law_take T) (hr.mono (by decide)) (by rfl) T.d__law_take.g T.d__law_take.F.kp T.d__law_take.b .nil pass0 (pa_cons (pv 0) (pa_cons (pe_callB call_len_seq (by rfl) T.z_len (by decide +kernel) (pa_cons (pv 1) pa_nil)) pa_nil))) (fun _ _ => rfl))) pss_nil), fun ds hl => match ds, hl with
      | [v_menu], _ => StG.eq ((st_ret (ev_op rr_ix (ev_var (i := 1) rfl) (ev_callB (i := 0) rfl (ea_cons (ev_cb1 rk_len (ev_var (i := 1) rfl)) ea_nil))))) (by simp only [m__law_pick, Tr.ret_bind, Tr.bind_assoc, Tr.bind_ret, asB_bool, asI_int, on1_one, on2g_two, on2_two])⟩)
theorem sc__law_kind : FnScope ["box", "deep", "sort", "k"] ["box", "deep"] (defScope s__law_kind) := ⟨rfl, rfl, rfl, by decide +kernel, rfl, by decide +kernel, by decide +kernel⟩
theorem rk__law_kind (T : Txt w K mg) : ∀ n : Nat, (FnOk P w K mg base CX0 (2 + n) T.d__law_kind.f T.d__law_kind.fd ["box", "deep"] (SpB K 1 (fun ds => match ds with | [v_deep] => m__law_kind n v_deep | _ => Tr.bad)))
  | 0 => fn_never (spB_bad fun ds hl => match ds, hl with | [v_deep], _ => by simp only [m__law_kind])
  | n + 1 => by
    have ih := rk__law_kind T n
    have ih__law_kind := ih
    exact fn_box (cl := T.cl) T.d__law_kind.F sc__law_kind rfl (fun cdv A outer s H E hr => ⟨_, (pss_cons (ps_set (i := 2) sc__law_kind.nd rfl (Or.inl rfl) (pe_call (ok__law_take T) (hr.mono (Nat.le_trans (by decide : 1 ≤ 2) (Nat.le_add_right 2 n))) (by rfl) T.d__law_take.g T.d__law_take.F.kp T.d__law_take.b .nil pass0 (pa_cons (pv 0) (pa_cons pe_int pa_nil)))) (pss_cons (ps_if (PW.pt (pw_or (pt_cmpR op_le (pv 1) pe_int (nomark _)) (pw_or1 (pt_cmpR op_lt (pv 2) pe_int (nomark _))))) (pss_cons (ps_ret (pe_tup (pa_cons pe_str (pa_cons (pe_call (ok__law_pick T) (hr.mono (Nat.le_trans (by decide : 2 ≤ 2) (Nat.le_add_right 2 n))) (by rfl) T.d__law_pick.g T.d__law_pick.F.kp T.d__law_pick.b .nil pass0 (pa_cons (pv 0) (pa_cons (pe_lst (pa_cons pe_int (pa_cons pe_int (pa_cons pe_int (pa_cons pe_int (pa_cons pe_int (pa_cons pe_int (pa_cons (pe_op op_addA pe_int (pe_call (ok__law_take T) (hr.mono (Nat.le_trans (by decide : 1 ≤ 2) (Nat.le_add_right 2 n))) (by rfl) T.d__law_take.g T.d__law_take.F.kp T.d__law_take.b .nil pass0 (pa_cons (pv 0) (pa_cons pe_int pa_nil)))) pa_nil)))))))) pa_nil))) pa_nil)))) pss_nil) pss_nil) (pss_cons (ps_if (pt_cmpR op_lt (pv 2) pe_int (nomark _)) (pss_cons (ps_ret (pe_tup (pa_cons pe_str (pa_cons (pe_callTy call_tuple_of (by rfl) T.z_tuple (by decide +kernel) (pa_cons (pe_lc (own := [("k", 3)]) rfl sc__law_kind.nd (pi_range1 (by rfl) T.z_range (pa_cons (pe_call (ok__law_pick T) (hr.mono (Nat.le_trans (by decide : 2 ≤ 2) (Nat.le_add_right 2 n))) (by rfl) T.d__law_pick.g T.d__law_pick.F.kp T.d__law_pick.b .nil pass0 (pa_cons (pv 0) (pa_cons (pe_lst (pa_cons pe_int (pa_cons pe_int (pa_cons pe_int (pa_cons pe_int (pa_cons pe_int pa_nil)))))) pa_nil))) pa_nil)) (blkOk_by (N := ["box", "deep", "sort", "k"]) (sc := defScope s__law_kind) (by decide +kernel)) (fun _ _ _ _ _ => pg_name (i := 3) sc__law_kind.nd rfl (Or.inl rfl)) (fun _ _ _ _ _ => pts_nil) (fun _ _ _ _ _ => (pe_call ih__law_kind (hr.mono (Nat.le_refl _)) (by rfl) T.d__law_kind.g T.d__law_kind.F.kp T.d__law_kind.b .nil pass0 (pa_cons (pv 0) (pa_cons (pe_op op_sub (pv 1) pe_int) pa_nil))))) pa_nil)) pa_nil)))) pss_nil) pss_nil) (pss_cons (ps_if (pt_cmpR (op_eqP (room64 hr)) (pv 2) pe_int (nomark _)) (pss_cons (ps_ret (pe_tup (pa_cons pe_str (pa_cons (pe_callTy call_tuple_of (by rfl) T.z_tuple (by decide +kernel) (pa_cons (pe_lc (own := [("k", 3)]) rfl sc__law_kind.nd (pi_range1 (by rfl) T.z_range (pa_cons (pe_call (ok__law_pick T) (hr.mono (Nat.le_trans (by decide : 2 ≤ 2) (Nat.le_add_right 2 n))) (by rfl) T.d__law_pick.g T.d__law_pick.F.kp T.d__law_pick.b .nil pass0 (pa_cons (pv 0) (pa_cons (pe_lst (pa_cons pe_int (pa_cons pe_int (pa_cons pe_int (pa_cons pe_int pa_nil))))) pa_nil))) pa_nil)) (blkOk_by (N := ["box", "deep", "sort", "k"]) (sc := defScope s__law_kind) (by decide +kernel)) (fun _ _ _ _ _ => pg_name (i := 3) sc__law_kind.nd rfl (Or.inl rfl)) (fun _ _ _ _ _ => pts_nil) (fun _ _ _ _ _ => (pe_call ih__law_kind (hr.mono (Nat.le_refl _)) (by rfl) T.d__law_kind.g T.d__law_kind.F.kp T.d__law_kind.b .nil pass0 (pa_cons (pv 0) (pa_cons (pe_op op_sub (pv 1) pe_int) pa_nil))))) pa_nil)) pa_nil)))) pss_nil) pss_nil) (pss_cons (ps_if (pt_cmpR op_lt (pv 2) pe_int (nomark _)) (pss_cons (ps_ret (pe_tup (pa_cons pe_str (pa_cons (pe_call ih__law_kind (hr.mono (Nat.le_refl _)) (by rfl) T.d__law_kind.g T.d__law_kind.F.kp T.d__law_kind.b .nil pass0 (pa_cons (pv 0) (pa_cons (pe_op op_sub (pv 1) pe_int) pa_nil))) pa_nil)))) pss_nil) pss_nil) (pss_cons (ps_if (pt_cmpR op_lt (pv 2) pe_int (nomark _)) (pss_cons (ps_ret (pe_tup (pa_cons (pe_call (ok__law_pick T) (hr.mono (Nat.le_trans (by decide : 2 ≤ 2) (Nat.le_add_right 2 n))) (by rfl) T.d__law_pick.g T.d__law_pick.F.kp T.d__law_pick.b .nil pass0 (pa_cons (pv 0) (pa_cons (pe_lst (pa_cons pe_str (pa_cons pe_str pa_nil))) pa_nil))) (pa_cons (pe_call ih__law_kind (hr.mono (Nat.le_refl _)) (by rfl) T.d__law_kind.g T.d__law_kind.F.kp T.d__law_kind.b .nil pass0 (pa_cons (pv 0) (pa_cons (pe_op op_sub (pv 1) pe_int) pa_nil))) pa_nil)))) pss_nil) pss_nil) (pss_cons (ps_ret (pe_tup (pa_cons pe_str (pa_cons (pe_call ih__law_kind (hr.mono (Nat.le_refl _)) (by rfl) T.d__law_kind.g T.d__law_kind.F.kp T.d__law_kind.b .nil pass0 (pa_cons (pv 0) (pa_cons (pe_op op_sub (pv 1) pe_int) pa_nil))) (pa_cons (pe_call ih__law_kind (hr.mono (Nat.le_refl _)) (by rfl) T.d__law_kind.g T.d__law_kind.F.kp T.d__law_kind.b .nil pass0 (pa_cons (pv 0) (pa_cons (pe_op op_sub (pv 1) pe_int) pa_nil))) pa_nil))))) pss_nil))))))), fun ds hl => match ds, hl with
          | [v_deep], _ => StG.eq ((st_asg (i := 2) (fun _ _ => rfl) (ev_callB (i := 0) rfl (ea_cons ev_int ea_nil)) (fun v_sort => (st_if (et_or (et_cmp rc_le (ev_var (i := 1) rfl) ev_int) (et_cmp rc_lt (ev_var (i := 2) rfl) ev_int)) (st_ret (ev_tup (ea_cons ev_str (ea_cons (ev_callB (i := 0) rfl (ea_cons (ev_lst (ea_cons ev_int (ea_cons ev_int (ea_cons ev_int (ea_cons ev_int (ea_cons ev_int (ea_cons ev_int (ea_cons (ev_op rr_add ev_int (ev_callB (i := 0) rfl (ea_cons ev_int ea_nil))) ea_nil)))))))) ea_nil)) ea_nil)))) (st_if (et_cmp rc_lt (ev_var (i := 2) rfl) ev_int) (st_ret (ev_tup (ea_cons ev_str (ea_cons (ev_cb1 rk_tuple (ev_lcR1n (fun _ _ => rfl) (ev_callB (i := 0) rfl (ea_cons (ev_lst (ea_cons ev_int (ea_cons ev_int (ea_cons ev_int (ea_cons ev_int (ea_cons ev_int ea_nil)))))) ea_nil)) rfl (fun v_k => (ev_callB (i := 0) rfl (ea_cons (ev_op rr_sub (ev_var (i := 1) rfl) ev_int) ea_nil))))) ea_nil)))) (st_if (et_cmp rc_eq (ev_var (i := 2) rfl) ev_int) (st_ret (ev_tup (ea_cons ev_str (ea_cons (ev_cb1 rk_tuple (ev_lcR1n (fun _ _ => rfl) (ev_callB (i := 0) rfl (ea_cons (ev_lst (ea_cons ev_int (ea_cons ev_int (ea_cons ev_int (ea_cons ev_int ea_nil))))) ea_nil)) rfl (fun v_k => (ev_callB (i := 0) rfl (ea_cons (ev_op rr_sub (ev_var (i := 1) rfl) ev_int) ea_nil))))) ea_nil)))) (st_if (et_cmp rc_lt (ev_var (i := 2) rfl) ev_int) (st_ret (ev_tup (ea_cons ev_str (ea_cons (ev_callB (i := 0) rfl (ea_cons (ev_op rr_sub (ev_var (i := 1) rfl) ev_int) ea_nil)) ea_nil)))) (st_if (et_cmp rc_lt (ev_var (i := 2) rfl) ev_int) (st_ret (ev_tup (ea_cons (ev_callB (i := 0) rfl (ea_cons (ev_lst (ea_cons ev_str (ea_cons ev_str ea_nil))) ea_nil)) (ea_cons (ev_callB (i := 0) rfl (ea_cons (ev_op rr_sub (ev_var (i := 1) rfl) ev_int) ea_nil)) ea_nil)))) (st_ret (ev_tup (ea_cons ev_str (ea_cons (ev_callB (i := 0) rfl (ea_cons (ev_op rr_sub (ev_var (i := 1) rfl) ev_int) ea_nil)) (ea_cons (ev_callB (i := 0) rfl (ea_cons (ev_op rr_sub (ev_var (i := 1) rfl) ev_int) ea_nil)) ea_nil))))))))))))) (by simp only [m__law_kind, Tr.ret_bind, Tr.bind_assoc, Tr.bind_ret, asB_bool, asI_int, on1_one, on2g_two, on2_two])⟩)
theorem ok__law_kind (T : Txt w K mg) : FnOk P w K mg base CX0 10 T.d__law_kind.f T.d__law_kind.fd ["box", "deep"] (SpB K 1 (fun ds => match ds with | [v_deep] => m__law_kind 8 v_deep | _ => Tr.bad)) := (rk__law_kind T 8)
theorem sc__law_inner : FnScope ["kind"] ["kind"] (defScope s__law_inner) := ⟨rfl, rfl, rfl, by decide +kernel, rfl, by decide +kernel, by decide +kernel⟩
theorem ok__law_inner (T : Txt w K mg) : FnOk P w K mg base CX0 1 T.d__law_inner.f T.d__law_inner.fd ["kind"] (SpN K 1 (fun ds => match ds with | [v_kind] => m__law_inner v_kind | _ => Tr.bad)) :=
  fn_pure (cl := T.cl) T.d__law_inner.F sc__law_inner (fun cdv A outer s H E hr => ⟨_, (pss_cons (ps_if (pt_cmpR (op_inP (room65 hr)) (pe_ix ix_seq (pv 0) pe_int (fun _ _ => rfl)) (pe_tup (pa_cons pe_str (pa_cons pe_str pa_nil))) rfl) (pss_cons (ps_ret (pe_callTy call_list_of (by rfl) T.z_list (by decide +kernel) (pa_cons (pe_ix ix_seq (pv 0) pe_int (fun _ _ => rfl)) pa_nil))) pss_nil) pss_nil) (pss_cons (ps_ret (pe_ifExp (pt_cmpR (op_neP (room64 hr)) (pe_ix ix_seq (pv 0) pe_int (fun _ _ => rfl)) pe_str (nomark _)) (pe_callTy call_list_of (by rfl) T.z_list (by decide +kernel) (pa_cons (pe_slice sl_P (pv 0) (po_some pe_int) po_none) pa_nil)) (pe_lst pa_nil))) pss_nil)), fun ds hl => match ds, hl with
      | [v_kind], _ => StG.eq ((st_if (et_cmp rc_in (ev_op rr_ix (ev_var (i := 0) rfl) ev_int) (ev_tup (ea_cons ev_str (ea_cons ev_str ea_nil)))) (st_ret (ev_cb1 rk_list (ev_op rr_ix (ev_var (i := 0) rfl) ev_int))) (st_ret (ev_if (et_cmp rc_ne (ev_op rr_ix (ev_var (i := 0) rfl) ev_int) ev_str) (ev_cb1 rk_list (ev_sl rs_P (ev_var (i := 0) rfl) (eo_some ev_int) eo_none)) (ev_lst ea_nil))))) (by simp only [m__law_inner, Tr.ret_bind, Tr.bind_assoc, Tr.bind_ret, asB_bool, asI_int, on1_one, on2g_two, on2_two])⟩)
theorem sc__law_many : FnScope ["kind", "one"] ["kind"] (defScope s__law_many) := ⟨rfl, rfl, rfl, by decide +kernel, rfl, by decide +kernel, by decide +kernel⟩
theorem rk__law_many (T : Txt w K mg) : ∀ n : Nat, (FnOk P w K mg base CX0 (1 + n) T.d__law_many.f T.d__law_many.fd ["kind"] (SpN K 1 (fun ds => match ds with | [v_kind] => m__law_many n v_kind | _ => Tr.bad)))
  | 0 => fn_never (spN_bad fun ds hl => match ds, hl with | [v_kind], _ => by simp only [m__law_many])
  | n + 1 => by
    have ih := rk__law_many T n
    have ih__law_many := ih
    exact fn_pure (cl := T.cl) T.d__law_many.F sc__law_many (fun cdv A outer s H E hr => ⟨_, (pss_cons (ps_ret (pe_op op_addA pe_int (pe_callB (cr_sum rfl) (by rfl) T.z_sum (by decide +kernel) (pa_cons (pe_lc (own := [("one", 1)]) rfl sc__law_many.nd (pi_seq (pe_call (ok__law_inner T) (hr.mono (Nat.le_trans (by decide : 1 ≤ 1) (Nat.le_add_right 1 n))) (by rfl) T.d__law_inner.g T.d__law_inner.F.kp T.d__law_inner.b .nil pass0 (pa_cons (pv 0) pa_nil))) (blkOk_by (N := ["kind", "one"]) (sc := defScope s__law_many) (by decide +kernel)) (fun _ _ _ _ _ => pg_name (i := 1) sc__law_many.nd rfl (Or.inl rfl)) (fun _ _ _ _ _ => pts_nil) (fun _ _ _ _ _ => (pe_call ih__law_many (hr.mono (Nat.le_refl _)) (by rfl) T.d__law_many.g T.d__law_many.F.kp T.d__law_many.b .nil pass0 (pa_cons (pv 1) pa_nil)))) pa_nil)))) pss_nil), fun ds hl => match ds, hl with
          | [v_kind], _ => StG.eq ((st_ret (ev_op rr_add ev_int (ev_cb1 rk_sum (ev_lcS1 (fun _ _ => rfl) (ev_callN (ea_cons (ev_var (i := 0) rfl) ea_nil)) rfl (fun v_one => (ev_callN (ea_cons (ev_var (i := 1) rfl) ea_nil)))))))) (by simp only [m__law_many, Tr.ret_bind, Tr.bind_assoc, Tr.bind_ret, asB_bool, asI_int, on1_one, on2g_two, on2_two])⟩)
theorem ok__law_many (T : Txt w K mg) : FnOk P w K mg base CX0 13 T.d__law_many.f T.d__law_many.fd ["kind"] (SpN K 1 (fun ds => match ds with | [v_kind] => m__law_many 12 v_kind | _ => Tr.bad)) := (rk__law_many T 12)
theorem sc__law_some_kind : FnScope ["box", "kind"] ["box"] (defScope s__law_some_kind) := ⟨rfl, rfl, rfl, by decide +kernel, rfl, by decide +kernel, by decide +kernel⟩
theorem ok__law_some_kind (T : Txt w K mg) : FnOk P w K mg base CX0 14 T.d__law_some_kind.f T.d__law_some_kind.fd ["box"] (SpB K 0 (fun _ => m__law_some_kind)) :=
  fn_box (cl := T.cl) T.d__law_some_kind.F sc__law_some_kind rfl (fun cdv A outer s H E hr => ⟨_, (pss_cons (ps_set (i := 1) sc__law_some_kind.nd rfl (Or.inl rfl) (pe_call (ok__law_kind T) (hr.mono (by decide)) (by rfl) T.d__law_kind.g T.d__law_kind.F.kp T.d__law_kind.b .nil pass0 (pa_cons (pv 0) (pa_cons (pe_call (ok__law_pick T) (hr.mono (by decide)) (by rfl) T.d__law_pick.g T.d__law_pick.F.kp T.d__law_pick.b .nil pass0 (pa_cons (pv 0) (pa_cons (pe_lst (pa_cons pe_int (pa_cons pe_int (pa_cons pe_int (pa_cons pe_int (pa_cons pe_int pa_nil)))))) pa_nil))) pa_nil)))) (pss_cons (ps_ret (pe_ifExp (pt_cmpR op_le (pe_call (ok__law_many T) (hr.mono (by decide)) (by rfl) T.d__law_many.g T.d__law_many.F.kp T.d__law_many.b .nil pass0 (pa_cons (pv 1) pa_nil)) pe_int (nomark _)) (pv 1) (pe_tup (pa_cons pe_str (pa_cons (pe_tup (pa_cons pe_str (pa_cons pe_int pa_nil))) pa_nil))))) pss_nil)), fun ds hl => match ds, hl with
      | [], _ => StG.eq ((st_asg (i := 1) (fun _ _ => rfl) (ev_callB (i := 0) rfl (ea_cons (ev_callB (i := 0) rfl (ea_cons (ev_lst (ea_cons ev_int (ea_cons ev_int (ea_cons ev_int (ea_cons ev_int (ea_cons ev_int ea_nil)))))) ea_nil)) ea_nil)) (fun v_kind => (st_ret (ev_if (et_cmp rc_le (ev_callN (ea_cons (ev_var (i := 1) rfl) ea_nil)) ev_int) (ev_var (i := 1) rfl) (ev_tup (ea_cons ev_str (ea_cons (ev_tup (ea_cons ev_str (ea_cons ev_int ea_nil))) ea_nil)))))))) (by simp only [m__law_some_kind, Tr.ret_bind, Tr.bind_assoc, Tr.bind_ret, asB_bool, asI_int, on1_one, on2g_two, on2_two])⟩)
theorem sc__law_value : FnScope ["box", "kind", "most", "word", "items", "k", "one"] ["box", "kind", "most"] (defScope s__law_value) := ⟨rfl, rfl, rfl, by decide +kernel, rfl, by decide +kernel, by decide +kernel⟩
theorem rk__law_value (T : Txt w K mg) : ∀ n : Nat, (FnOk P w K mg base CX0 (1 + n) T.d__law_value.f T.d__law_value.fd ["box", "kind", "most"] (SpB K 2 (fun ds => match ds with | [v_kind, v_most] => m__law_value n v_kind v_most | _ => Tr.bad)))
  | 0 => fn_never (spB_bad fun ds hl => match ds, hl with | [v_kind, v_most], _ => by simp only [m__law_value])
  | n + 1 => by
    have ih := rk__law_value T n
    have ih__law_value := ih
    exact fn_box (cl := T.cl) T.d__law_value.F sc__law_value rfl (fun cdv A outer s H E hr => ⟨_, (pss_cons (ps_set (i := 3) sc__law_value.nd rfl (Or.inl rfl) (pe_ix ix_seq (pv 1) pe_int (fun _ _ => rfl))) (pss_cons (ps_if (pt_cmpR (op_eqP (room64 hr)) (pv 3) pe_str (nomark _)) (pss_cons (ps_ret (pe_call (ok__law_take T) (hr.mono (Nat.le_trans (by decide : 1 ≤ 1) (Nat.le_add_right 1 n))) (by rfl) T.d__law_take.g T.d__law_take.F.kp T.d__law_take.b .nil pass0 (pa_cons (pv 0) (pa_cons (pe_ix ix_seq (pv 1) pe_int (fun _ _ => rfl)) pa_nil)))) pss_nil) pss_nil) (pss_cons (ps_if (pt_cmpR (op_eqP (room64 hr)) (pv 3) pe_str (nomark _)) (pss_cons (ps_ret (pe_callTy call_tuple_of (by rfl) T.z_tuple (by decide +kernel) (pa_cons (pe_lc (own := [("one", 6)]) rfl sc__law_value.nd (pi_seq (pe_ix ix_seq (pv 1) pe_int (fun _ _ => rfl))) (blkOk_by (N := ["box", "kind", "most", "word", "items", "k", "one"]) (sc := defScope s__law_value) (by decide +kernel)) (fun _ _ _ _ _ => pg_name (i := 6) sc__law_value.nd rfl (Or.inl rfl)) (fun _ _ _ _ _ => pts_nil) (fun _ _ _ _ _ => (pe_call ih__law_value (hr.mono (Nat.le_refl _)) (by rfl) T.d__law_value.g T.d__law_value.F.kp T.d__law_value.b .nil pass0 (pa_cons (pv 0) (pa_cons (pv 6) (pa_cons (pv 2) pa_nil)))))) pa_nil))) pss_nil) pss_nil) (pss_cons (ps_if (pt_cmpR (op_eqP (room64 hr)) (pv 3) pe_str (nomark _)) (pss_cons (ps_set (i := 5) sc__law_value.nd rfl (Or.inl rfl) (pe_call (ok__law_take T) (hr.mono (Nat.le_trans (by decide : 1 ≤ 1) (Nat.le_add_right 1 n))) (by rfl) T.d__law_take.g T.d__law_take.F.kp T.d__law_take.b .nil pass0 (pa_cons (pv 0) (pa_cons (pe_callB call_len_seq (by rfl) T.z_len (by decide +kernel) (pa_cons (pe_ix ix_seq (pv 1) pe_int (fun _ _ => rfl)) pa_nil)) pa_nil)))) (pss_cons (ps_ret (pe_tup (pa_cons (pv 5) (pa_cons (pe_call ih__law_value (hr.mono (Nat.le_refl _)) (by rfl) T.d__law_value.g T.d__law_value.F.kp T.d__law_value.b .nil pass0 (pa_cons (pv 0) (pa_cons (pe_ix ix_seq (pe_ix ix_seq (pv 1) pe_int (fun _ _ => rfl)) (pv 5) (fun _ _ => rfl)) (pa_cons (pv 2) pa_nil)))) pa_nil)))) pss_nil)) pss_nil) (pss_cons (ps_setLc (i := 4) (own := [("k", 5)]) rfl sc__law_value.nd rfl rfl (sw_true rfl rfl rfl (by decide +kernel)) (pi_range1 (by rfl) T.z_range (pa_cons (pe_call (ok__law_take T) (hr.mono (Nat.le_trans (by decide : 1 ≤ 1) (Nat.le_add_right 1 n))) (by rfl) T.d__law_take.g T.d__law_take.F.kp T.d__law_take.b .nil pass0 (pa_cons (pv 0) (pa_cons (pe_op op_addA (pv 2) pe_int) pa_nil))) pa_nil)) (blkOk_by (N := ["box", "kind", "most", "word", "items", "k", "one"]) (sc := defScope s__law_value) (by decide +kernel)) (fun _ _ _ _ _ => pg_name (i := 5) sc__law_value.nd rfl (Or.inl rfl)) (fun _ _ _ _ _ => pts_nil) (fun _ _ _ _ _ => (pe_call ih__law_value (hr.mono (Nat.le_refl _)) (by rfl) T.d__law_value.g T.d__law_value.F.kp T.d__law_value.b .nil pass0 (pa_cons (pv 0) (pa_cons (pe_ix ix_seq (pv 1) pe_int (fun _ _ => rfl)) (pa_cons (pe_callB (call_max2 rfl) (by rfl) T.z_max (by decide +kernel) (pa_cons pe_int (pa_cons (pe_op op_sub (pv 2) pe_int) pa_nil))) pa_nil)))))) (pss_cons (ps_if (pt_cmpR (op_eqP (room64 hr)) (pv 3) pe_str (nomark _)) (pss_cons (ps_ret (pe_callTy call_tuple_of (by rfl) T.z_tuple (by decide +kernel) (pa_cons (pv 4) pa_nil))) pss_nil) pss_nil) (pss_cons (ps_set (i := 4) sc__law_value.nd rfl (Or.inl rfl) (Cgo.pe_sortSet rfl (room64 hr) (by rfl) T.z_sorted (by rfl) T.z_set (pv 4))) (pss_cons (ps_if (pt_cmpR (op_eqP (room64 hr)) (pv 3) pe_str (nomark _)) (pss_cons (ps_ret (pe_callTy call_tuple_of (by rfl) T.z_tuple (by decide +kernel) (pa_cons (pv 4) pa_nil))) pss_nil) pss_nil) (pss_cons (ps_if (pt_cmpR (op_eqP (room64 hr)) (pv 3) pe_str (nomark _)) (pss_cons (ps_ret (pe_callTy call_tuple_of (by rfl) T.z_tuple (by decide +kernel) (pa_cons (pe_lc (own := [("one", 6)]) rfl sc__law_value.nd (pi_seq (pv 4)) (blkOk_by (N := ["box", "kind", "most", "word", "items", "k", "one"]) (sc := defScope s__law_value) (by decide +kernel)) (fun _ _ _ _ _ => pg_name (i := 6) sc__law_value.nd rfl (Or.inl rfl)) (fun _ _ _ _ _ => pts_nil) (fun _ _ _ _ _ => (pe_tup (pa_cons (pv 6) (pa_cons (pe_op op_addA pe_int (pe_call (ok__law_take T) (hr.mono (Nat.le_trans (by decide : 1 ≤ 1) (Nat.le_add_right 1 n))) (by rfl) T.d__law_take.g T.d__law_take.F.kp T.d__law_take.b .nil pass0 (pa_cons (pv 0) (pa_cons pe_int pa_nil)))) pa_nil))))) pa_nil))) pss_nil) pss_nil) (pss_cons (ps_ret (pe_callTy call_tuple_of (by rfl) T.z_tuple (by decide +kernel) (pa_cons (pe_lc (own := [("one", 6)]) rfl sc__law_value.nd (pi_seq (pv 4)) (blkOk_by (N := ["box", "kind", "most", "word", "items", "k", "one"]) (sc := defScope s__law_value) (by decide +kernel)) (fun _ _ _ _ _ => pg_name (i := 6) sc__law_value.nd rfl (Or.inl rfl)) (fun _ _ _ _ _ => pts_nil) (fun _ _ _ _ _ => (pe_tup (pa_cons (pv 6) (pa_cons (pe_call ih__law_value (hr.mono (Nat.le_refl _)) (by rfl) T.d__law_value.g T.d__law_value.F.kp T.d__law_value.b .nil pass0 (pa_cons (pv 0) (pa_cons (pe_ix ix_seq (pv 1) pe_int (fun _ _ => rfl)) (pa_cons (pe_callB (call_max2 rfl) (by rfl) T.z_max (by decide +kernel) (pa_cons pe_int (pa_cons (pe_op op_sub (pv 2) pe_int) pa_nil))) pa_nil)))) pa_nil))))) pa_nil))) pss_nil)))))))))), fun ds hl => match ds, hl with
          | [v_kind, v_most], _ => StG.eq ((st_asg (i := 3) (fun _ _ => rfl) (ev_op rr_ix (ev_var (i := 1) rfl) ev_int) (fun v_word => (st_if (et_cmp rc_eq (ev_var (i := 3) rfl) ev_str) (st_ret (ev_callB (i := 0) rfl (ea_cons (ev_op rr_ix (ev_var (i := 1) rfl) ev_int) ea_nil))) (st_if (et_cmp rc_eq (ev_var (i := 3) rfl) ev_str) (st_ret (ev_cb1 rk_tuple (ev_lcS1 (fun _ _ => rfl) (ev_op rr_ix (ev_var (i := 1) rfl) ev_int) rfl (fun v_one => (ev_callB (i := 0) rfl (ea_cons (ev_var (i := 6) rfl) (ea_cons (ev_var (i := 2) rfl) ea_nil))))))) (st_if (et_cmp rc_eq (ev_var (i := 3) rfl) ev_str) (st_asg (i := 5) (fun _ _ => rfl) (ev_callB (i := 0) rfl (ea_cons (ev_cb1 rk_len (ev_op rr_ix (ev_var (i := 1) rfl) ev_int)) ea_nil)) (fun v_k => (st_ret (ev_tup (ea_cons (ev_var (i := 5) rfl) (ea_cons (ev_callB (i := 0) rfl (ea_cons (ev_op rr_ix (ev_op rr_ix (ev_var (i := 1) rfl) ev_int) (ev_var (i := 5) rfl)) (ea_cons (ev_var (i := 2) rfl) ea_nil))) ea_nil)))))) (st_asg (i := 4) (fun _ _ => rfl) (ev_lcR1n (fun _ _ => rfl) (ev_callB (i := 0) rfl (ea_cons (ev_op rr_add (ev_var (i := 2) rfl) ev_int) ea_nil)) rfl (fun v_k => (ev_callB (i := 0) rfl (ea_cons (ev_op rr_ix (ev_var (i := 1) rfl) ev_int) (ea_cons (ev_cb rk_max2 (ea_cons ev_int (ea_cons (ev_op rr_sub (ev_var (i := 2) rfl) ev_int) ea_nil))) ea_nil))))) (fun v_items => (st_if (et_cmp rc_eq (ev_var (i := 3) rfl) ev_str) (st_ret (ev_cb1 rk_tuple (ev_var (i := 4) rfl))) (st_asg (i := 4) (fun _ _ => rfl) (ev_sortSet (ev_var (i := 4) rfl)) (fun v_items => (st_if (et_cmp rc_eq (ev_var (i := 3) rfl) ev_str) (st_ret (ev_cb1 rk_tuple (ev_var (i := 4) rfl))) (st_if (et_cmp rc_eq (ev_var (i := 3) rfl) ev_str) (st_ret (ev_cb1 rk_tuple (ev_lcS1 (fun _ _ => rfl) (ev_var (i := 4) rfl) rfl (fun v_one => (ev_tup (ea_cons (ev_var (i := 6) rfl) (ea_cons (ev_op rr_add ev_int (ev_callB (i := 0) rfl (ea_cons ev_int ea_nil))) ea_nil))))))) (st_ret (ev_cb1 rk_tuple (ev_lcS1 (fun _ _ => rfl) (ev_var (i := 4) rfl) rfl (fun v_one => (ev_tup (ea_cons (ev_var (i := 6) rfl) (ea_cons (ev_callB (i := 0) rfl (ea_cons (ev_op rr_ix (ev_var (i := 1) rfl) ev_int) (ea_cons (ev_cb rk_max2 (ea_cons ev_int (ea_cons (ev_op rr_sub (ev_var (i := 2) rfl) ev_int) ea_nil))) ea_nil))) ea_nil)))))))))))))))))))) (by simp only [m__law_value, Tr.ret_bind, Tr.bind_assoc, Tr.bind_ret, asB_bool, asI_int, on1_one, on2g_two, on2_two])⟩)
theorem ok__law_value (T : Txt w K mg) : FnOk P w K mg base CX0 9 T.d__law_value.f T.d__law_value.fd ["box", "kind", "most"] (SpB K 2 (fun ds => match ds with | [v_kind, v_most] => m__law_value 8 v_kind v_most | _ => Tr.bad)) := (rk__law_value T 8)
theorem sc__law_weight : FnScope ["kind", "v", "word", "k", "one", "key", "entry", "count"] ["kind", "v"] (defScope s__law_weight) := ⟨rfl, rfl, rfl, by decide +kernel, rfl, by decide +kernel, by decide +kernel⟩
theorem rk__law_weight (T : Txt w K mg) : ∀ n : Nat, (FnOk P w K mg base CX0 (0 + n) T.d__law_weight.f T.d__law_weight.fd ["kind", "v"] (SpN K 2 (fun ds => match ds with | [v_kind, v_v] => m__law_weight n v_kind v_v | _ => Tr.bad)))
  | 0 => fn_never (spN_bad fun ds hl => match ds, hl with | [v_kind, v_v], _ => by simp only [m__law_weight])
  | n + 1 => by
    have ih := rk__law_weight T n
    have ih__law_weight := ih
    exact fn_pure (cl := T.cl) T.d__law_weight.F sc__law_weight (fun cdv A outer s H E hr => ⟨_, (pss_cons (ps_set (i := 2) sc__law_weight.nd rfl (Or.inl rfl) (pe_ix ix_seq (pv 0) pe_int (fun _ _ => rfl))) (pss_cons (ps_if (pt_cmpR (op_eqP (room64 hr)) (pv 2) pe_str (nomark _)) (pss_cons (ps_ret pe_int) pss_nil) pss_nil) (pss_cons (ps_if (pt_cmpR (op_eqP (room64 hr)) (pv 2) pe_str (nomark _)) (pss_cons (ps_ret (pe_op op_addA pe_int (pe_callB (cr_sum rfl) (by rfl) T.z_sum (by decide +kernel) (pa_cons (pe_lc (own := [("k", 3)]) rfl sc__law_weight.nd (pi_range1 (by rfl) T.z_range (pa_cons (pe_callB call_len_seq (by rfl) T.z_len (by decide +kernel) (pa_cons (pv 1) pa_nil)) pa_nil)) (blkOk_by (N := ["kind", "v", "word", "k", "one", "key", "entry", "count"]) (sc := defScope s__law_weight) (by decide +kernel)) (fun _ _ _ _ _ => pg_name (i := 3) sc__law_weight.nd rfl (Or.inl rfl)) (fun _ _ _ _ _ => pts_nil) (fun _ _ _ _ _ => (pe_call ih__law_weight (hr.mono (Nat.le_refl _)) (by rfl) T.d__law_weight.g T.d__law_weight.F.kp T.d__law_weight.b .nil pass0 (pa_cons (pe_ix ix_seq (pe_ix ix_seq (pv 0) pe_int (fun _ _ => rfl)) (pv 3) (fun _ _ => rfl)) (pa_cons (pe_ix ix_seq (pv 1) (pv 3) (fun _ _ => rfl)) pa_nil))))) pa_nil)))) pss_nil) pss_nil) (pss_cons (ps_if (pt_cmpR (op_eqP (room64 hr)) (pv 2) pe_str (nomark _)) (pss_cons (ps_ret (pe_op op_addA pe_int (pe_call ih__law_weight (hr.mono (Nat.le_refl _)) (by rfl) T.d__law_weight.g T.d__law_weight.F.kp T.d__law_weight.b .nil pass0 (pa_cons (pe_ix ix_seq (pe_ix ix_seq (pv 0) pe_int (fun _ _ => rfl)) (pe_ix ix_seq (pv 1) pe_int (fun _ _ => rfl)) (fun _ _ => rfl)) (pa_cons (pe_ix ix_seq (pv 1) pe_int (fun _ _ => rfl)) pa_nil))))) pss_nil) pss_nil) (pss_cons (ps_if (pt_cmpR (op_inP (room65 hr)) (pv 2) (pe_tup (pa_cons pe_str (pa_cons pe_str pa_nil))) rfl) (pss_cons (ps_ret (pe_op op_addA pe_int (pe_callB (cr_sum rfl) (by rfl) T.z_sum (by decide +kernel) (pa_cons (pe_lc (own := [("one", 4)]) rfl sc__law_weight.nd (pi_seq (pv 1)) (blkOk_by (N := ["kind", "v", "word", "k", "one", "key", "entry", "count"]) (sc := defScope s__law_weight) (by decide +kernel)) (fun _ _ _ _ _ => pg_name (i := 4) sc__law_weight.nd rfl (Or.inl rfl)) (fun _ _ _ _ _ => pts_nil) (fun _ _ _ _ _ => (pe_call ih__law_weight (hr.mono (Nat.le_refl _)) (by rfl) T.d__law_weight.g T.d__law_weight.F.kp T.d__law_weight.b .nil pass0 (pa_cons (pe_ix ix_seq (pv 0) pe_int (fun _ _ => rfl)) (pa_cons (pv 4) pa_nil))))) pa_nil)))) pss_nil) pss_nil) (pss_cons (ps_if (pt_cmpR (op_eqP (room64 hr)) (pv 2) pe_str (nomark _)) (pss_cons (ps_ret (pe_op op_addA pe_int (pe_callB (cr_sum rfl) (by rfl) T.z_sum (by decide +kernel) (pa_cons (pe_lc (own := [("one", 4), ("count", 7)]) rfl sc__law_weight.nd (pi_seq (pv 1)) (blkOk_by (N := ["kind", "v", "word", "k", "one", "key", "entry", "count"]) (sc := defScope s__law_weight) (by decide +kernel)) (fun _ _ _ _ _ => pg_tup rfl (pgs_cons (pg_name (i := 4) sc__law_weight.nd rfl (Or.inl rfl)) (pgs_cons (pg_name (i := 7) sc__law_weight.nd rfl (Or.inl rfl)) pgs_nil))) (fun _ _ _ _ _ => pts_nil) (fun _ _ _ _ _ => (pe_op op_mulA (pv 7) (pe_call ih__law_weight (hr.mono (Nat.le_refl _)) (by rfl) T.d__law_weight.g T.d__law_weight.F.kp T.d__law_weight.b .nil pass0 (pa_cons (pe_ix ix_seq (pv 0) pe_int (fun _ _ => rfl)) (pa_cons (pv 4) pa_nil)))))) pa_nil)))) pss_nil) pss_nil) (pss_cons (ps_ret (pe_op op_addA pe_int (pe_callB (cr_sum rfl) (by rfl) T.z_sum (by decide +kernel) (pa_cons (pe_lc (own := [("key", 5), ("entry", 6)]) rfl sc__law_weight.nd (pi_seq (pv 1)) (blkOk_by (N := ["kind", "v", "word", "k", "one", "key", "entry", "count"]) (sc := defScope s__law_weight) (by decide +kernel)) (fun _ _ _ _ _ => pg_tup rfl (pgs_cons (pg_name (i := 5) sc__law_weight.nd rfl (Or.inl rfl)) (pgs_cons (pg_name (i := 6) sc__law_weight.nd rfl (Or.inl rfl)) pgs_nil))) (fun _ _ _ _ _ => pts_nil) (fun _ _ _ _ _ => (pe_op op_addA (pe_call ih__law_weight (hr.mono (Nat.le_refl _)) (by rfl) T.d__law_weight.g T.d__law_weight.F.kp T.d__law_weight.b .nil pass0 (pa_cons (pe_ix ix_seq (pv 0) pe_int (fun _ _ => rfl)) (pa_cons (pv 5) pa_nil))) (pe_call ih__law_weight (hr.mono (Nat.le_refl _)) (by rfl) T.d__law_weight.g T.d__law_weight.F.kp T.d__law_weight.b .nil pass0 (pa_cons (pe_ix ix_seq (pv 0) pe_int (fun _ _ => rfl)) (pa_cons (pv 6) pa_nil)))))) pa_nil)))) pss_nil))))))), fun ds hl => match ds, hl with
          | [v_kind, v_v], _ => StG.eq ((st_asg (i := 2) (fun _ _ => rfl) (ev_op rr_ix (ev_var (i := 0) rfl) ev_int) (fun v_word => (st_if (et_cmp rc_eq (ev_var (i := 2) rfl) ev_str) (st_ret ev_int) (st_if (et_cmp rc_eq (ev_var (i := 2) rfl) ev_str) (st_ret (ev_op rr_add ev_int (ev_cb1 rk_sum (ev_lcR1n (fun _ _ => rfl) (ev_cb1 rk_len (ev_var (i := 1) rfl)) rfl (fun v_k => (ev_callN (ea_cons (ev_op rr_ix (ev_op rr_ix (ev_var (i := 0) rfl) ev_int) (ev_var (i := 3) rfl)) (ea_cons (ev_op rr_ix (ev_var (i := 1) rfl) (ev_var (i := 3) rfl)) ea_nil)))))))) (st_if (et_cmp rc_eq (ev_var (i := 2) rfl) ev_str) (st_ret (ev_op rr_add ev_int (ev_callN (ea_cons (ev_op rr_ix (ev_op rr_ix (ev_var (i := 0) rfl) ev_int) (ev_op rr_ix (ev_var (i := 1) rfl) ev_int)) (ea_cons (ev_op rr_ix (ev_var (i := 1) rfl) ev_int) ea_nil))))) (st_if (et_cmp rc_in (ev_var (i := 2) rfl) (ev_tup (ea_cons ev_str (ea_cons ev_str ea_nil)))) (st_ret (ev_op rr_add ev_int (ev_cb1 rk_sum (ev_lcS1 (fun _ _ => rfl) (ev_var (i := 1) rfl) rfl (fun v_one => (ev_callN (ea_cons (ev_op rr_ix (ev_var (i := 0) rfl) ev_int) (ea_cons (ev_var (i := 4) rfl) ea_nil)))))))) (st_if (et_cmp rc_eq (ev_var (i := 2) rfl) ev_str) (st_ret (ev_op rr_add ev_int (ev_cb1 rk_sum (ev_lcS2 (fun _ _ => rfl) (ev_var (i := 1) rfl) rfl (fun v_one v_count => (ev_op rr_mul (ev_var (i := 7) rfl) (ev_callN (ea_cons (ev_op rr_ix (ev_var (i := 0) rfl) ev_int) (ea_cons (ev_var (i := 4) rfl) ea_nil))))))))) (st_ret (ev_op rr_add ev_int (ev_cb1 rk_sum (ev_lcS2 (fun _ _ => rfl) (ev_var (i := 1) rfl) rfl (fun v_key v_entry => (ev_op rr_add (ev_callN (ea_cons (ev_op rr_ix (ev_var (i := 0) rfl) ev_int) (ea_cons (ev_var (i := 5) rfl) ea_nil))) (ev_callN (ea_cons (ev_op rr_ix (ev_var (i := 0) rfl) ev_int) (ea_cons (ev_var (i := 6) rfl) ea_nil))))))))))))))))) (by simp only [m__law_weight, Tr.ret_bind, Tr.bind_assoc, Tr.bind_ret, asB_bool, asI_int, on1_one, on2g_two, on2_two])⟩)
theorem ok__law_weight (T : Txt w K mg) : FnOk P w K mg base CX0 8 T.d__law_weight.f T.d__law_weight.fd ["kind", "v"] (SpN K 2 (fun ds => match ds with | [v_kind, v_v] => m__law_weight 8 v_kind v_v | _ => Tr.bad)) := (rk__law_weight T 8)
theorem sc__law_plain : FnScope ["kind", "one"] ["kind"] (defScope s__law_plain) := ⟨rfl, rfl, rfl, by decide +kernel, rfl, by decide +kernel, by decide +kernel⟩
theorem rk__law_plain (T : Txt w K mg) : ∀ n : Nat, (FnOk P w K mg base CX0 (0 + n) T.d__law_plain.f T.d__law_plain.fd ["kind"] (SpN K 1 (fun ds => match ds with | [v_kind] => m__law_plain n v_kind | _ => Tr.bad)))
  | 0 => fn_never (spN_bad fun ds hl => match ds, hl with | [v_kind], _ => by simp only [m__law_plain])
  | n + 1 => by
    have ih := rk__law_plain T n
    have ih__law_plain := ih
    exact fn_pure (cl := T.cl) T.d__law_plain.F sc__law_plain (fun cdv A outer s H E hr => ⟨_, (pss_cons (ps_if (pt_cmpR (op_eqP (room64 hr)) (pe_ix ix_seq (pv 0) pe_int (fun _ _ => rfl)) pe_str (nomark _)) (pss_cons (ps_ret pe_int) pss_nil) pss_nil) (pss_cons (ps_if (pt_cmpR (op_eqP (room64 hr)) (pe_ix ix_seq (pv 0) pe_int (fun _ _ => rfl)) pe_str (nomark _)) (pss_cons (ps_ret (pe_callTy call_tuple_of (by rfl) T.z_tuple (by decide +kernel) (pa_cons (pe_lc (own := [("one", 1)]) rfl sc__law_plain.nd (pi_seq (pe_ix ix_seq (pv 0) pe_int (fun _ _ => rfl))) (blkOk_by (N := ["kind", "one"]) (sc := defScope s__law_plain) (by decide +kernel)) (fun _ _ _ _ _ => pg_name (i := 1) sc__law_plain.nd rfl (Or.inl rfl)) (fun _ _ _ _ _ => pts_nil) (fun _ _ _ _ _ => (pe_call ih__law_plain (hr.mono (Nat.le_refl _)) (by rfl) T.d__law_plain.g T.d__law_plain.F.kp T.d__law_plain.b .nil pass0 (pa_cons (pv 1) pa_nil)))) pa_nil))) pss_nil) pss_nil) (pss_cons (ps_ret (pe_ifExp (pt_cmpR (op_eqP (room64 hr)) (pe_ix ix_seq (pv 0) pe_int (fun _ _ => rfl)) pe_str (nomark _)) (pe_tup (pa_cons pe_int (pa_cons (pe_call ih__law_plain (hr.mono (Nat.le_refl _)) (by rfl) T.d__law_plain.g T.d__law_plain.F.kp T.d__law_plain.b .nil pass0 (pa_cons (pe_ix ix_seq (pe_ix ix_seq (pv 0) pe_int (fun _ _ => rfl)) pe_int (fun _ _ => rfl)) pa_nil)) pa_nil))) (pe_tup pa_nil))) pss_nil))), fun ds hl => match ds, hl with
          | [v_kind], _ => StG.eq ((st_if (et_cmp rc_eq (ev_op rr_ix (ev_var (i := 0) rfl) ev_int) ev_str) (st_ret ev_int) (st_if (et_cmp rc_eq (ev_op rr_ix (ev_var (i := 0) rfl) ev_int) ev_str) (st_ret (ev_cb1 rk_tuple (ev_lcS1 (fun _ _ => rfl) (ev_op rr_ix (ev_var (i := 0) rfl) ev_int) rfl (fun v_one => (ev_callN (ea_cons (ev_var (i := 1) rfl) ea_nil)))))) (st_ret (ev_if (et_cmp rc_eq (ev_op rr_ix (ev_var (i := 0) rfl) ev_int) ev_str) (ev_tup (ea_cons ev_int (ea_cons (ev_callN (ea_cons (ev_op rr_ix (ev_op rr_ix (ev_var (i := 0) rfl) ev_int) ev_int) ea_nil)) ea_nil))) (ev_tup ea_nil)))))) (by simp only [m__law_plain, Tr.ret_bind, Tr.bind_assoc, Tr.bind_ret, asB_bool, asI_int, on1_one, on2g_two, on2_two])⟩)
theorem ok__law_plain (T : Txt w K mg) : FnOk P w K mg base CX0 8 T.d__law_plain.f T.d__law_plain.fd ["kind"] (SpN K 1 (fun ds => match ds with | [v_kind] => m__law_plain 8 v_kind | _ => Tr.bad)) := (rk__law_plain T 8)
theorem sc__law_some_value : FnScope ["box", "kind", "v"] ["box", "kind"] (defScope s__law_some_value) := ⟨rfl, rfl, rfl, by decide +kernel, rfl, by decide +kernel, by decide +kernel⟩
theorem ok__law_some_value (T : Txt w K mg) : FnOk P w K mg base CX0 10 T.d__law_some_value.f T.d__law_some_value.fd ["box", "kind"] (SpB K 1 (fun ds => match ds with | [v_kind] => m__law_some_value v_kind | _ => Tr.bad)) :=
  fn_box (cl := T.cl) T.d__law_some_value.F sc__law_some_value rfl (fun cdv A outer s H E hr => ⟨_, (pss_cons (ps_set (i := 2) sc__law_some_value.nd rfl (Or.inl rfl) (pe_call (ok__law_value T) (hr.mono (by decide)) (by rfl) T.d__law_value.g T.d__law_value.F.kp T.d__law_value.b .nil pass0 (pa_cons (pv 0) (pa_cons (pv 1) (pa_cons (pe_call (ok__law_pick T) (hr.mono (by decide)) (by rfl) T.d__law_pick.g T.d__law_pick.F.kp T.d__law_pick.b .nil pass0 (pa_cons (pv 0) (pa_cons (pe_lst (pa_cons pe_int (pa_cons pe_int (pa_cons pe_int (pa_cons pe_int (pa_cons pe_int pa_nil)))))) pa_nil))) pa_nil))))) (pss_cons (ps_ret (pe_ifExp (pt_cmpR op_le (pe_call (ok__law_weight T) (hr.mono (by decide)) (by rfl) T.d__law_weight.g T.d__law_weight.F.kp T.d__law_weight.b .nil pass0 (pa_cons (pv 1) (pa_cons (pv 2) pa_nil))) pe_int (nomark _)) (pv 2) (pe_call (ok__law_plain T) (hr.mono (by decide)) (by rfl) T.d__law_plain.g T.d__law_plain.F.kp T.d__law_plain.b .nil pass0 (pa_cons (pv 1) pa_nil)))) pss_nil)), fun ds hl => match ds, hl with
      | [v_kind], _ => StG.eq ((st_asg (i := 2) (fun _ _ => rfl) (ev_callB (i := 0) rfl (ea_cons (ev_var (i := 1) rfl) (ea_cons (ev_callB (i := 0) rfl (ea_cons (ev_lst (ea_cons ev_int (ea_cons ev_int (ea_cons ev_int (ea_cons ev_int (ea_cons ev_int ea_nil)))))) ea_nil)) ea_nil))) (fun v_v => (st_ret (ev_if (et_cmp rc_le (ev_callN (ea_cons (ev_var (i := 1) rfl) (ea_cons (ev_var (i := 2) rfl) ea_nil))) ev_int) (ev_var (i := 2) rfl) (ev_callN (ea_cons (ev_var (i := 1) rfl) ea_nil))))))) (by simp only [m__law_some_value, Tr.ret_bind, Tr.bind_assoc, Tr.bind_ret, asB_bool, asI_int, on1_one, on2g_two, on2_two])⟩)
theorem sc__law_class : FnScope ["e", "kinds"] ["e"] (defScope s__law_class) := ⟨rfl, rfl, rfl, by decide +kernel, rfl, by decide +kernel, by decide +kernel⟩
theorem errs_of (T : Txt w K mg) : ∀ c : Ek, Cgx.ErrC K (T.cl c)
  | .kind => T.e_BadKind
  | .value => T.e_BadValue
  | .patch => T.e_BadPatch
  | .unfit => T.e_Unfit
  | .base => T.e_CorrigendaError
theorem ok__law_class (T : Txt w K mg) (c : Ek) (t0 : Addr) : FnErr P w K mg base 1 T.d__law_class.f T.d__law_class.fd ["e"] (fun p H => Cgx.Zt (.ref (T.cl c)) (some t0) p.2 ∧ (∃ vs, p.2.data = .fields vs) ∧ H t0 = some (.tup [])) (.str (nmE c)) := by
  refine fn_err T.d__law_class.F sc__law_class fun cdv A outer s H p Q hr hot hok hq => ?_
  obtain ⟨hz, hf, ht⟩ := hok
  have hu : (A.deeper (envOfC "_law_class" (defScope s__law_class) s.heap.objs.size T.d__law_class.f cdv)).units + 65 < cLine := by
    have := hr.un
    omega
  have hu64 : (A.deeper (envOfC "_law_class" (defScope s__law_class) s.heap.objs.size T.d__law_class.f cdv)).units + 64 < cLine := Nat.lt_of_succ_lt hu
  have hu2 : (A.deeper (envOfC "_law_class" (defScope s__law_class) s.heap.objs.size T.d__law_class.f cdv)).units + 2 < cLine := by omega
  have hp : (p.1, p.2) ∈ (L2H.cxH CX0 P w K mg base ["e", "kinds"] "_law_class" (defScope s__law_class) T.d__law_class.f cdv A outer s H E0 p).nox.pn := List.mem_cons_self
  refine ⟨_, pss_cons (ps_set (i := 1) sc__law_class.nd rfl (Or.inl rfl) (pe_lst
      (pa_cons (pe_callB (call_isP (T.isE c) hp hz hf) (by rfl) T.z_isinstance (by decide +kernel) (pa_cons (pv 0) (pa_cons (pe_glob (v := V.ref (T.cl .kind)) (by rfl) T.g_BadKind rfl) pa_nil)))
      (pa_cons (pe_callB (call_isP (T.isE c) hp hz hf) (by rfl) T.z_isinstance (by decide +kernel) (pa_cons (pv 0) (pa_cons (pe_glob (v := V.ref (T.cl .value)) (by rfl) T.g_BadValue rfl) pa_nil)))
      (pa_cons (pe_callB (call_isP (T.isE c) hp hz hf) (by rfl) T.z_isinstance (by decide +kernel) (pa_cons (pv 0) (pa_cons (pe_glob (v := V.ref (T.cl .patch)) (by rfl) T.g_BadPatch rfl) pa_nil)))
      (pa_cons (pe_callB (call_isP (T.isE c) hp hz hf) (by rfl) T.z_isinstance (by decide +kernel) (pa_cons (pv 0) (pa_cons (pe_glob (v := V.ref (T.cl .unfit)) (by rfl) T.g_Unfit rfl) pa_nil))) pa_nil))))))
    (pss_cons (ps_if (PW.pt (pw_or (pt_cmpR (op_neP hu64) (pe_bm PySem.F.plainAttrs_list PySem.F.slot_list_count PySem.F.type_list_count (mt_countP hu) (pv 1) (pa_cons pe_bl pa_nil)) pe_int (nomark _))
        (pw_or (pt_not (pt_val (pe_callB (call_isP (T.isE c) hp hz hf) (by rfl) T.z_isinstance (by decide +kernel) (pa_cons (pv 0) (pa_cons (pe_bltn (v := V.ty "ValueError") (u := .type "ValueError") (by rfl) T.z_ValueError (by decide +kernel) rfl) pa_nil)))))
        (pw_or1 (pt_cmpR (op_neP hu64) (pe_callTy (call_strP hu2 (T.strE c) (errs_of T c).sb hp hz hf) (by rfl) T.z_str (by decide +kernel) (pa_cons (pv 0) pa_nil)) pe_str (nomark _))))))
      (pss_one (ps_ret pe_str)) pss_nil)
    (pss_one (ps_ret (pe_ix ix_list (pe_lst (pa_cons pe_str (pa_cons pe_str (pa_cons pe_str (pa_cons pe_str pa_nil))))) (pe_bm PySem.F.plainAttrs_list PySem.F.slot_list_index PySem.F.type_list_index mt_index (pv 1) (pa_cons pe_bl pa_nil)) (fun _ _ => rfl))))), ?_⟩
  have k := T.kOne c
  refine ⟨.ref p.1, rfl, _, _, _, rfl, fun _ z => z, k .kind, .ref p.1, rfl, _, _, _, rfl, fun _ z => z, k .value, .ref p.1, rfl, _, _, _, rfl, fun _ z => z, k .patch, .ref p.1, rfl, _, _, _, rfl, fun _ z => z, k .unfit, by show 4 ≤ sizeLine; decide, fun l hl => ?_⟩
  have hL : (upd H l (.lst [V.bl (subE c .kind), V.bl (subE c .value), V.bl (subE c .patch), V.bl (subE c .unfit)])) l = some (.lst [V.bl (subE c .kind), V.bl (subE c .value), V.bl (subE c .patch), V.bl (subE c .unfit)]) := upd_same
  have ht' : (upd H l (.lst [V.bl (subE c .kind), V.bl (subE c .value), V.bl (subE c .patch), V.bl (subE c .unfit)])) t0 = some (.tup []) := by
    rw [upd_ne (ne_of_none ht hl)]
    exact ht
  have ex : Ex H (upd H l (.lst [V.bl (subE c .kind), V.bl (subE c .value), V.bl (subE c .patch), V.bl (subE c .unfit)])) := Ex.new hl
  generalize upd H l (.lst [V.bl (subE c .kind), V.bl (subE c .value), V.bl (subE c .patch), V.bl (subE c .unfit)]) = H1 at hL ht' ex
  have dl : Dp K H1 (.ref l) (.list [.bool (subE c .kind), .bool (subE c .value), .bool (subE c .patch), .bool (subE c .unfit)]) := .lst (SqL.of hL) (.cons (.bl _) (.cons (.bl _) (.cons (.bl _) (.cons (.bl _) .nil))))
  refine ⟨.ref l, rfl, .inl ⟨rfl, _, SqL.of hL⟩, l, .bl true, .bool true, _, rfl, rfl, dl, .bl true, rfl, rfl, Nat.le_trans (Nat.min_le_right _ _) (by decide), .int _, .int 1, .int _, .int _, rfl, rfl, Nat.le_trans (Nat.min_le_right _ _) (by decide), _, rfl, ?_⟩
  by_cases hc : c = .base
  · subst hc
    refine ite2 (fun _ => hq H1 ex) (fun z => absurd ?_ z)
    decide
  · have e1 : (!PyData.eqv (.int (([PyData.bool (subE c .kind), .bool (subE c .value), .bool (subE c .patch), .bool (subE c .unfit)].countP fun z => PyData.eqv z (.bool true) : Nat) : Int)) (.int 1)) = false := by
      cases c <;> first
        | exact absurd rfl hc
        | decide
    rw [e1]
    refine iteF ?_
    refine ⟨.ref p.1, rfl, .ty "ValueError", .type "ValueError", true, rfl, fun _ z => z, T.kVE c, true, rfl, ?_⟩
    refine iteF ?_
    refine ⟨.ref p.1, rfl, rfl, ht', .str _, .str "", .str _, .str _, rfl, rfl, by decide, _, rfl, ?_⟩
    have e2 : (!PyData.eqv (.str Str.empty) (.str (Str.ofString ""))) = false := by decide
    rw [e2]
    refine iteF ?_
    refine ⟨by show 4 ≤ sizeLine; decide, fun m hm => ?_⟩
    have hL2 : (upd H1 m (.lst [.str "kind", .str "value", .str "patch", .str "unfit"])) l = some (.lst [V.bl (subE c .kind), V.bl (subE c .value), V.bl (subE c .patch), V.bl (subE c .unfit)]) := by
      rw [upd_ne (ne_of_none hL hm)]
      exact hL
    have fin := hq _ (ex.trans (Ex.new (o := .lst [.str "kind", .str "value", .str "patch", .str "unfit"]) hm))
    cases c with
    | kind => exact ⟨.ref l, rfl, .inl ⟨rfl, _, SqL.of hL2⟩, l, _, .bl true, 0, .bl true, rfl, rfl, SqL.of hL2, rfl, rfl, rfl, rfl, fun m z' h => absurd h (Nat.not_lt_zero _), m, _, 0, _, rfl, rfl, SqL.of upd_same, rfl, fin⟩
    | value => exact ⟨.ref l, rfl, .inl ⟨rfl, _, SqL.of hL2⟩, l, _, .bl true, 1, .bl true, rfl, rfl, SqL.of hL2, rfl, rfl, rfl, rfl, fun m z' h e => (by
        match m, h with
        | 0, _ => cases e; rfl), m, _, 1, _, rfl, rfl, SqL.of upd_same, rfl, fin⟩
    | patch => exact ⟨.ref l, rfl, .inl ⟨rfl, _, SqL.of hL2⟩, l, _, .bl true, 2, .bl true, rfl, rfl, SqL.of hL2, rfl, rfl, rfl, rfl, fun m z' h e => (by
        match m, h with
        | 0, _ => cases e; rfl
        | 1, _ => cases e; rfl), m, _, 2, _, rfl, rfl, SqL.of upd_same, rfl, fin⟩
    | unfit => exact ⟨.ref l, rfl, .inl ⟨rfl, _, SqL.of hL2⟩, l, _, .bl true, 3, .bl true, rfl, rfl, SqL.of hL2, rfl, rfl, rfl, rfl, fun m z' h e => (by
        match m, h with
        | 0, _ => cases e; rfl
        | 1, _ => cases e; rfl
        | 2, _ => cases e; rfl), m, _, 3, _, rfl, rfl, SqL.of upd_same, rfl, fin⟩
    | base => exact absurd rfl hc
theorem sc__law_number : FnScope ["x", "low", "high"] ["x", "low", "high"] (defScope s__law_number) := ⟨rfl, rfl, rfl, by decide +kernel, rfl, by decide +kernel, by decide +kernel⟩
theorem ok__law_number (T : Txt w K mg) : FnOk P w K mg base CX0 1 T.d__law_number.f T.d__law_number.fd ["x", "low", "high"] (SpN K 3 (fun ds => match ds with | [v_x, v_low, v_high] => m__law_number v_x v_low v_high | _ => Tr.bad)) :=
  fn_pure (cl := T.cl) T.d__law_number.F sc__law_number (fun cdv A outer s H E hr => ⟨_, (pss_cons (ps_ret (pe_and (pe_callB call_isi (by rfl) T.z_isinstance (by decide +kernel) (pa_cons (pv 0) (pa_cons (pe_bltn (v := V.ty "int") (u := .type "int") (by rfl) T.z_int (by decide +kernel) rfl) pa_nil))) (pe_and (pe_not (pe_callB call_isi (by rfl) T.z_isinstance (by decide +kernel) (pa_cons (pv 0) (pa_cons (pe_bltn (v := V.ty "bool") (u := .type "bool") (by rfl) T.z_bool (by decide +kernel) rfl) pa_nil)))) (pe_and (pe_cmpR op_le (pv 1) (pv 0) (nomark _)) (pe_one (pe_cmpR op_le (pv 0) (pv 2) (nomark _))))))) pss_nil), fun ds hl => match ds, hl with
      | [v_x, v_low, v_high], _ => StG.eq ((st_ret (ev_andV (ev_isi isTy_int (ev_var (i := 0) rfl)) (ev_andV (ev_notV (ev_isi isTy_bool (ev_var (i := 0) rfl))) (ev_andV (ev_cmp rc_le (ev_var (i := 1) rfl) (ev_var (i := 0) rfl)) (ev_cmp rc_le (ev_var (i := 0) rfl) (ev_var (i := 2) rfl))))))) (by simp only [m__law_number, Tr.ret_bind, Tr.bind_assoc, Tr.bind_ret, asB_bool, asI_int, on1_one, on2g_two, on2_two])⟩)
theorem sc__law_rises : FnScope ["x", "k"] ["x"] (defScope s__law_rises) := ⟨rfl, rfl, rfl, by decide +kernel, rfl, by decide +kernel, by decide +kernel⟩
theorem ok__law_rises (T : Txt w K mg) : FnOk P w K mg base CX0 1 T.d__law_rises.f T.d__law_rises.fd ["x"] (SpN K 1 (fun ds => match ds with | [v_x] => m__law_rises v_x | _ => Tr.bad)) :=
  fn_pure (cl := T.cl) T.d__law_rises.F sc__law_rises (fun cdv A outer s H E hr => ⟨_, (pss_cons (ps_ret (pe_cmpR (op_eqP (room64 hr)) (pe_lc (own := [("k", 1)]) rfl sc__law_rises.nd (pi_range2 (by rfl) T.z_range (pa_cons pe_int (pa_cons (pe_callB call_len_seq (by rfl) T.z_len (by decide +kernel) (pa_cons (pv 0) pa_nil)) pa_nil))) (blkOk_by (N := ["x", "k"]) (sc := defScope s__law_rises) (by decide +kernel)) (fun _ _ _ _ _ => pg_name (i := 1) sc__law_rises.nd rfl (Or.inl rfl)) (fun _ _ _ _ _ => pts_one (pt_not (pt_cmpR (Cgo.op_ltD (room64 hr)) (pe_ix ix_seq (pv 0) (pe_op op_sub (pv 1) pe_int) (fun _ _ => rfl)) (pe_ix ix_seq (pv 0) (pv 1) (fun _ _ => rfl)) (nomark _)))) (fun _ _ _ _ _ => (pv 1))) (pe_lst pa_nil) (nomark _))) pss_nil), fun ds hl => match ds, hl with
      | [v_x], _ => StG.eq ((st_ret (ev_cmp rc_eq (ev_lcR2i (fun _ _ => rfl) ev_int (ev_cb1 rk_len (ev_var (i := 0) rfl)) rfl (fun v_k => (et_not (et_cmp rc_ltD (ev_op rr_ix (ev_var (i := 0) rfl) (ev_op rr_sub (ev_var (i := 1) rfl) ev_int)) (ev_op rr_ix (ev_var (i := 0) rfl) (ev_var (i := 1) rfl))))) (fun v_k => (ev_var (i := 1) rfl))) (ev_lst ea_nil)))) (by simp only [m__law_rises, Tr.ret_bind, Tr.bind_assoc, Tr.bind_ret, asB_bool, asI_int, on1_one, on2g_two, on2_two])⟩)
theorem sc__law_is_value : FnScope ["kind", "v", "word", "pair", "x", "k"] ["kind", "v"] (defScope s__law_is_value) := ⟨rfl, rfl, rfl, by decide +kernel, rfl, by decide +kernel, by decide +kernel⟩
theorem rk__law_is_value (T : Txt w K mg) : ∀ n : Nat, (FnOk P w K mg base CX0 (1 + n) T.d__law_is_value.f T.d__law_is_value.fd ["kind", "v"] (SpN K 2 (fun ds => match ds with | [v_kind, v_v] => m__law_is_value n v_kind v_v | _ => Tr.bad)))
  | 0 => fn_never (spN_bad fun ds hl => match ds, hl with | [v_kind, v_v], _ => by simp only [m__law_is_value])
  | n + 1 => by
    have ih := rk__law_is_value T n
    have ih__law_is_value := ih
    exact fn_pure (cl := T.cl) T.d__law_is_value.F sc__law_is_value (fun cdv A outer s H E hr => ⟨_, (pss_cons (ps_set (i := 2) sc__law_is_value.nd rfl (Or.inl rfl) (pe_ix ix_seq (pv 0) pe_int (fun _ _ => rfl))) (pss_cons (ps_if (pt_cmpR (op_eqP (room64 hr)) (pv 2) pe_str (nomark _)) (pss_cons (ps_ret (pe_call (ok__law_number T) (hr.mono (Nat.le_trans (by decide : 1 ≤ 1) (Nat.le_add_right 1 n))) (by rfl) T.d__law_number.g T.d__law_number.F.kp T.d__law_number.b .nil pass0 (pa_cons (pv 1) (pa_cons pe_int (pa_cons (pe_op op_sub (pe_ix ix_seq (pv 0) pe_int (fun _ _ => rfl)) pe_int) pa_nil))))) pss_nil) pss_nil) (pss_cons (ps_if (pt_not (pt_val (pe_callB call_isi (by rfl) T.z_isinstance (by decide +kernel) (pa_cons (pv 1) (pa_cons (pe_bltn (v := V.ty "tuple") (u := .type "tuple") (by rfl) T.z_tuple (by decide +kernel) rfl) pa_nil))))) (pss_cons (ps_ret pe_bl) pss_nil) pss_nil) (pss_cons (ps_if (pt_cmpR (op_eqP (room64 hr)) (pv 2) pe_str (nomark _)) (pss_cons (ps_ret (pe_and (pe_cmpR (op_eqP (room64 hr)) (pe_callB call_len_seq (by rfl) T.z_len (by decide +kernel) (pa_cons (pv 1) pa_nil)) (pe_callB call_len_seq (by rfl) T.z_len (by decide +kernel) (pa_cons (pe_ix ix_seq (pv 0) pe_int (fun _ _ => rfl)) pa_nil)) (nomark _)) (pe_one (pe_cmpR (op_notInP (room65 hr)) pe_bl (pe_lc (own := [("k", 5)]) rfl sc__law_is_value.nd (pi_range1 (by rfl) T.z_range (pa_cons (pe_callB call_len_seq (by rfl) T.z_len (by decide +kernel) (pa_cons (pv 1) pa_nil)) pa_nil)) (blkOk_by (N := ["kind", "v", "word", "pair", "x", "k"]) (sc := defScope s__law_is_value) (by decide +kernel)) (fun _ _ _ _ _ => pg_name (i := 5) sc__law_is_value.nd rfl (Or.inl rfl)) (fun _ _ _ _ _ => pts_nil) (fun _ _ _ _ _ => (pe_call ih__law_is_value (hr.mono (Nat.le_refl _)) (by rfl) T.d__law_is_value.g T.d__law_is_value.F.kp T.d__law_is_value.b .nil pass0 (pa_cons (pe_ix ix_seq (pe_ix ix_seq (pv 0) pe_int (fun _ _ => rfl)) (pv 5) (fun _ _ => rfl)) (pa_cons (pe_ix ix_seq (pv 1) (pv 5) (fun _ _ => rfl)) pa_nil))))) rfl)))) pss_nil) pss_nil) (pss_cons (ps_if (pt_cmpR (op_eqP (room64 hr)) (pv 2) pe_str (nomark _)) (pss_cons (ps_ret (pe_and (pe_cmpR (op_eqP (room64 hr)) (pe_callB call_len_seq (by rfl) T.z_len (by decide +kernel) (pa_cons (pv 1) pa_nil)) pe_int (nomark _)) (pe_and (pe_call (ok__law_number T) (hr.mono (Nat.le_trans (by decide : 1 ≤ 1) (Nat.le_add_right 1 n))) (by rfl) T.d__law_number.g T.d__law_number.F.kp T.d__law_number.b .nil pass0 (pa_cons (pe_ix ix_seq (pv 1) pe_int (fun _ _ => rfl)) (pa_cons pe_int (pa_cons (pe_op op_sub (pe_callB call_len_seq (by rfl) T.z_len (by decide +kernel) (pa_cons (pe_ix ix_seq (pv 0) pe_int (fun _ _ => rfl)) pa_nil)) pe_int) pa_nil)))) (pe_one (pe_call ih__law_is_value (hr.mono (Nat.le_refl _)) (by rfl) T.d__law_is_value.g T.d__law_is_value.F.kp T.d__law_is_value.b .nil pass0 (pa_cons (pe_ix ix_seq (pe_ix ix_seq (pv 0) pe_int (fun _ _ => rfl)) (pe_ix ix_seq (pv 1) pe_int (fun _ _ => rfl)) (fun _ _ => rfl)) (pa_cons (pe_ix ix_seq (pv 1) pe_int (fun _ _ => rfl)) pa_nil))))))) pss_nil) pss_nil) (pss_cons (ps_if (pt_cmpR (op_eqP (room64 hr)) (pv 2) pe_str (nomark _)) (pss_cons (ps_ret (pe_cmpR (op_notInP (room65 hr)) pe_bl (pe_lc (own := [("x", 4)]) rfl sc__law_is_value.nd (pi_seq (pv 1)) (blkOk_by (N := ["kind", "v", "word", "pair", "x", "k"]) (sc := defScope s__law_is_value) (by decide +kernel)) (fun _ _ _ _ _ => pg_name (i := 4) sc__law_is_value.nd rfl (Or.inl rfl)) (fun _ _ _ _ _ => pts_nil) (fun _ _ _ _ _ => (pe_call ih__law_is_value (hr.mono (Nat.le_refl _)) (by rfl) T.d__law_is_value.g T.d__law_is_value.F.kp T.d__law_is_value.b .nil pass0 (pa_cons (pe_ix ix_seq (pv 0) pe_int (fun _ _ => rfl)) (pa_cons (pv 4) pa_nil))))) rfl)) pss_nil) pss_nil) (pss_cons (ps_if (pt_cmpR (op_eqP (room64 hr)) (pv 2) pe_str (nomark _)) (pss_cons (ps_ret (pe_and (pe_cmpR (op_notInP (room65 hr)) pe_bl (pe_lc (own := [("x", 4)]) rfl sc__law_is_value.nd (pi_seq (pv 1)) (blkOk_by (N := ["kind", "v", "word", "pair", "x", "k"]) (sc := defScope s__law_is_value) (by decide +kernel)) (fun _ _ _ _ _ => pg_name (i := 4) sc__law_is_value.nd rfl (Or.inl rfl)) (fun _ _ _ _ _ => pts_nil) (fun _ _ _ _ _ => (pe_call ih__law_is_value (hr.mono (Nat.le_refl _)) (by rfl) T.d__law_is_value.g T.d__law_is_value.F.kp T.d__law_is_value.b .nil pass0 (pa_cons (pe_ix ix_seq (pv 0) pe_int (fun _ _ => rfl)) (pa_cons (pv 4) pa_nil))))) rfl) (pe_one (pe_call (ok__law_rises T) (hr.mono (Nat.le_trans (by decide : 1 ≤ 1) (Nat.le_add_right 1 n))) (by rfl) T.d__law_rises.g T.d__law_rises.F.kp T.d__law_rises.b .nil pass0 (pa_cons (pv 1) pa_nil))))) pss_nil) pss_nil) (pss_cons (ps_for PassesOwn.never rfl (pi_seq (pv 1)) (pg_name (i := 3) sc__law_is_value.nd rfl (Or.inl rfl)) (pss_cons (ps_if (PW.pt (pw_or (pt_not (pt_val (pe_callB call_isi (by rfl) T.z_isinstance (by decide +kernel) (pa_cons (pv 3) (pa_cons (pe_bltn (v := V.ty "tuple") (u := .type "tuple") (by rfl) T.z_tuple (by decide +kernel) rfl) pa_nil))))) (pw_or (pt_cmpR (op_neP (room64 hr)) (pe_callB call_len_seq (by rfl) T.z_len (by decide +kernel) (pa_cons (pv 3) pa_nil)) pe_int (nomark _)) (pw_or1 (pt_not (pt_val (pe_call ih__law_is_value (hr.mono (Nat.le_refl _)) (by rfl) T.d__law_is_value.g T.d__law_is_value.F.kp T.d__law_is_value.b .nil pass0 (pa_cons (pe_ix ix_seq (pv 0) pe_int (fun _ _ => rfl)) (pa_cons (pe_ix ix_seq (pv 3) pe_int (fun _ _ => rfl)) pa_nil))))))))) (pss_cons (ps_ret pe_bl) pss_nil) pss_nil) (pss_cons (ps_if (pt_not (pt_ifE (pt_cmpR (op_eqP (room64 hr)) (pv 2) pe_str (nomark _)) (pt_val (pe_call (ok__law_number T) (hr.mono (Nat.le_trans (by decide : 1 ≤ 1) (Nat.le_add_right 1 n))) (by rfl) T.d__law_number.g T.d__law_number.F.kp T.d__law_number.b .nil pass0 (pa_cons (pe_ix ix_seq (pv 3) pe_int (fun _ _ => rfl)) (pa_cons pe_int (pa_cons (pe_op op_pow pe_int pe_int) pa_nil))))) (pt_val (pe_call ih__law_is_value (hr.mono (Nat.le_refl _)) (by rfl) T.d__law_is_value.g T.d__law_is_value.F.kp T.d__law_is_value.b .nil pass0 (pa_cons (pe_ix ix_seq (pv 0) pe_int (fun _ _ => rfl)) (pa_cons (pe_ix ix_seq (pv 3) pe_int (fun _ _ => rfl)) pa_nil)))))) (pss_cons (ps_ret pe_bl) pss_nil) pss_nil) pss_nil))) (pss_cons (ps_ret (pe_call (ok__law_rises T) (hr.mono (Nat.le_trans (by decide : 1 ≤ 1) (Nat.le_add_right 1 n))) (by rfl) T.d__law_rises.g T.d__law_rises.F.kp T.d__law_rises.b .nil pass0 (pa_cons (pe_lc (own := [("pair", 3)]) rfl sc__law_is_value.nd (pi_seq (pv 1)) (blkOk_by (N := ["kind", "v", "word", "pair", "x", "k"]) (sc := defScope s__law_is_value) (by decide +kernel)) (fun _ _ _ _ _ => pg_name (i := 3) sc__law_is_value.nd rfl (Or.inl rfl)) (fun _ _ _ _ _ => pts_nil) (fun _ _ _ _ _ => (pe_ix ix_seq (pv 3) pe_int (fun _ _ => rfl)))) pa_nil))) pss_nil))))))))), fun ds hl => match ds, hl with
          | [v_kind, v_v], _ => StG.eq ((st_asg (i := 2) (fun _ _ => rfl) (ev_op rr_ix (ev_var (i := 0) rfl) ev_int) (fun v_word => (st_if (et_cmp rc_eq (ev_var (i := 2) rfl) ev_str) (st_ret (ev_callN (ea_cons (ev_var (i := 1) rfl) (ea_cons ev_int (ea_cons (ev_op rr_sub (ev_op rr_ix (ev_var (i := 0) rfl) ev_int) ev_int) ea_nil))))) (st_if (et_not (et_B (ev_isi isTy_tuple (ev_var (i := 1) rfl)))) (st_ret ev_bl) (st_if (et_cmp rc_eq (ev_var (i := 2) rfl) ev_str) (st_ret (ev_andV (ev_cmp rc_eq (ev_cb1 rk_len (ev_var (i := 1) rfl)) (ev_cb1 rk_len (ev_op rr_ix (ev_var (i := 0) rfl) ev_int))) (ev_cmp rc_notIn ev_bl (ev_lcR1n (fun _ _ => rfl) (ev_cb1 rk_len (ev_var (i := 1) rfl)) rfl (fun v_k => (ev_callN (ea_cons (ev_op rr_ix (ev_op rr_ix (ev_var (i := 0) rfl) ev_int) (ev_var (i := 5) rfl)) (ea_cons (ev_op rr_ix (ev_var (i := 1) rfl) (ev_var (i := 5) rfl)) ea_nil)))))))) (st_if (et_cmp rc_eq (ev_var (i := 2) rfl) ev_str) (st_ret (ev_andV (ev_cmp rc_eq (ev_cb1 rk_len (ev_var (i := 1) rfl)) ev_int) (ev_andV (ev_callN (ea_cons (ev_op rr_ix (ev_var (i := 1) rfl) ev_int) (ea_cons ev_int (ea_cons (ev_op rr_sub (ev_cb1 rk_len (ev_op rr_ix (ev_var (i := 0) rfl) ev_int)) ev_int) ea_nil)))) (ev_callN (ea_cons (ev_op rr_ix (ev_op rr_ix (ev_var (i := 0) rfl) ev_int) (ev_op rr_ix (ev_var (i := 1) rfl) ev_int)) (ea_cons (ev_op rr_ix (ev_var (i := 1) rfl) ev_int) ea_nil)))))) (st_if (et_cmp rc_eq (ev_var (i := 2) rfl) ev_str) (st_ret (ev_cmp rc_notIn ev_bl (ev_lcS1 (fun _ _ => rfl) (ev_var (i := 1) rfl) rfl (fun v_x => (ev_callN (ea_cons (ev_op rr_ix (ev_var (i := 0) rfl) ev_int) (ea_cons (ev_var (i := 4) rfl) ea_nil))))))) (st_if (et_cmp rc_eq (ev_var (i := 2) rfl) ev_str) (st_ret (ev_andV (ev_cmp rc_notIn ev_bl (ev_lcS1 (fun _ _ => rfl) (ev_var (i := 1) rfl) rfl (fun v_x => (ev_callN (ea_cons (ev_op rr_ix (ev_var (i := 0) rfl) ev_int) (ea_cons (ev_var (i := 4) rfl) ea_nil)))))) (ev_callN (ea_cons (ev_var (i := 1) rfl) ea_nil)))) (st_forS1 (S1 := Unit) (ρs := fun (x323 : Unit) => [.dat v_kind, .dat v_v, .dat v_word, .any, .any, .any]) (r := id) (i := 3) (s0 := ()) (fun _ _ => rfl) (fun _ => rfl) (ev_var (i := 1) rfl) (.same _ (.same _ (.same _ (.same _ (.same _ (.same _ .nil)))))) (fun _ => rfl) (fun v_pair x323 => (st_if (et_or (et_not (et_B (ev_isi isTy_tuple (ev_var (i := 3) rfl)))) (et_or (et_cmp rc_ne (ev_cb1 rk_len (ev_var (i := 3) rfl)) ev_int) (et_not (et_B (ev_callN (ea_cons (ev_op rr_ix (ev_var (i := 0) rfl) ev_int) (ea_cons (ev_op rr_ix (ev_var (i := 3) rfl) ev_int) ea_nil))))))) (st_rt (r := Ct.rt) (fun _ => rfl) ev_bl) (st_if (et_not (et_ifE (et_cmp rc_eq (ev_var (i := 2) rfl) ev_str) (et_B (ev_callN (ea_cons (ev_op rr_ix (ev_var (i := 3) rfl) ev_int) (ea_cons ev_int (ea_cons (ev_op rr_pow ev_int ev_int) ea_nil))))) (et_B (ev_callN (ea_cons (ev_op rr_ix (ev_var (i := 0) rfl) ev_int) (ea_cons (ev_op rr_ix (ev_var (i := 3) rfl) ev_int) ea_nil)))))) (st_rt (r := Ct.rt) (fun _ => rfl) ev_bl) (st_nx (b := Ct.nx ()) (s := ()) rfl (.same _ (.same _ (.same _ (.any rfl (.same _ (.same _ .nil)))))))))) (fun x323 => (st_ret (ev_callN (ea_cons (ev_lcS1 (fun _ _ => rfl) (ev_var (i := 1) rfl) rfl (fun v_pair => (ev_op rr_ix (ev_var (i := 3) rfl) ev_int))) ea_nil)))))))))))))) (by simp only [m__law_is_value, Tr.ret_bind, Tr.bind_assoc, Tr.bind_ret, asB_bool, asI_int, on1_one, on2g_two, on2_two])⟩)
theorem ok__law_is_value (T : Txt w K mg) : FnOk P w K mg base CX0 9 T.d__law_is_value.f T.d__law_is_value.fd ["kind", "v"] (SpN K 2 (fun ds => match ds with | [v_kind, v_v] => m__law_is_value 8 v_kind v_v | _ => Tr.bad)) := (rk__law_is_value T 8)
theorem sc__law_spoilt : FnScope ["box", "x", "at", "sort"] ["box", "x"] (defScope s__law_spoilt) := ⟨rfl, rfl, rfl, by decide +kernel, rfl, by decide +kernel, by decide +kernel⟩
theorem rk__law_spoilt (T : Txt w K mg) : ∀ n : Nat, (FnOk P w K mg base CX0 (2 + n) T.d__law_spoilt.f T.d__law_spoilt.fd ["box", "x"] (SpB K 1 (fun ds => match ds with | [v_x] => m__law_spoilt n v_x | _ => Tr.bad)))
  | 0 => fn_never (spB_bad fun ds hl => match ds, hl with | [v_x], _ => by simp only [m__law_spoilt])
  | n + 1 => by
    have ih := rk__law_spoilt T n
    have ih__law_spoilt := ih
    exact fn_box (cl := T.cl) T.d__law_spoilt.F sc__law_spoilt rfl (fun cdv A outer s H E hr => ⟨_, (pss_cons (ps_if (PW.pt (pw_or (pt_not (pt_val (pe_callB call_isi (by rfl) T.z_isinstance (by decide +kernel) (pa_cons (pv 1) (pa_cons (pe_bltn (v := V.ty "tuple") (u := .type "tuple") (by rfl) T.z_tuple (by decide +kernel) rfl) pa_nil))))) (pw_or (pt_cmpR (op_eqP (room64 hr)) (pv 1) (pe_tup pa_nil) (nomark _)) (pw_or1 (pt_cmpR (op_eqP (room64 hr)) (pe_call (ok__law_take T) (hr.mono (Nat.le_trans (by decide : 1 ≤ 2) (Nat.le_add_right 2 n))) (by rfl) T.d__law_take.g T.d__law_take.F.kp T.d__law_take.b .nil pass0 (pa_cons (pv 0) (pa_cons pe_int pa_nil))) pe_int (nomark _)))))) (pss_cons (ps_if (PW.pt (pw_and (pt_val (pe_callB call_isi (by rfl) T.z_isinstance (by decide +kernel) (pa_cons (pv 1) (pa_cons (pe_bltn (v := V.ty "int") (u := .type "int") (by rfl) T.z_int (by decide +kernel) rfl) pa_nil)))) (pw_and (pt_not (pt_val (pe_callB call_isi (by rfl) T.z_isinstance (by decide +kernel) (pa_cons (pv 1) (pa_cons (pe_bltn (v := V.ty "bool") (u := .type "bool") (by rfl) T.z_bool (by decide +kernel) rfl) pa_nil))))) (pw_and1 (pt_cmpR op_gt (pe_call (ok__law_take T) (hr.mono (Nat.le_trans (by decide : 1 ≤ 2) (Nat.le_add_right 2 n))) (by rfl) T.d__law_take.g T.d__law_take.F.kp T.d__law_take.b .nil pass0 (pa_cons (pv 0) (pa_cons pe_int pa_nil))) pe_int (nomark _)))))) (pss_cons (ps_ret (pe_op op_addA (pv 1) (pe_call (ok__law_pick T) (hr.mono (Nat.le_trans (by decide : 2 ≤ 2) (Nat.le_add_right 2 n))) (by rfl) T.d__law_pick.g T.d__law_pick.F.kp T.d__law_pick.b .nil pass0 (pa_cons (pv 0) (pa_cons (pe_lst (pa_cons pe_int (pa_cons (pe_un un_neg pe_int) (pa_cons pe_int (pa_cons pe_int pa_nil))))) pa_nil))))) pss_nil) pss_nil) (pss_cons (ps_ret (pe_call (ok__law_pick T) (hr.mono (Nat.le_trans (by decide : 2 ≤ 2) (Nat.le_add_right 2 n))) (by rfl) T.d__law_pick.g T.d__law_pick.F.kp T.d__law_pick.b .nil pass0 (pa_cons (pv 0) (pa_cons (pe_lst (pa_cons pe_int (pa_cons pe_int (pa_cons (pe_un un_neg pe_int) (pa_cons pe_bl (pa_cons pe_bl (pa_cons pe_non (pa_cons pe_str (pa_cons pe_str (pa_cons pe_str (pa_cons (pe_tup pa_nil) (pa_cons (pe_tup (pa_cons pe_str pa_nil)) (pa_cons (pe_tup (pa_cons pe_int (pa_cons pe_int pa_nil))) (pa_cons (pe_tup (pa_cons (pe_tup (pa_cons pe_int (pa_cons pe_int pa_nil))) pa_nil)) (pa_cons (pe_tup (pa_cons pe_str (pa_cons pe_int pa_nil))) (pa_cons (pe_tup (pa_cons pe_str (pa_cons pe_int pa_nil))) (pa_cons (pe_tup (pa_cons pe_str (pa_cons pe_int pa_nil))) (pa_cons (pe_tup (pa_cons pe_str (pa_cons pe_int pa_nil))) pa_nil)))))))))))))))))) pa_nil)))) pss_nil)) pss_nil) (pss_cons (ps_set (i := 2) sc__law_spoilt.nd rfl (Or.inl rfl) (pe_call (ok__law_take T) (hr.mono (Nat.le_trans (by decide : 1 ≤ 2) (Nat.le_add_right 2 n))) (by rfl) T.d__law_take.g T.d__law_take.F.kp T.d__law_take.b .nil pass0 (pa_cons (pv 0) (pa_cons (pe_callB call_len_seq (by rfl) T.z_len (by decide +kernel) (pa_cons (pv 1) pa_nil)) pa_nil)))) (pss_cons (ps_set (i := 3) sc__law_spoilt.nd rfl (Or.inl rfl) (pe_call (ok__law_take T) (hr.mono (Nat.le_trans (by decide : 1 ≤ 2) (Nat.le_add_right 2 n))) (by rfl) T.d__law_take.g T.d__law_take.F.kp T.d__law_take.b .nil pass0 (pa_cons (pv 0) (pa_cons pe_int pa_nil)))) (pss_cons (ps_if (pt_cmpR (op_eqP (room64 hr)) (pv 3) pe_int (nomark _)) (pss_cons (ps_ret (pe_op op_addA (pe_slice sl_P (pv 1) po_none (po_some (pv 2))) (pe_slice sl_P (pv 1) (po_some (pe_op op_addA (pv 2) pe_int)) po_none))) pss_nil) pss_nil) (pss_cons (ps_if (pt_cmpR (op_eqP (room64 hr)) (pv 3) pe_int (nomark _)) (pss_cons (ps_ret (pe_op op_addA (pe_op op_addA (pe_slice sl_P (pv 1) po_none (po_some (pv 2))) (pe_tup (pa_cons (pe_ix ix_seq (pv 1) (pv 2) (fun _ _ => rfl)) pa_nil))) (pe_slice sl_P (pv 1) (po_some (pv 2)) po_none))) pss_nil) pss_nil) (pss_cons (ps_if (PW.pt (pw_and (pt_cmpR (op_eqP (room64 hr)) (pv 3) pe_int (nomark _)) (pw_and1 (pt_cmpR op_gt (pv 2) pe_int (nomark _))))) (pss_cons (ps_ret (pe_op op_addA (pe_op op_addA (pe_slice sl_P (pv 1) po_none (po_some (pe_op op_sub (pv 2) pe_int))) (pe_tup (pa_cons (pe_ix ix_seq (pv 1) (pv 2) (fun _ _ => rfl)) (pa_cons (pe_ix ix_seq (pv 1) (pe_op op_sub (pv 2) pe_int) (fun _ _ => rfl)) pa_nil)))) (pe_slice sl_P (pv 1) (po_some (pe_op op_addA (pv 2) pe_int)) po_none))) pss_nil) pss_nil) (pss_cons (ps_ret (pe_op op_addA (pe_op op_addA (pe_slice sl_P (pv 1) po_none (po_some (pv 2))) (pe_tup (pa_cons (pe_call ih__law_spoilt (hr.mono (Nat.le_refl _)) (by rfl) T.d__law_spoilt.g T.d__law_spoilt.F.kp T.d__law_spoilt.b .nil pass0 (pa_cons (pv 0) (pa_cons (pe_ix ix_seq (pv 1) (pv 2) (fun _ _ => rfl)) pa_nil))) pa_nil))) (pe_slice sl_P (pv 1) (po_some (pe_op op_addA (pv 2) pe_int)) po_none))) pss_nil))))))), fun ds hl => match ds, hl with
          | [v_x], _ => StG.eq ((st_if (et_or (et_not (et_B (ev_isi isTy_tuple (ev_var (i := 1) rfl)))) (et_or (et_cmp rc_eq (ev_var (i := 1) rfl) (ev_tup ea_nil)) (et_cmp rc_eq (ev_callB (i := 0) rfl (ea_cons ev_int ea_nil)) ev_int))) (st_if (et_and (et_B (ev_isi isTy_int (ev_var (i := 1) rfl))) (et_and (et_not (et_B (ev_isi isTy_bool (ev_var (i := 1) rfl)))) (et_cmp rc_gt (ev_callB (i := 0) rfl (ea_cons ev_int ea_nil)) ev_int))) (st_ret (ev_op rr_add (ev_var (i := 1) rfl) (ev_callB (i := 0) rfl (ea_cons (ev_lst (ea_cons ev_int (ea_cons ev_negc (ea_cons ev_int (ea_cons ev_int ea_nil))))) ea_nil)))) (st_ret (ev_callB (i := 0) rfl (ea_cons (ev_lst (ea_cons ev_int (ea_cons ev_int (ea_cons ev_negc (ea_cons ev_bl (ea_cons ev_bl (ea_cons ev_non (ea_cons ev_str (ea_cons ev_str (ea_cons ev_str (ea_cons (ev_tup ea_nil) (ea_cons (ev_tup (ea_cons ev_str ea_nil)) (ea_cons (ev_tup (ea_cons ev_int (ea_cons ev_int ea_nil))) (ea_cons (ev_tup (ea_cons (ev_tup (ea_cons ev_int (ea_cons ev_int ea_nil))) ea_nil)) (ea_cons (ev_tup (ea_cons ev_str (ea_cons ev_int ea_nil))) (ea_cons (ev_tup (ea_cons ev_str (ea_cons ev_int ea_nil))) (ea_cons (ev_tup (ea_cons ev_str (ea_cons ev_int ea_nil))) (ea_cons (ev_tup (ea_cons ev_str (ea_cons ev_int ea_nil))) ea_nil)))))))))))))))))) ea_nil)))) (st_asg (i := 2) (fun _ _ => rfl) (ev_callB (i := 0) rfl (ea_cons (ev_cb1 rk_len (ev_var (i := 1) rfl)) ea_nil)) (fun v_at => (st_asg (i := 3) (fun _ _ => rfl) (ev_callB (i := 0) rfl (ea_cons ev_int ea_nil)) (fun v_sort => (st_if (et_cmp rc_eq (ev_var (i := 3) rfl) ev_int) (st_ret (ev_op rr_add (ev_sl rs_P (ev_var (i := 1) rfl) eo_none (eo_some (ev_var (i := 2) rfl))) (ev_sl rs_P (ev_var (i := 1) rfl) (eo_some (ev_op rr_add (ev_var (i := 2) rfl) ev_int)) eo_none))) (st_if (et_cmp rc_eq (ev_var (i := 3) rfl) ev_int) (st_ret (ev_op rr_add (ev_op rr_add (ev_sl rs_P (ev_var (i := 1) rfl) eo_none (eo_some (ev_var (i := 2) rfl))) (ev_tup (ea_cons (ev_op rr_ix (ev_var (i := 1) rfl) (ev_var (i := 2) rfl)) ea_nil))) (ev_sl rs_P (ev_var (i := 1) rfl) (eo_some (ev_var (i := 2) rfl)) eo_none))) (st_if (et_and (et_cmp rc_eq (ev_var (i := 3) rfl) ev_int) (et_cmp rc_gt (ev_var (i := 2) rfl) ev_int)) (st_ret (ev_op rr_add (ev_op rr_add (ev_sl rs_P (ev_var (i := 1) rfl) eo_none (eo_some (ev_op rr_sub (ev_var (i := 2) rfl) ev_int))) (ev_tup (ea_cons (ev_op rr_ix (ev_var (i := 1) rfl) (ev_var (i := 2) rfl)) (ea_cons (ev_op rr_ix (ev_var (i := 1) rfl) (ev_op rr_sub (ev_var (i := 2) rfl) ev_int)) ea_nil)))) (ev_sl rs_P (ev_var (i := 1) rfl) (eo_some (ev_op rr_add (ev_var (i := 2) rfl) ev_int)) eo_none))) (st_ret (ev_op rr_add (ev_op rr_add (ev_sl rs_P (ev_var (i := 1) rfl) eo_none (eo_some (ev_var (i := 2) rfl))) (ev_tup (ea_cons (ev_callB (i := 0) rfl (ea_cons (ev_op rr_ix (ev_var (i := 1) rfl) (ev_var (i := 2) rfl)) ea_nil)) ea_nil))) (ev_sl rs_P (ev_var (i := 1) rfl) (eo_some (ev_op rr_add (ev_var (i := 2) rfl) ev_int)) eo_none)))))))))))) (by simp only [m__law_spoilt, Tr.ret_bind, Tr.bind_assoc, Tr.bind_ret, asB_bool, asI_int, on1_one, on2g_two, on2_two])⟩)
theorem ok__law_spoilt (T : Txt w K mg) : FnOk P w K mg base CX0 18 T.d__law_spoilt.f T.d__law_spoilt.fd ["box", "x"] (SpB K 1 (fun ds => match ds with | [v_x] => m__law_spoilt 16 v_x | _ => Tr.bad)) := (rk__law_spoilt T 16)
theorem sc__law_told : FnScope ["way", "kind", "v", "e"] ["way", "kind", "v"] (defScope s__law_told) := ⟨rfl, rfl, rfl, by decide +kernel, rfl, by decide +kernel, by decide +kernel⟩
theorem ok__law_told (T : Txt w K mg) : FnOk P w K mg base CX0 30 T.d__law_told.f T.d__law_told.fd ["way", "kind", "v"] (SpN K 3 (fun ds => match ds with | [v_way, v_kind, v_v] => m__law_told v_way v_kind v_v | _ => .bad)) :=
  fn_pure (cl := T.cl) T.d__law_told.F sc__law_told (fun cdv A outer s H E hr => ⟨_, pss_one (Cgx.ps_tryAs (i := 3) (c := .ref (T.cl .base)) rfl rfl sc__law_told.nd rfl rfl ⟨by rfl, by decide, .inl T.g_CorrigendaError⟩
      (fun W pn xe tk _ => pss_cons (ps_ret (pe_ifExp (pt_cmpR (op_eqP (room64 hr)) (pv 0) pe_int (nomark _)) (pe_callS (ok_check_value T) (hr.mono (by decide)) (by rfl) T.d_check_value.g T.d_check_value.F.kp T.d_check_value.b (fun σ => Cgx.lets_at tk σ) (pa_cons (pv 1) (pa_cons (pv 2) pa_nil))) (pe_callS (ok_weight T) (hr.mono (by decide)) (by rfl) T.d_weight.g T.d_weight.F.kp T.d_weight.b (fun σ => Cgx.lets_at tk σ) (pa_cons (pv 1) (pa_cons (pv 2) pa_nil))))) pss_nil)
      (fun a oe cls d pn hz hf => pss_one (ps_ret (pe_errs (cl := T.cl) (nm := nmE) (i := 3) hz hf (fun c t => ok__law_class T c t) ((L2H.roomH_of hr).mono (by decide)) (by rfl) T.d__law_class.g T.d__law_class.F.kp T.d__law_class.b rfl (Or.inl rfl))))),
    fun ds hl => match ds, hl with
    | [v_way, v_kind, v_v], _ => (st_try (nm := nmE) (i := 3) T.exm (by rfl) (by show 3 < 4; decide) (fun W => st_ret (ev_if (et_cmp rc_eq (ev_var (i := 0) rfl) ev_int) (ev_callS (ea_cons (ev_var (i := 1) rfl) (ea_cons (ev_var (i := 2) rfl) ea_nil))) (ev_callS (ea_cons (ev_var (i := 1) rfl) (ea_cons (ev_var (i := 2) rfl) ea_nil))))) (fun c a t0 D σ H h1 h2 _ k => ⟨c, t0, rfl, rfl, h1, h2, k⟩)).eq (by simp only [m__law_told, m_check_value, Tr.ret_bind, Tr.bind_assoc])⟩)
theorem sc__law_long_sets : FnScope ["box", "names", "good", "number", "n", "step", "at", "kind", "v", "k", "x"] ["box"] (defScope s__law_long_sets) := ⟨rfl, rfl, rfl, by decide +kernel, rfl, by decide +kernel, by decide +kernel⟩
theorem ok__law_long_sets (T : Txt w K mg) : FnOk P w K mg base CX0 31 T.d__law_long_sets.f T.d__law_long_sets.fd ["box"] (SpB K 0 (fun _ => m__law_long_sets)) :=
  fn_box (cl := T.cl) T.d__law_long_sets.F sc__law_long_sets rfl (fun cdv A outer s H E hr => ⟨_, (pss_cons (ps_asg (pe_tup (pa_cons (pe_op op_addA pe_int (pe_call (ok__law_take T) (hr.mono (by decide)) (by rfl) T.d__law_take.g T.d__law_take.F.kp T.d__law_take.b .nil pass0 (pa_cons (pv 0) (pa_cons pe_int pa_nil)))) (pa_cons (pe_op op_addA pe_int (pe_call (ok__law_take T) (hr.mono (by decide)) (by rfl) T.d__law_take.g T.d__law_take.F.kp T.d__law_take.b .nil pass0 (pa_cons (pv 0) (pa_cons pe_int pa_nil)))) pa_nil))) (pg_tup rfl (pgs_cons (pg_name (i := 4) sc__law_long_sets.nd rfl (Or.inl rfl)) (pgs_cons (pg_name (i := 5) sc__law_long_sets.nd rfl (Or.inr rfl)) pgs_nil)))) (pss_cons (ps_setLc (i := 1) (own := [("k", 9)]) rfl sc__law_long_sets.nd rfl rfl (sw_true rfl rfl rfl (by decide +kernel)) (pi_range1 (by rfl) T.z_range (pa_cons (pv 4) pa_nil)) (blkOk_by (N := ["box", "names", "good", "number", "n", "step", "at", "kind", "v", "k", "x"]) (sc := defScope s__law_long_sets) (by decide +kernel)) (fun _ _ _ _ _ => pg_name (i := 9) sc__law_long_sets.nd rfl (Or.inl rfl)) (fun _ _ _ _ _ => pts_nil) (fun _ _ _ _ _ => (pe_op op_mulA (pv 9) (pv 5)))) (pss_cons (ps_set (i := 2) sc__law_long_sets.nd rfl (Or.inl rfl) (pe_cmpR (op_eqP (room64 hr)) (pe_call (ok__law_take T) (hr.mono (by decide)) (by rfl) T.d__law_take.g T.d__law_take.F.kp T.d__law_take.b .nil pass0 (pa_cons (pv 0) (pa_cons pe_int pa_nil))) pe_int (nomark _))) (pss_cons (ps_if (pt_not (pt_val (pv 2))) (pss_cons (ps_set (i := 6) sc__law_long_sets.nd rfl (Or.inl rfl) (pe_call (ok__law_take T) (hr.mono (by decide)) (by rfl) T.d__law_take.g T.d__law_take.F.kp T.d__law_take.b .nil pass0 (pa_cons (pv 0) (pa_cons (pe_op op_sub (pv 4) pe_int) pa_nil)))) (pss_cons (ps_asg (pe_tup (pa_cons (pe_ix ix_list (pv 1) (pe_op op_add (pv 6) pe_int) (fun _ _ => rfl)) (pa_cons (pe_ix ix_list (pv 1) (pv 6) (fun _ _ => rfl)) pa_nil))) (pg_tup rfl (pgs_cons (pg_sub (pv 1) (pv 6) set_list) (pgs_cons (pg_sub (pv 1) (pe_op op_add (pv 6) pe_int) set_list) pgs_nil)))) pss_nil)) pss_nil) (pss_cons (ps_set (i := 3) sc__law_long_sets.nd rfl (Or.inl rfl) (pe_tup (pa_cons pe_str (pa_cons pe_int pa_nil)))) (pss_cons (ps_asg (pe_call (ok__law_pick T) (hr.mono (by decide)) (by rfl) T.d__law_pick.g T.d__law_pick.F.kp T.d__law_pick.b .nil pass0 (pa_cons (pv 0) (pa_cons (pe_lst (pa_cons (pe_tup (pa_cons (pe_tup (pa_cons pe_str (pa_cons (pv 3) pa_nil))) (pa_cons (pe_callTy call_tuple_of (by rfl) T.z_tuple (by decide +kernel) (pa_cons (pv 1) pa_nil)) pa_nil))) (pa_cons (pe_tup (pa_cons (pe_tup (pa_cons pe_str (pa_cons (pv 3) pa_nil))) (pa_cons (pe_callTy call_tuple_of (by rfl) T.z_tuple (by decide +kernel) (pa_cons (pe_lc (own := [("x", 10)]) rfl sc__law_long_sets.nd (pi_seq (pv 1)) (blkOk_by (N := ["box", "names", "good", "number", "n", "step", "at", "kind", "v", "k", "x"]) (sc := defScope s__law_long_sets) (by decide +kernel)) (fun _ _ _ _ _ => pg_name (i := 10) sc__law_long_sets.nd rfl (Or.inl rfl)) (fun _ _ _ _ _ => pts_nil) (fun _ _ _ _ _ => (pe_tup (pa_cons (pv 10) (pa_cons pe_int pa_nil))))) pa_nil)) pa_nil))) (pa_cons (pe_tup (pa_cons (pe_tup (pa_cons pe_str (pa_cons (pv 3) (pa_cons (pv 3) pa_nil)))) (pa_cons (pe_callTy call_tuple_of (by rfl) T.z_tuple (by decide +kernel) (pa_cons (pe_lc (own := [("x", 10)]) rfl sc__law_long_sets.nd (pi_seq (pv 1)) (blkOk_by (N := ["box", "names", "good", "number", "n", "step", "at", "kind", "v", "k", "x"]) (sc := defScope s__law_long_sets) (by decide +kernel)) (fun _ _ _ _ _ => pg_name (i := 10) sc__law_long_sets.nd rfl (Or.inl rfl)) (fun _ _ _ _ _ => pts_nil) (fun _ _ _ _ _ => (pe_tup (pa_cons (pv 10) (pa_cons pe_int pa_nil))))) pa_nil)) pa_nil))) pa_nil)))) pa_nil))) (pg_tup rfl (pgs_cons (pg_name (i := 7) sc__law_long_sets.nd rfl (Or.inl rfl)) (pgs_cons (pg_name (i := 8) sc__law_long_sets.nd rfl (Or.inl rfl)) pgs_nil)))) (pss_cons (ps_ret (pe_and (pe_cmpR (op_eqP (room64 hr)) (pe_callB call_repr (by rfl) T.z_repr (by decide +kernel) (pa_cons (pe_call (ok__law_told T) (hr.mono (by decide)) (by rfl) T.d__law_told.g T.d__law_told.F.kp T.d__law_told.b .nil pass0 (pa_cons pe_int (pa_cons (pv 7) (pa_cons (pv 8) pa_nil)))) pa_nil)) (pe_callB call_repr (by rfl) T.z_repr (by decide +kernel) (pa_cons (pe_ifExp (pt_val (pv 2)) pe_non pe_str) pa_nil)) (nomark _)) (pe_one (pe_cmpR (op_eqP (room64 hr)) (pe_callB call_repr (by rfl) T.z_repr (by decide +kernel) (pa_cons (pe_call (ok__law_told T) (hr.mono (by decide)) (by rfl) T.d__law_told.g T.d__law_told.F.kp T.d__law_told.b .nil pass0 (pa_cons pe_int (pa_cons (pv 7) (pa_cons (pv 8) pa_nil)))) pa_nil)) (pe_callB call_repr (by rfl) T.z_repr (by decide +kernel) (pa_cons (pe_ifExp (pt_val (pv 2)) (pe_call (ok__law_weight T) (hr.mono (by decide)) (by rfl) T.d__law_weight.g T.d__law_weight.F.kp T.d__law_weight.b .nil pass0 (pa_cons (pv 7) (pa_cons (pv 8) pa_nil))) pe_str) pa_nil)) (nomark _))))) pss_nil))))))), fun ds hl => match ds, hl with
      | [], _ => StG.eq ((st_unp2 (fun _ _ => rfl) (i := 4) (j := 5) (ev_tup (ea_cons (ev_op rr_add ev_int (ev_callB (i := 0) rfl (ea_cons ev_int ea_nil))) (ea_cons (ev_op rr_add ev_int (ev_callB (i := 0) rfl (ea_cons ev_int ea_nil))) ea_nil))) (fun v_n v_step => (st_lcOwn (fun _ _ => rfl) (i := 1) (j := 9) (ev_var (i := 4) rfl) rfl (fun v_k => (ev_op rr_mul (ev_var (i := 9) rfl) (ev_var (i := 5) rfl))) (fun v_names => (st_asg (i := 2) (fun _ _ => rfl) (ev_cmp rc_eq (ev_callB (i := 0) rfl (ea_cons ev_int ea_nil)) ev_int) (fun v_good => (st_ifj (S1 := PyData) (ρs := fun (x405 : PyData) => [.box, .acc (unL x405), .dat v_good, .any, .dat v_n, .dat v_step, .any, .any, .any, .any, .any]) (fun _ _ => rfl) (et_not (et_B (ev_var (i := 2) rfl))) (st_asg (i := 6) (fun _ _ => rfl) (ev_callB (i := 0) rfl (ea_cons (ev_op rr_sub (ev_var (i := 4) rfl) ev_int) ea_nil)) (fun v_at => (st_swap (fun _ _ => rfl) (i := 1) (j := 6) (a := v_names) rfl rfl (fun v_names => (st_nx (b := v_names) (s := v_names) rfl (.same _ (.same _ (.same _ (.same _ (.same _ (.same _ (.any rfl (.same _ (.same _ (.same _ (.same _ .nil)))))))))))))))) (st_nx (b := v_names) (s := v_names) rfl (.same _ (.same _ (.same _ (.same _ (.same _ (.same _ (.same _ (.same _ (.same _ (.same _ (.same _ .nil)))))))))))) (fun x405 => (st_asg (i := 3) (fun _ _ => rfl) (ev_tup (ea_cons ev_str (ea_cons ev_int ea_nil))) (fun v_number => (st_freeze (fun _ _ => rfl) (i := 1) rfl (st_unp2 (fun _ _ => rfl) (i := 7) (j := 8) (ev_callB (i := 0) rfl (ea_cons (ev_lst (ea_cons (ev_tup (ea_cons (ev_tup (ea_cons ev_str (ea_cons (ev_var (i := 3) rfl) ea_nil))) (ea_cons (ev_cb1 rk_tuple (ev_var (i := 1) rfl)) ea_nil))) (ea_cons (ev_tup (ea_cons (ev_tup (ea_cons ev_str (ea_cons (ev_var (i := 3) rfl) ea_nil))) (ea_cons (ev_cb1 rk_tuple (ev_lcS1 (fun _ _ => rfl) (ev_var (i := 1) rfl) rfl (fun v_x => (ev_tup (ea_cons (ev_var (i := 10) rfl) (ea_cons ev_int ea_nil)))))) ea_nil))) (ea_cons (ev_tup (ea_cons (ev_tup (ea_cons ev_str (ea_cons (ev_var (i := 3) rfl) (ea_cons (ev_var (i := 3) rfl) ea_nil)))) (ea_cons (ev_cb1 rk_tuple (ev_lcS1 (fun _ _ => rfl) (ev_var (i := 1) rfl) rfl (fun v_x => (ev_tup (ea_cons (ev_var (i := 10) rfl) (ea_cons ev_int ea_nil)))))) ea_nil))) ea_nil)))) ea_nil)) (fun v_kind v_v => (st_ret (ev_andV (ev_cmp rc_eq (ev_cb1 rk_repr (ev_callN (ea_cons ev_int (ea_cons (ev_var (i := 7) rfl) (ea_cons (ev_var (i := 8) rfl) ea_nil))))) (ev_cb1 rk_repr (ev_if (et_B (ev_var (i := 2) rfl)) ev_non ev_str))) (ev_cmp rc_eq (ev_cb1 rk_repr (ev_callN (ea_cons ev_int (ea_cons (ev_var (i := 7) rfl) (ea_cons (ev_var (i := 8) rfl) ea_nil))))) (ev_cb1 rk_repr (ev_if (et_B (ev_var (i := 2) rfl)) (ev_callN (ea_cons (ev_var (i := 7) rfl) (ea_cons (ev_var (i := 8) rfl) ea_nil))) ev_str))))))))))))))))))) (by simp only [m__law_long_sets, Tr.ret_bind, Tr.bind_assoc, Tr.bind_ret, asB_bool, asI_int, on1_one, on2g_two, on2_two])⟩)
theorem sc_law : FnScope ["script", "box", "turn", "many", "some", "kind", "v", "spoilt", "x", "row", "bag", "good"] ["script"] (defScope s_law) := ⟨rfl, rfl, rfl, by decide +kernel, rfl, by decide +kernel, by decide +kernel⟩
theorem ok_law (T : Txt w K mg) : FnOk P w K mg base CX0 32 T.d_law.f T.d_law.fd ["script"] (SpN K 1 (fun ds => match ds with | [v_script] => m_law v_script | _ => Tr.bad)) :=
  fn_pure (cl := T.cl) T.d_law.F sc_law (fun cdv A outer s H E hr => ⟨_, (pss_cons (ps_set (i := 1) sc_law.nd rfl (Or.inl rfl) (pe_call (ok__law_box T) (hr.mono (by decide)) (by rfl) T.d__law_box.g T.d__law_box.F.kp T.d__law_box.b .nil pass0 (pa_cons (pv 0) pa_nil))) (pss_cons (ps_for PassesOwn.never rfl (pi_range1 (by rfl) T.z_range (pa_cons pe_int pa_nil)) (pg_name (i := 2) sc_law.nd rfl (Or.inl rfl)) (pss_cons (ps_set (i := 5) sc_law.nd rfl (Or.inl rfl) (pe_call (ok__law_some_kind T) (hr.mono (by decide)) (by rfl) T.d__law_some_kind.g T.d__law_some_kind.F.kp T.d__law_some_kind.b .nil pass0 (pa_cons (pv 1) pa_nil))) (pss_cons (ps_set (i := 6) sc_law.nd rfl (Or.inl rfl) (pe_call (ok__law_some_value T) (hr.mono (by decide)) (by rfl) T.d__law_some_value.g T.d__law_some_value.F.kp T.d__law_some_value.b .nil pass0 (pa_cons (pv 1) (pa_cons (pv 5) pa_nil)))) (pss_cons (ps_set (i := 7) sc_law.nd rfl (Or.inl rfl) (pe_call (ok__law_spoilt T) (hr.mono (by decide)) (by rfl) T.d__law_spoilt.g T.d__law_spoilt.F.kp T.d__law_spoilt.b .nil pass0 (pa_cons (pv 1) (pa_cons (pv 6) pa_nil)))) (pss_cons (ps_for PassesOwn.never rfl (pi_seq (pe_tup (pa_cons (pv 6) (pa_cons (pv 7) (pa_cons (pe_call (ok__law_spoilt T) (hr.mono (by decide)) (by rfl) T.d__law_spoilt.g T.d__law_spoilt.F.kp T.d__law_spoilt.b .nil pass0 (pa_cons (pv 1) (pa_cons (pv 7) pa_nil))) (pa_cons (pe_call (ok__law_some_value T) (hr.mono (by decide)) (by rfl) T.d__law_some_value.g T.d__law_some_value.F.kp T.d__law_some_value.b .nil pass0 (pa_cons (pv 1) (pa_cons (pe_call (ok__law_some_kind T) (hr.mono (by decide)) (by rfl) T.d__law_some_kind.g T.d__law_some_kind.F.kp T.d__law_some_kind.b .nil pass0 (pa_cons (pv 1) pa_nil)) pa_nil))) (pa_cons (pe_call (ok__law_pick T) (hr.mono (by decide)) (by rfl) T.d__law_pick.g T.d__law_pick.F.kp T.d__law_pick.b .nil pass0 (pa_cons (pv 1) (pa_cons (pe_lst (pa_cons pe_non (pa_cons pe_bl (pa_cons pe_str (pa_cons (pe_tup pa_nil) (pa_cons (pe_un un_neg pe_int) (pa_cons pe_int (pa_cons (pe_tup (pa_cons pe_int pa_nil)) (pa_cons (pe_tup (pa_cons (pe_tup (pa_cons pe_int (pa_cons pe_int pa_nil))) pa_nil)) pa_nil))))))))) pa_nil))) pa_nil))))))) (pg_name (i := 8) sc_law.nd rfl (Or.inl rfl)) (pss_cons (ps_set (i := 11) sc_law.nd rfl (Or.inl rfl) (pe_and (pe_call (ok__law_is_value T) (hr.mono (by decide)) (by rfl) T.d__law_is_value.g T.d__law_is_value.F.kp T.d__law_is_value.b .nil pass0 (pa_cons (pv 5) (pa_cons (pv 8) pa_nil))) (pe_one (pe_cmpR op_le (pe_call (ok__law_weight T) (hr.mono (by decide)) (by rfl) T.d__law_weight.g T.d__law_weight.F.kp T.d__law_weight.b .nil pass0 (pa_cons (pv 5) (pa_cons (pv 8) pa_nil))) pe_int (nomark _))))) (pss_cons (ps_if (pt_cmpR (op_neP (room64 hr)) (pe_callB call_repr (by rfl) T.z_repr (by decide +kernel) (pa_cons (pe_call (ok__law_told T) (hr.mono (by decide)) (by rfl) T.d__law_told.g T.d__law_told.F.kp T.d__law_told.b .nil pass0 (pa_cons pe_int (pa_cons (pv 5) (pa_cons (pv 8) pa_nil)))) pa_nil)) (pe_callB call_repr (by rfl) T.z_repr (by decide +kernel) (pa_cons (pe_ifExp (pt_val (pv 11)) pe_non pe_str) pa_nil)) (nomark _)) (pss_cons (ps_ret pe_bl) pss_nil) pss_nil) (pss_cons (ps_if (pt_cmpR (op_neP (room64 hr)) (pe_callB call_repr (by rfl) T.z_repr (by decide +kernel) (pa_cons (pe_call (ok__law_told T) (hr.mono (by decide)) (by rfl) T.d__law_told.g T.d__law_told.F.kp T.d__law_told.b .nil pass0 (pa_cons pe_int (pa_cons (pv 5) (pa_cons (pv 8) pa_nil)))) pa_nil)) (pe_callB call_repr (by rfl) T.z_repr (by decide +kernel) (pa_cons (pe_ifExp (pt_val (pv 11)) (pe_call (ok__law_weight T) (hr.mono (by decide)) (by rfl) T.d__law_weight.g T.d__law_weight.F.kp T.d__law_weight.b .nil pass0 (pa_cons (pv 5) (pa_cons (pv 8) pa_nil))) pe_str) pa_nil)) (nomark _)) (pss_cons (ps_ret pe_bl) pss_nil) pss_nil) (pss_cons (ps_if (PW.pt (pw_or (pt_cmpR (op_neP (room64 hr)) (pe_call (ok__law_told T) (hr.mono (by decide)) (by rfl) T.d__law_told.g T.d__law_told.F.kp T.d__law_told.b .nil pass0 (pa_cons pe_int (pa_cons (pe_tup (pa_cons pe_str (pa_cons pe_int pa_nil))) (pa_cons (pv 8) pa_nil)))) pe_str (nomark _)) (pw_or1 (pt_cmpR (op_neP (room64 hr)) (pe_call (ok__law_told T) (hr.mono (by decide)) (by rfl) T.d__law_told.g T.d__law_told.F.kp T.d__law_told.b .nil pass0 (pa_cons pe_int (pa_cons pe_non (pa_cons (pv 8) pa_nil)))) pe_str (nomark _))))) (pss_cons (ps_ret pe_bl) pss_nil) pss_nil) pss_nil))))) pss_nil))))) (pss_cons (ps_set (i := 3) sc_law.nd rfl (Or.inl rfl) (pe_op op_addA pe_int (pe_call (ok__law_take T) (hr.mono (by decide)) (by rfl) T.d__law_take.g T.d__law_take.F.kp T.d__law_take.b .nil pass0 (pa_cons (pv 1) (pa_cons pe_int pa_nil))))) (pss_cons (ps_asg (pe_tup (pa_cons (pe_tup (pa_cons pe_str (pa_cons (pe_tup (pa_cons pe_str (pa_cons pe_int pa_nil))) pa_nil))) (pa_cons (pe_tup (pa_cons pe_str (pa_cons (pe_tup (pa_cons pe_str (pa_cons (pe_tup (pa_cons (pe_tup (pa_cons pe_str (pa_cons pe_int pa_nil))) pa_nil)) pa_nil))) pa_nil))) pa_nil))) (pg_tup rfl (pgs_cons (pg_name (i := 9) sc_law.nd rfl (Or.inl rfl)) (pgs_cons (pg_name (i := 10) sc_law.nd rfl (Or.inl rfl)) pgs_nil)))) (pss_cons (ps_set (i := 4) sc_law.nd rfl (Or.inl rfl) (pe_call (ok__law_take T) (hr.mono (by decide)) (by rfl) T.d__law_take.g T.d__law_take.F.kp T.d__law_take.b .nil pass0 (pa_cons (pv 1) (pa_cons pe_int pa_nil)))) (pss_cons (ps_if (PW.pt (pw_or (pt_cmpR (op_neP (room64 hr)) (pe_callB call_repr (by rfl) T.z_repr (by decide +kernel) (pa_cons (pe_call (ok__law_told T) (hr.mono (by decide)) (by rfl) T.d__law_told.g T.d__law_told.F.kp T.d__law_told.b .nil pass0 (pa_cons pe_int (pa_cons (pv 9) (pa_cons (pe_op op_mulA (pe_tup (pa_cons pe_int pa_nil)) (pv 3)) pa_nil)))) pa_nil)) (pe_callB call_repr (by rfl) T.z_repr (by decide +kernel) (pa_cons (pe_ifExp (pt_cmpR op_lt (pv 3) pe_int (nomark _)) pe_non pe_str) pa_nil)) (nomark _)) (pw_or1 (pt_cmpR (op_neP (room64 hr)) (pe_callB call_repr (by rfl) T.z_repr (by decide +kernel) (pa_cons (pe_call (ok__law_told T) (hr.mono (by decide)) (by rfl) T.d__law_told.g T.d__law_told.F.kp T.d__law_told.b .nil pass0 (pa_cons pe_int (pa_cons (pv 9) (pa_cons (pe_op op_mulA (pe_tup (pa_cons pe_int pa_nil)) (pv 3)) pa_nil)))) pa_nil)) (pe_callB call_repr (by rfl) T.z_repr (by decide +kernel) (pa_cons (pe_ifExp (pt_cmpR op_lt (pv 3) pe_int (nomark _)) (pe_op op_addA (pv 3) pe_int) pe_str) pa_nil)) (nomark _))))) (pss_cons (ps_ret pe_bl) pss_nil) pss_nil) (pss_cons (ps_if (PW.pt (pw_or (pt_cmpR (op_neP (room64 hr)) (pe_callB call_repr (by rfl) T.z_repr (by decide +kernel) (pa_cons (pe_call (ok__law_told T) (hr.mono (by decide)) (by rfl) T.d__law_told.g T.d__law_told.F.kp T.d__law_told.b .nil pass0 (pa_cons pe_int (pa_cons (pv 9) (pa_cons (pe_op op_mulA (pe_tup (pa_cons pe_int pa_nil)) (pv 4)) pa_nil)))) pa_nil)) (pe_callB call_repr (by rfl) T.z_repr (by decide +kernel) (pa_cons (pe_op op_addA (pv 4) pe_int) pa_nil)) (nomark _)) (pw_or1 (pt_not (pt_val (pe_call (ok__law_long_sets T) (hr.mono (by decide)) (by rfl) T.d__law_long_sets.g T.d__law_long_sets.F.kp T.d__law_long_sets.b .nil pass0 (pa_cons (pv 1) pa_nil))))))) (pss_cons (ps_ret pe_bl) pss_nil) pss_nil) (pss_cons (ps_ret (pe_cmpR (op_eqP (room64 hr)) (pe_callB call_repr (by rfl) T.z_repr (by decide +kernel) (pa_cons (pe_call (ok__law_told T) (hr.mono (by decide)) (by rfl) T.d__law_told.g T.d__law_told.F.kp T.d__law_told.b .nil pass0 (pa_cons pe_int (pa_cons (pv 10) (pa_cons (pe_tup (pa_cons (pe_tup (pa_cons (pe_tup (pa_cons pe_int pa_nil)) (pa_cons (pe_op op_fdiv (pv 3) pe_int) pa_nil))) pa_nil)) pa_nil)))) pa_nil)) (pe_callB call_repr (by rfl) T.z_repr (by decide +kernel) (pa_cons (pe_ifExp (pt_cmpR op_le (pe_op op_addA pe_int (pe_op op_mulA pe_int (pe_op op_fdiv (pv 3) pe_int))) pe_int (nomark _)) pe_non pe_str) pa_nil)) (nomark _))) pss_nil)))))))), fun ds hl => match ds, hl with
      | [v_script], _ => StG.eq ((st_box (fun _ _ => rfl) (i := 1) (ev_var (i := 0) rfl) (st_forR11 (S1 := Unit) (ρs := fun (x437 : Unit) => [.dat v_script, .box, .any, .any, .any, .any, .any, .any, .any, .any, .any, .any]) (r := id) (i := 2) (s0 := ()) (fun _ _ => rfl) (fun _ => rfl) ev_int (.same _ (.same _ (.same _ (.same _ (.same _ (.same _ (.same _ (.same _ (.same _ (.same _ (.same _ (.same _ .nil)))))))))))) (fun _ => rfl) (fun v_turn x437 => (st_asg (i := 5) (fun _ _ => rfl) (ev_callB (i := 1) rfl ea_nil) (fun v_kind => (st_asg (i := 6) (fun _ _ => rfl) (ev_callB (i := 1) rfl (ea_cons (ev_var (i := 5) rfl) ea_nil)) (fun v_v => (st_asg (i := 7) (fun _ _ => rfl) (ev_callB (i := 1) rfl (ea_cons (ev_var (i := 6) rfl) ea_nil)) (fun v_spoilt => (st_forS1 (S1 := Unit) (ρs := fun (x438 : Unit) => [.dat v_script, .box, .dat v_turn, .any, .any, .dat v_kind, .dat v_v, .dat v_spoilt, .any, .any, .any, .any]) (r := Ct.rt) (i := 8) (s0 := ()) (fun _ _ => rfl) (fun _ => rfl) (ev_tup (ea_cons (ev_var (i := 6) rfl) (ea_cons (ev_var (i := 7) rfl) (ea_cons (ev_callB (i := 1) rfl (ea_cons (ev_var (i := 7) rfl) ea_nil)) (ea_cons (ev_callB (i := 1) rfl (ea_cons (ev_callB (i := 1) rfl ea_nil) ea_nil)) (ea_cons (ev_callB (i := 1) rfl (ea_cons (ev_lst (ea_cons ev_non (ea_cons ev_bl (ea_cons ev_str (ea_cons (ev_tup ea_nil) (ea_cons ev_negc (ea_cons ev_int (ea_cons (ev_tup (ea_cons ev_int ea_nil)) (ea_cons (ev_tup (ea_cons (ev_tup (ea_cons ev_int (ea_cons ev_int ea_nil))) ea_nil)) ea_nil))))))))) ea_nil)) ea_nil)))))) (.same _ (.same _ (.same _ (.same _ (.same _ (.same _ (.same _ (.same _ (.same _ (.same _ (.same _ (.same _ .nil)))))))))))) (fun _ => rfl) (fun v_x x438 => (st_asg (i := 11) (fun _ _ => rfl) (ev_andV (ev_callN (ea_cons (ev_var (i := 5) rfl) (ea_cons (ev_var (i := 8) rfl) ea_nil))) (ev_cmp rc_le (ev_callN (ea_cons (ev_var (i := 5) rfl) (ea_cons (ev_var (i := 8) rfl) ea_nil))) ev_int)) (fun v_good => (st_if (et_cmp rc_ne (ev_cb1 rk_repr (ev_callN (ea_cons ev_int (ea_cons (ev_var (i := 5) rfl) (ea_cons (ev_var (i := 8) rfl) ea_nil))))) (ev_cb1 rk_repr (ev_if (et_B (ev_var (i := 11) rfl)) ev_non ev_str))) (st_rt (r := Ct.rt) (fun _ => rfl) ev_bl) (st_if (et_cmp rc_ne (ev_cb1 rk_repr (ev_callN (ea_cons ev_int (ea_cons (ev_var (i := 5) rfl) (ea_cons (ev_var (i := 8) rfl) ea_nil))))) (ev_cb1 rk_repr (ev_if (et_B (ev_var (i := 11) rfl)) (ev_callN (ea_cons (ev_var (i := 5) rfl) (ea_cons (ev_var (i := 8) rfl) ea_nil))) ev_str))) (st_rt (r := Ct.rt) (fun _ => rfl) ev_bl) (st_if (et_or (et_cmp rc_ne (ev_callN (ea_cons ev_int (ea_cons (ev_tup (ea_cons ev_str (ea_cons ev_int ea_nil))) (ea_cons (ev_var (i := 8) rfl) ea_nil)))) ev_str) (et_cmp rc_ne (ev_callN (ea_cons ev_int (ea_cons ev_non (ea_cons (ev_var (i := 8) rfl) ea_nil)))) ev_str)) (st_rt (r := Ct.rt) (fun _ => rfl) ev_bl) (st_nx (b := Ct.nx ()) (s := ()) rfl (.same _ (.same _ (.same _ (.same _ (.same _ (.same _ (.same _ (.same _ (.any rfl (.same _ (.same _ (.any rfl .nil))))))))))))))))))) (fun x438 => (st_nx (b := Ct.nx ()) (s := ()) rfl (.same _ (.same _ (.any rfl (.same _ (.same _ (.any rfl (.any rfl (.any rfl (.same _ (.same _ (.same _ (.same _ .nil)))))))))))))))))))))) (fun x437 => (st_asg (i := 3) (fun _ _ => rfl) (ev_op rr_add ev_int (ev_callB (i := 1) rfl (ea_cons ev_int ea_nil))) (fun v_many => (st_unp2 (fun _ _ => rfl) (i := 9) (j := 10) (ev_tup (ea_cons (ev_tup (ea_cons ev_str (ea_cons (ev_tup (ea_cons ev_str (ea_cons ev_int ea_nil))) ea_nil))) (ea_cons (ev_tup (ea_cons ev_str (ea_cons (ev_tup (ea_cons ev_str (ea_cons (ev_tup (ea_cons (ev_tup (ea_cons ev_str (ea_cons ev_int ea_nil))) ea_nil)) ea_nil))) ea_nil))) ea_nil))) (fun v_row v_bag => (st_asg (i := 4) (fun _ _ => rfl) (ev_callB (i := 1) rfl (ea_cons ev_int ea_nil)) (fun v_some => (st_if (et_or (et_cmp rc_ne (ev_cb1 rk_repr (ev_callN (ea_cons ev_int (ea_cons (ev_var (i := 9) rfl) (ea_cons (ev_op rr_mul (ev_tup (ea_cons ev_int ea_nil)) (ev_var (i := 3) rfl)) ea_nil))))) (ev_cb1 rk_repr (ev_if (et_cmp rc_lt (ev_var (i := 3) rfl) ev_int) ev_non ev_str))) (et_cmp rc_ne (ev_cb1 rk_repr (ev_callN (ea_cons ev_int (ea_cons (ev_var (i := 9) rfl) (ea_cons (ev_op rr_mul (ev_tup (ea_cons ev_int ea_nil)) (ev_var (i := 3) rfl)) ea_nil))))) (ev_cb1 rk_repr (ev_if (et_cmp rc_lt (ev_var (i := 3) rfl) ev_int) (ev_op rr_add (ev_var (i := 3) rfl) ev_int) ev_str)))) (st_ret ev_bl) (st_if (et_or (et_cmp rc_ne (ev_cb1 rk_repr (ev_callN (ea_cons ev_int (ea_cons (ev_var (i := 9) rfl) (ea_cons (ev_op rr_mul (ev_tup (ea_cons ev_int ea_nil)) (ev_var (i := 4) rfl)) ea_nil))))) (ev_cb1 rk_repr (ev_op rr_add (ev_var (i := 4) rfl) ev_int))) (et_not (et_B (ev_callB (i := 1) rfl ea_nil)))) (st_ret ev_bl) (st_ret (ev_cmp rc_eq (ev_cb1 rk_repr (ev_callN (ea_cons ev_int (ea_cons (ev_var (i := 10) rfl) (ea_cons (ev_tup (ea_cons (ev_tup (ea_cons (ev_tup (ea_cons ev_int ea_nil)) (ea_cons (ev_op rr_div (ev_var (i := 3) rfl) ev_int) ea_nil))) ea_nil)) ea_nil))))) (ev_cb1 rk_repr (ev_if (et_cmp rc_le (ev_op rr_add ev_int (ev_op rr_mul ev_int (ev_op rr_div (ev_var (i := 3) rfl) ev_int))) ev_int) ev_non ev_str)))))))))))))))) (by simp only [m_law, Tr.ret_bind, Tr.bind_assoc, Tr.bind_ret, asB_bool, asI_int, on1_one, on2g_two, on2_two])⟩)
end
end K02
namespace K02
open PySem L2 Cg Cgo Km
/-! ### the check of kinds -/
theorem within_num (x : PyData) : m_is_within x (.int 2) (.int 1000) = .ret (.bool (okNum x)) := by
  cases x with
  | int i =>
    simp only [m_is_within, m_is_whole, isInt, isBool, if_true, asB_bool, Tr.ret_bind, Bool.not_false, cLe_int, okNum]
    by_cases h : (2 : Int) ≤ i
    · simp [h]
    · simp [h]
  | _ => simp [m_is_within, m_is_whole, isInt, isBool, okNum]
theorem kd_record : kdT tab_FEWEST_INSIDE (.str "record") = .ret (.int 1) := rfl
theorem kd_choice : kdT tab_FEWEST_INSIDE (.str "choice") = .ret (.int 2) := rfl
theorem inner_eq (x : PyData) : m_inner_kinds x = .ret (optT (shape x)) := by
  cases x with
  | tuple xs =>
    match xs with
    | [] => rfl
    | [a] => rfl
    | [w, a] =>
      unfold m_inner_kinds
      have ht : Cg.isTup (.tuple [w, a]) = true := rfl
      have hl : dLen (.tuple [w, a]) = .ret (.int 2) := rfl
      simp only [ht, hl, Tr.ret_bind, cLt_int, cGt_int, cEq_str, cEq_int, ix0, ix1, cNotIn, cIn_2, cIn_3, within_num, asB_bool, asI_int, sl1, Bool.not_true]
      by_cases h1 : isW w "table" = true
      · cases isW_yes h1
        rfl
      · simp only [shape]
        by_cases h2 : isW w "number" = true
        · simp [h1, h2]
          cases okNum a <;> rfl
        · by_cases h3 : (isW w "row" || (isW w "set" || isW w "bag")) = true
          · simp [h1, h2, h3, optT]
          · by_cases h4 : isW w "record" = true
            · cases isW_yes h4
              cases a with
              | tuple ys =>
                have e1 : ((1 : Int) ≤ (ys.length : Int)) = (1 ≤ ys.length) := propext (by omega)
                have e2 : ((ys.length : Int) ≤ 4) = (ys.length ≤ 4) := propext (by omega)
                simp only [dLen_tup, cLe_int, e1, e2, kd_record, Tr.ret_bind]
                by_cases a1 : 1 ≤ ys.length <;> by_cases a2 : ys.length ≤ 4 <;> simp [h1, h2, h3, h4, a1, a2, optT, Cg.isTup]
              | _ => simp [h1, h2, h3, optT, Cg.isTup]
            · by_cases h5 : isW w "choice" = true
              · cases isW_yes h5
                cases a with
                | tuple ys =>
                  have e1 : ((2 : Int) ≤ (ys.length : Int)) = (2 ≤ ys.length) := propext (by omega)
                  have e2 : ((ys.length : Int) ≤ 4) = (ys.length ≤ 4) := propext (by omega)
                  simp only [dLen_tup, cLe_int, e1, e2, kd_choice, Tr.ret_bind]
                  by_cases a1 : 2 ≤ ys.length <;> by_cases a2 : ys.length ≤ 4 <;> simp [h1, h2, h3, h4, h5, a1, a2, optT, Cg.isTup]
                | _ => simp [h1, h2, h3, h4, optT, Cg.isTup]
              · simp [h1, h2, h3, h4, h5, optT]
    | [w, a, b] =>
      unfold m_inner_kinds
      have ht : Cg.isTup (.tuple [w, a, b]) = true := rfl
      have hl : dLen (.tuple [w, a, b]) = .ret (.int 3) := rfl
      simp only [ht, hl, Tr.ret_bind, cLt_int, cGt_int, cEq_str, cEq_int, ix0, asI_int, sl1, Bool.not_true, shape]
      cases isW w "table" <;> rfl
    | w :: a :: b :: c :: r =>
      unfold m_inner_kinds
      have ht : Cg.isTup (.tuple (w :: a :: b :: c :: r)) = true := rfl
      have hl : dLen (.tuple (w :: a :: b :: c :: r)) = .ret (.int ((r.length + 4 : Nat) : Int)) := rfl
      have e1 : decide (((r.length + 4 : Nat) : Int) < 2) = false := decide_eq_false (by omega)
      have e2 : decide ((2 : Int) < ((r.length + 4 : Nat) : Int)) = true := decide_eq_true (by omega)
      have e3 : decide (((r.length + 4 : Nat) : Int) = 3) = false := decide_eq_false (by omega)
      simp only [ht, hl, Tr.ret_bind, cLt_int, cGt_int, cEq_str, cEq_int, ix0, asI_int, sl1, Bool.not_true, e1, e2, e3]
      cases isW w "table" <;> rfl
  | _ => rfl
theorem count_eq : ∀ (n d : Nat) (x : PyData), d < n → m_count_kinds n x (.int d) = .ret (optI (cntK d x))
  | 0, _, _, h => absurd h (by omega)
  | n + 1, d, x, h => by
    rw [m_count_kinds, inner_eq, Tr.ret_bind]
    cases d with
    | zero =>
      cases shape x with
      | none => rfl
      | some l => rfl
    | succ d =>
      cases hs : shape x with
      | none => simp only [cntK, hs]; rfl
      | some l =>
        have e0 : decide (((d + 1 : Nat) : Int) < 1) = false := decide_eq_false (by omega)
        have e1 : dSub (.int ((d + 1 : Nat) : Int)) (.int 1) = .ret (.int (d : Int)) := by
          show Tr.ret (PyData.int (((d + 1 : Nat) : Int) - 1)) = _
          congr 2
          omega
        have ni : Cg.isNon (optT (some l)) = false := rfl
        have it : items (optT (some l)) = .ret l := rfl
        simp only [ni, it, e0, e1, Tr.ret_bind, cLt_int, cntK, hs, Bool.false_eq_true, if_false]
        have key : ∀ (ys : List PyData) (t : Int), forC id (fun (v_inner : PyData) (x31 : PyData) => ((m_count_kinds n v_inner (PyData.int (d : Int))).bind fun v_many => if (Cg.isNon v_many) = true then Tr.ret (Ct.rt PyData.none) else (asI x31).bind fun a => (asI v_many).bind fun b => Tr.ret (Ct.nx (PyData.int (a + b))) : Tr (Ct PyData))) (fun x31 => Tr.ret x31) ys (.int t)
            = .ret (optI ((cntAll (cntK d) ys).map (t + ·))) := by
          intro ys
          induction ys with
          | nil =>
            intro t
            show Tr.ret (PyData.int t) = Tr.ret (PyData.int (t + 0))
            rw [Int.add_zero]
          | cons y ys ih =>
            intro t
            simp only [forC, count_eq n d y (by omega), Tr.ret_bind, cntAll]
            cases hc : cntK d y with
            | none => rfl
            | some c =>
              show forC _ _ _ ys (PyData.int (t + c)) = _
              rw [ih (t + c)]
              cases cntAll (cntK d) ys with
              | none => rfl
              | some r => 
                show Tr.ret (PyData.int (t + c + r)) = Tr.ret (PyData.int (t + (c + r)))
                rw [Int.add_assoc]
        exact key l 1
theorem check_eq (x : PyData) : m_check_kind x = if isK x then .ret .none else .exc Ek.kind := by
  unfold m_check_kind b_check_kind isK
  rw [show (PyData.int 5) = PyData.int ((5 : Nat) : Int) from rfl, count_eq 8 5 x (by omega)]
  cases cntK 5 x with
  | none => rfl
  | some c =>
    show ((Tr.ret (decide (20 < c))).bind fun x35 => if x35 then Tr.exc Ek.kind else Tr.ret ()).bind (fun _ => Tr.ret PyData.none) = if decide (c ≤ 20) = true then Tr.ret PyData.none else Tr.exc Ek.kind
    by_cases h : c ≤ 20
    · rw [decide_eq_true h, decide_eq_false (show ¬ 20 < c by omega)]
      rfl
    · rw [decide_eq_false h, decide_eq_true (show 20 < c by omega)]
      rfl
/-! ### kinds that are drawn -/
theorem lawInner_enc (k : Kd) : m__law_inner (enc k) = .ret (.list (encs k.inner)) := by
  cases k <;> rw [enc] <;> unfold m__law_inner <;> simp only [ix0, ix1, Tr.ret_bind, cIn_2, cNe_str, asI_int, sl1] <;> rfl
theorem many_enc : ∀ (n : Nat) (k : Kd), k.deep < n → m__law_many n (enc k) = .ret (.int k.size)
  | 0, _, h => absurd h (by omega)
  | n + 1, k, h => by
    rw [m__law_many, lawInner_enc]
    have e : mapT (fun v_one => m__law_many n v_one) (encs k.inner) = .ret ((k.inner.map Kd.size).map PyData.int) := by
      have key : ∀ qs : List Kd, (∀ q ∈ qs, q.deep < n) → mapT (fun v_one => m__law_many n v_one) (encs qs) = .ret ((qs.map Kd.size).map PyData.int) := by
        intro qs
        induction qs with
        | nil => exact fun _ => rfl
        | cons q qs ih =>
          intro hq
          rw [encs]
          show (m__law_many n (enc q)).bind _ = _
          rw [many_enc n q (hq q List.mem_cons_self), Tr.ret_bind, ih fun x hx => hq x (List.mem_cons_of_mem _ hx)]
          rfl
      exact key _ fun q hq => by have := inner_deep q hq; omega
    have e2 : ∀ qs : List Kd, (qs.map Kd.size).sum = sizes qs := by
      intro qs
      induction qs with
      | nil => rfl
      | cons q qs ih => rw [List.map_cons, List.sum_cons, ih]; rfl
    simp only [Tr.ret_bind, items, e, dSum_map, e2, size_inner k]
    rfl
theorem pick_wp {xs : List PyData} {Q : PyData → Prop} (h1 : 1 ≤ xs.length) (h2 : xs.length < 1000000) (h : ∀ y ∈ xs, Q y) : (m__law_pick (.list xs)).wp Q F0 := by
  unfold m__law_pick
  rw [show dLen (.list xs) = .ret (.int xs.length) from rfl, Tr.ret_bind]
  refine Tr.wp_bind.mpr (take_wp (by omega) (by omega) fun i hi => ?_)
  have hi' : i < xs.length := by omega
  rw [ixL_nat (List.getElem?_eq_getElem hi')]
  exact h _ (List.getElem_mem hi')
theorem pick_draws : ∃ pk, m__law_pick = pk ∧ Picks pk := ⟨m__law_pick, rfl, pick_wp⟩
/-- a kind of so many levels -/
def IsKd (d : Nat) (x : PyData) : Prop := ∃ k : Kd, x = enc k ∧ k.ok = true ∧ k.deep ≤ d
theorem IsKd.num {d : Nat} {i : Int} (h1 : 2 ≤ i) (h2 : i ≤ 1000) : IsKd (d + 1) (.tuple [.str "number", .int i]) :=
  ⟨.num i, by rw [enc], by rw [Kd.ok, decide_eq_true h1, decide_eq_true h2]; rfl, by rw [Kd.deep]; omega⟩
theorem IsKd.row {d : Nat} {w : Str} {a : PyData} (hw : w = "row" ∨ w = "set" ∨ w = "bag") (h : IsKd d a) : IsKd (d + 1) (.tuple [.str w, a]) := by
  obtain ⟨k, rfl, h1, h2⟩ := h
  rcases hw with rfl | rfl | rfl
  · exact ⟨.row k, by rw [enc], by rw [Kd.ok]; exact h1, by rw [Kd.deep]; omega⟩
  · exact ⟨.set k, by rw [enc], by rw [Kd.ok]; exact h1, by rw [Kd.deep]; omega⟩
  · exact ⟨.bag k, by rw [enc], by rw [Kd.ok]; exact h1, by rw [Kd.deep]; omega⟩
theorem IsKd.tab {d : Nat} {a b : PyData} (ha : IsKd d a) (hb : IsKd d b) : IsKd (d + 1) (.tuple [.str "table", a, b]) := by
  obtain ⟨k, rfl, h1, h2⟩ := ha
  obtain ⟨e, rfl, h3, h4⟩ := hb
  exact ⟨.tab k e, by rw [enc], by rw [Kd.ok, h1, h3]; rfl, by rw [Kd.deep]; omega⟩
theorem IsKd.all {d : Nat} : ∀ {ys : List PyData}, (∀ y ∈ ys, IsKd d y) → ∃ ks : List Kd, ys = encs ks ∧ oks ks = true ∧ deeps ks ≤ d
  | [], _ => ⟨[], rfl, rfl, Nat.zero_le _⟩
  | y :: ys, h => by
    obtain ⟨k, rfl, h1, h2⟩ := h y List.mem_cons_self
    obtain ⟨ks, rfl, h3, h4⟩ := IsKd.all (ys := ys) fun x hx => h x (List.mem_cons_of_mem _ hx)
    exact ⟨k :: ks, rfl, by rw [oks, h1, h3]; rfl, by rw [deeps]; omega⟩
theorem IsKd.rcd {d : Nat} {w : Str} {ys : List PyData} (hw : w = "record" ∧ 1 ≤ ys.length ∨ w = "choice" ∧ 2 ≤ ys.length) (h4 : ys.length ≤ 4) (h : ∀ y ∈ ys, IsKd d y) : IsKd (d + 1) (.tuple [.str w, .tuple ys]) := by
  obtain ⟨ks, rfl, h1, h2⟩ := IsKd.all h
  rw [encs_len] at hw h4
  rcases hw with ⟨rfl, h3⟩ | ⟨rfl, h3⟩
  · exact ⟨.rcd ks, by rw [enc], by rw [Kd.ok, h1, decide_eq_true h3, decide_eq_true h4]; rfl, by rw [Kd.deep]; omega⟩
  · exact ⟨.cho ks, by rw [enc], by rw [Kd.ok, h1, decide_eq_true h3, decide_eq_true h4]; rfl, by rw [Kd.deep]; omega⟩
theorem num_wp {tk pk : PyData → Tr PyData} (tw : Draws tk) (pw : Picks pk) (d : Nat) : (((((tk (PyData.int 999)).bind fun x39 => dAdd (PyData.int 2) x39).bind fun x40 => Tr.ret (PyData.list [(PyData.int 2), (PyData.int 2), (PyData.int 3), (PyData.int 5), (PyData.int 10), (PyData.int 1000), x40])).bind fun x41 => pk x41).bind fun x42 => Tr.ret (PyData.tuple [(PyData.str "number"), x42])).wp (IsKd (d + 1)) F0 := by
  rw [Tr.wp_bind, Tr.wp_bind, Tr.wp_bind, Tr.wp_bind]
  refine tw (m := 999) (Q := fun a => _) ?_ ?_ fun i hi => ?_
  · decide
  · decide
  have hi' : (i : Int) < 999 := hi
  simp only [dAdd, Tr.wp]
  refine pw (by show 1 ≤ 7; omega) (by show 7 < 1000000; omega) fun y hy => ?_
  have hy' : y ∈ [(PyData.int 2), (PyData.int 2), (PyData.int 3), (PyData.int 5), (PyData.int 10), (PyData.int 1000), PyData.int (2 + (i : Int))] := hy
  simp only [List.mem_cons, List.not_mem_nil, or_false] at hy'
  rcases hy' with rfl | rfl | rfl | rfl | rfl | rfl | rfl
  · exact IsKd.num (by omega) (by omega)
  · exact IsKd.num (by omega) (by omega)
  · exact IsKd.num (by omega) (by omega)
  · exact IsKd.num (by omega) (by omega)
  · exact IsKd.num (by omega) (by omega)
  · exact IsKd.num (by omega) (by omega)
  · exact IsKd.num (by omega) (by omega)
theorem kind_wp : ∀ (n d : Nat) (k : Int), d < n → k ≤ (d : Int) + 1 → (m__law_kind n (.int k)).wp (IsKd (d + 1)) F0
  | 0, _, _, h, _ => absurd h (by omega)
  | n + 1, d, k, h, hk => by
    obtain ⟨tk, htk, tw⟩ := take_draws
    obtain ⟨pk, hpk, pw⟩ := pick_draws
    have num := num_wp tw pw d
    rw [m__law_kind, htk, hpk]
    refine Tr.wp_bind.mpr (tw (by decide) (by decide) fun sort hsort => ?_)
    rw [cLe_int]
    show Tr.wp _ _ ((if decide (k ≤ 1) = true then Tr.ret true else _).bind _)
    by_cases hk1 : k ≤ 1
    · simp only [decide_eq_true hk1, if_true, Tr.ret_bind]
      exact num
    · rw [decide_eq_false hk1]
      simp only [cLt_int, Tr.ret_bind, cEq_int, Bool.false_eq_true, if_false]
      by_cases s1 : (sort : Int) < 2
      · simp only [decide_eq_true s1, if_true]
        exact num
      · rw [if_neg (by rw [decide_eq_true_eq]; exact s1)]
        obtain ⟨e, rfl⟩ : ∃ e, d = e + 1 := ⟨d - 1, by omega⟩
        have ih1 : (m__law_kind n (.int (k - 1))).wp (IsKd (e + 1)) F0 := kind_wp n e (k - 1) (by omega) (by omega)
        have ih2 : (m__law_kind n (.int (k - 2))).wp (IsKd (e + 1)) F0 := kind_wp n e (k - 2) (by omega) (by omega)
        have d1 : dSub (.int k) (.int 1) = .ret (.int (k - 1)) := rfl
        have d2 : dSub (.int k) (.int 2) = .ret (.int (k - 2)) := rfl
        simp only [d1, d2, Tr.ret_bind]
        have many : ∀ (w : Str) (lo : Int) (menu : List PyData), 1 ≤ menu.length → menu.length < 1000000 → (∀ y ∈ menu, ∃ c : Int, y = .int c ∧ lo ≤ c ∧ c ≤ 4) → (w = "record" ∧ lo = 1 ∨ w = "choice" ∧ lo = 2) →
            ((((pk (.list menu)).bind fun x44 => (rangeT (.int 0) x44).bind fun x45 => (mapT (fun v_k => m__law_kind n (.int (k - 1))) x45).bind fun x46 => Tr.ret (PyData.list x46)).bind fun x47 => dTuple x47).bind fun x48 => Tr.ret (PyData.tuple [(PyData.str w), x48])).wp (IsKd (e + 1 + 1)) F0 := by
          intro w lo menu h1 h2 hm hw
          refine Tr.wp_bind.mpr (Tr.wp_bind.mpr (Tr.wp_bind.mpr (pw h1 h2 fun y hy => ?_)))
          obtain ⟨c, rfl, hc1, hc2⟩ := hm y hy
          have hlo : 1 ≤ lo := by
            rcases hw with ⟨_, rfl⟩ | ⟨_, rfl⟩ <;> omega
          rw [range_eq (by omega) (by omega), Tr.ret_bind]
          refine Tr.wp_bind.mpr (Tr.wp_mono (fun ys hys => ?_) (fun _ z => z) (map_wp (P := IsKd (e + 1)) _ fun _ _ => ih1))
          have hl : ys.length = c.toNat := by rw [hys.1, rng_len]
          refine IsKd.rcd ?_ (by omega) hys.2
          rcases hw with ⟨rfl, rfl⟩ | ⟨rfl, rfl⟩
          · exact .inl ⟨rfl, by omega⟩
          · exact .inr ⟨rfl, by omega⟩
        by_cases s2 : (sort : Int) < 4
        · rw [if_pos (decide_eq_true s2)]
          refine many "record" 1 _ (by show 1 ≤ 5; omega) (by show 5 < 1000000; omega) (fun y hy => ?_) (.inl ⟨rfl, rfl⟩)
          simp only [List.mem_cons, List.not_mem_nil, or_false] at hy
          rcases hy with rfl | rfl | rfl | rfl | rfl <;> exact ⟨_, rfl, by omega, by omega⟩
        · rw [if_neg (by rw [decide_eq_true_eq]; exact s2)]
          by_cases s3 : (sort : Int) = 4
          · rw [if_pos (decide_eq_true s3)]
            refine many "choice" 2 _ (by show 1 ≤ 4; omega) (by show 4 < 1000000; omega) (fun y hy => ?_) (.inr ⟨rfl, rfl⟩)
            simp only [List.mem_cons, List.not_mem_nil, or_false] at hy
            rcases hy with rfl | rfl | rfl | rfl <;> exact ⟨_, rfl, by omega, by omega⟩
          · rw [if_neg (by rw [decide_eq_true_eq]; exact s3)]
            by_cases s4 : (sort : Int) < 7
            · rw [if_pos (decide_eq_true s4)]
              exact Tr.wp_bind.mpr (Tr.wp_mono (fun a ha => IsKd.row (.inl rfl) ha) (fun _ z => z) ih1)
            · rw [if_neg (by rw [decide_eq_true_eq]; exact s4)]
              by_cases s5 : (sort : Int) < 9
              · rw [if_pos (decide_eq_true s5)]
                refine Tr.wp_bind.mpr (pw (by show 1 ≤ 2; omega) (by show 2 < 1000000; omega) fun y hy => ?_)
                refine Tr.wp_bind.mpr (Tr.wp_mono (fun a ha => ?_) (fun _ z => z) ih1)
                simp only [List.mem_cons, List.not_mem_nil, or_false] at hy
                rcases hy with rfl | rfl
                · exact IsKd.row (.inr (.inl rfl)) ha
                · exact IsKd.row (.inr (.inr rfl)) ha
              · rw [if_neg (by rw [decide_eq_true_eq]; exact s5)]
                refine Tr.wp_bind.mpr (Tr.wp_mono (fun a ha => ?_) (fun _ z => z) ih2)
                exact Tr.wp_bind.mpr (Tr.wp_mono (fun b hb => IsKd.tab ha hb) (fun _ z => z) ih1)
/-- a kind that may be handed in -/
def Good (x : PyData) : Prop := ∃ k : Kd, x = enc k ∧ k.ok = true ∧ k.deep ≤ 5 ∧ k.size ≤ 20
theorem Good.isK {x : PyData} (h : Good x) : isK x = true := by
  obtain ⟨k, rfl, h1, h2, h3⟩ := h
  unfold Km.isK
  rw [cnt_enc 5 k h1 h2]
  exact decide_eq_true h3
theorem some_kind_wp : m__law_some_kind.wp Good F0 := by
  obtain ⟨pk, hpk, pw⟩ := pick_draws
  unfold m__law_some_kind
  rw [hpk]
  refine Tr.wp_bind.mpr (Tr.wp_bind.mpr (pw (by show 1 ≤ 5; omega) (by show 5 < 1000000; omega) fun y hy => ?_))
  have hc : ∃ c : Int, y = .int c ∧ c ≤ 5 := by
    simp only [List.mem_cons, List.not_mem_nil, or_false] at hy
    rcases hy with rfl | rfl | rfl | rfl | rfl <;> exact ⟨_, rfl, by omega⟩
  obtain ⟨c, rfl, hc⟩ := hc
  refine Tr.wp_mono (fun x hx => ?_) (fun _ z => z) (kind_wp 8 4 c (by omega) (by omega))
  obtain ⟨k, rfl, h1, h2⟩ := hx
  rw [many_enc 12 k (by omega), Tr.ret_bind, cLe_int, Tr.ret_bind]
  by_cases q : k.size ≤ 20
  · rw [decide_eq_true q, if_pos rfl]
    exact ⟨k, rfl, h1, h2, q⟩
  · rw [decide_eq_false q, if_neg (by simp)]
    exact ⟨.row (.num 3), by rw [enc, enc], rfl, by rw [Kd.deep, Kd.deep]; omega, by rw [Kd.size, Kd.size]; omega⟩
/-! ### what the law's helpers and the program tell of values -/
theorem number_eq (v : PyData) (lo hi : Int) : m__law_number v (.int lo) (.int hi) = .ret (.bool (numIn v lo hi)) := by
  cases v with
  | int i =>
    simp only [m__law_number, isInt, isBool, if_true, asB_bool, Tr.ret_bind, Bool.not_false, cLe_int, numIn]
    by_cases h : lo ≤ i
    · simp [h]
    · simp [h]
  | bool b => rfl
  | _ => simp [m__law_number, isInt, numIn]
theorem within_eq (v : PyData) (lo hi : Int) : m_is_within v (.int lo) (.int hi) = .ret (.bool (numIn v lo hi)) := by
  cases v with
  | int i =>
    simp only [m_is_within, m_is_whole, isInt, isBool, if_true, asB_bool, Tr.ret_bind, Bool.not_false, cLe_int, numIn]
    by_cases h : lo ≤ i
    · simp [h]
    · simp [h]
  | bool b => rfl
  | _ => simp [m_is_within, m_is_whole, isInt, numIn]
theorem rises_eq {x : PyData} {vs : List PyData} (S : SeqD x vs) (hs : vs.length ≤ 1000000) (hc : ∀ a ∈ vs, ∀ b ∈ vs, cLtD a b = .ret (ltD a b == some true)) : m__law_rises x = .ret (.bool (rising vs)) := by
  unfold m__law_rises
  have e : mapIf (fun v_k => (((dSub v_k (PyData.int 1)).bind fun x272 => dIx x x272).bind fun x273 => (dIx x v_k).bind fun x274 => cLtD x273 x274).bind fun x275 => Tr.ret (!x275)) (fun v_k => Tr.ret v_k) (rng 1 (vs.length - 1)) = .ret (((List.range (vs.length - 1)).filter fun j => !(ltD (vs.getD j .none) (vs.getD (j + 1) .none) == some true)).map fun (i : Nat) => PyData.int (1 + (i : Int))) := by
    refine mapIf_rng fun i hi => ?_
    have e1 : vs[i]? = some vs[i] := List.getElem?_eq_getElem (by omega)
    have e2 : vs[i + 1]? = some vs[i + 1] := List.getElem?_eq_getElem (by omega)
    have e3 : dSub (PyData.int (1 + (i : Int))) (PyData.int 1) = .ret (.int (i : Int)) := by
      rw [dSub_int]
      congr 2
      omega
    have e4 : (1 + (i : Int)) = ((i + 1 : Nat) : Int) := by omega
    rw [e3, Tr.ret_bind, S.ix i _ e1, Tr.ret_bind, e4, S.ix (i + 1) _ e2, Tr.ret_bind, hc _ (List.getElem_mem _) _ (List.getElem_mem _), Tr.ret_bind, List.getD_eq_getElem?_getD, List.getD_eq_getElem?_getD, e1, e2]
    rfl
  rw [S.len, Tr.ret_bind, range1_eq (by omega) (by omega), Tr.ret_bind, Int.toNat_natCast, e, Tr.ret_bind, Tr.ret_bind, cEq_nil, Tr.ret_bind]
  congr 2
  unfold rising
  rw [List.isEmpty_map]
  generalize List.range (vs.length - 1) = R
  induction R with
  | nil => rfl
  | cons r R ih =>
    rw [List.filter_cons, List.all_cons, ← ih]
    cases ltD (vs.getD r .none) (vs.getD (r + 1) .none) == some true <;> rfl
theorem rising_eq {x : PyData} {vs : List PyData} (S : SeqD x vs) (hs : vs.length ≤ 1000000) (hc : ∀ a ∈ vs, ∀ b ∈ vs, cLtD a b = .ret (ltD a b == some true)) : m_is_rising x = .ret (.bool (rising vs)) := by
  unfold m_is_rising
  have e : mapT (fun v_at => (((dSub v_at (PyData.int 1)).bind fun x36 => dIx x x36).bind fun x37 => (dIx x v_at).bind fun x38 => cLtD x37 x38).bind fun x39 => Tr.ret (PyData.bool x39)) (rng 1 (vs.length - 1)) = .ret (((List.range (vs.length - 1)).map fun j => ltD (vs.getD j .none) (vs.getD (j + 1) .none) == some true).map PyData.bool) := by
    rw [List.map_map]
    refine map_rng fun i hi => ?_
    have e1 : vs[i]? = some vs[i] := List.getElem?_eq_getElem (by omega)
    have e2 : vs[i + 1]? = some vs[i + 1] := List.getElem?_eq_getElem (by omega)
    have e3 : dSub (PyData.int (1 + (i : Int))) (PyData.int 1) = .ret (.int (i : Int)) := by
      rw [dSub_int]
      congr 2
      omega
    have e4 : (1 + (i : Int)) = ((i + 1 : Nat) : Int) := by omega
    rw [e3, Tr.ret_bind, S.ix i _ e1, Tr.ret_bind, e4, S.ix (i + 1) _ e2, Tr.ret_bind, hc _ (List.getElem_mem _) _ (List.getElem_mem _), Tr.ret_bind]
    simp only [Function.comp, List.getD_eq_getElem?_getD, e1, e2]
    rfl
  rw [S.len, Tr.ret_bind, range1_eq (by omega) (by omega), Tr.ret_bind, Int.toNat_natCast, e, Tr.ret_bind, Tr.ret_bind, all_bools, List.all_map]
  rfl

/-! ### the law's weight -/
theorem weight_eq : ∀ (n : Nat) (k : Kd) (v : PyData) (d : Nat), k.deep < n → Nc 1000 1000000 d v → isV k v = true → m__law_weight n (enc k) v = .ret (.int (wt k v))
  | 0, _, _, _, h, _, _ => absurd h (by omega)
  | n + 1, k, v, d, h, hc, hv => by
    have step : ∀ q ∈ k.inner, q.deep < n := fun q hq => by have := inner_deep q hq; omega
    rw [m__law_weight]
    cases k with
    | num m =>
      rw [enc, wt_num]
      simp only [ix0, ix1, Tr.ret_bind, cEq_str, w_number_number, w_number_record, w_number_choice, w_number_row, w_number_set, w_number_bag, w_number_table, w_record_number, w_record_record, w_record_choice, w_record_row, w_record_set, w_record_bag, w_record_table, w_choice_number, w_choice_record, w_choice_choice, w_choice_row, w_choice_set, w_choice_bag, w_choice_table, w_row_number, w_row_record, w_row_choice, w_row_row, w_row_set, w_row_bag, w_row_table, w_set_number, w_set_record, w_set_choice, w_set_row, w_set_set, w_set_bag, w_set_table, w_bag_number, w_bag_record, w_bag_choice, w_bag_row, w_bag_set, w_bag_bag, w_bag_table, w_table_number, w_table_record, w_table_choice, w_table_row, w_table_set, w_table_bag, w_table_table, if_true]
    | rcd ks =>
      obtain ⟨vs, rfl, hx⟩ := isV_rcd.mp hv
      obtain ⟨e, rfl, hl, hall⟩ := nc_tup hc
      have hlen := isVs_len hx
      rw [enc]
      simp only [ix0, ix1, Tr.ret_bind, cEq_str, w_number_number, w_number_record, w_number_choice, w_number_row, w_number_set, w_number_bag, w_number_table, w_record_number, w_record_record, w_record_choice, w_record_row, w_record_set, w_record_bag, w_record_table, w_choice_number, w_choice_record, w_choice_choice, w_choice_row, w_choice_set, w_choice_bag, w_choice_table, w_row_number, w_row_record, w_row_choice, w_row_row, w_row_set, w_row_bag, w_row_table, w_set_number, w_set_record, w_set_choice, w_set_row, w_set_set, w_set_bag, w_set_table, w_bag_number, w_bag_record, w_bag_choice, w_bag_row, w_bag_set, w_bag_bag, w_bag_table, w_table_number, w_table_record, w_table_choice, w_table_row, w_table_set, w_table_bag, w_table_table, if_true, if_false, Bool.false_eq_true, dLen_tup, range_eq (show (0 : Int) ≤ (vs.length : Int) by omega) (show (vs.length : Int) ≤ 1000000 by omega), Int.toNat_natCast]
      rw [rng_zip (g := fun k v => PyData.int (wt k v)) hlen fun j q u hq hu => weight_eq n q u e (step q (List.mem_of_getElem? hq)) (hall u (List.mem_of_getElem? hu)) ((isVs_iff.mp hx).2 j q u hq hu), zip_map wt PyData.int]
      rw [Tr.ret_bind, Tr.ret_bind, dSum_map, Tr.ret_bind, dAdd_int, wt_rcd, wts_zip _ _ hlen]
    | cho ks =>
      obtain ⟨i, u, q, rfl, h0, hq, hu⟩ := isV_cho.mp hv
      obtain ⟨e, rfl, hl, hall⟩ := nc_tup hc
      rw [enc]
      obtain ⟨m, rfl⟩ : ∃ m : Nat, i = (m : Int) := ⟨i.toNat, by omega⟩
      rw [Int.toNat_natCast] at hq
      simp only [ix0, ix1, Tr.ret_bind, cEq_str, w_number_number, w_number_record, w_number_choice, w_number_row, w_number_set, w_number_bag, w_number_table, w_record_number, w_record_record, w_record_choice, w_record_row, w_record_set, w_record_bag, w_record_table, w_choice_number, w_choice_record, w_choice_choice, w_choice_row, w_choice_set, w_choice_bag, w_choice_table, w_row_number, w_row_record, w_row_choice, w_row_row, w_row_set, w_row_bag, w_row_table, w_set_number, w_set_record, w_set_choice, w_set_row, w_set_set, w_set_bag, w_set_table, w_bag_number, w_bag_record, w_bag_choice, w_bag_row, w_bag_set, w_bag_bag, w_bag_table, w_table_number, w_table_record, w_table_choice, w_table_row, w_table_set, w_table_bag, w_table_table, if_true, if_false, Bool.false_eq_true, ix_nat (encs_get hq)]
      rw [weight_eq n q u e (step q (List.mem_of_getElem? hq)) (hall u (by simp)) hu, Tr.ret_bind, dAdd_int, wt_cho (by rw [Int.toNat_natCast]; exact hq)]
    | row q =>
      obtain ⟨vs, rfl, hx⟩ := isV_row.mp hv
      obtain ⟨e, rfl, hl, hall⟩ := nc_tup hc
      rw [enc]
      simp only [ix0, ix1, Tr.ret_bind, cEq_str, cIn_2, w_number_number, w_number_record, w_number_choice, w_number_row, w_number_set, w_number_bag, w_number_table, w_record_number, w_record_record, w_record_choice, w_record_row, w_record_set, w_record_bag, w_record_table, w_choice_number, w_choice_record, w_choice_choice, w_choice_row, w_choice_set, w_choice_bag, w_choice_table, w_row_number, w_row_record, w_row_choice, w_row_row, w_row_set, w_row_bag, w_row_table, w_set_number, w_set_record, w_set_choice, w_set_row, w_set_set, w_set_bag, w_set_table, w_bag_number, w_bag_record, w_bag_choice, w_bag_row, w_bag_set, w_bag_bag, w_bag_table, w_table_number, w_table_record, w_table_choice, w_table_row, w_table_set, w_table_bag, w_table_table, if_true, if_false, Bool.false_eq_true, Bool.true_or, Bool.or_true, Bool.or_false, items]
      rw [map_ret (g := fun y => PyData.int (wt q y)) vs fun y hy => weight_eq n q y e (step q (by simp [Kd.inner])) (hall y hy) (hx y hy), Tr.ret_bind, Tr.ret_bind, map_int, dSum_map, Tr.ret_bind, dAdd_int, wt_row]
    | set q =>
      obtain ⟨vs, rfl, hx, _⟩ := isV_set.mp hv
      obtain ⟨e, rfl, hl, hall⟩ := nc_tup hc
      rw [enc]
      simp only [ix0, ix1, Tr.ret_bind, cEq_str, cIn_2, w_number_number, w_number_record, w_number_choice, w_number_row, w_number_set, w_number_bag, w_number_table, w_record_number, w_record_record, w_record_choice, w_record_row, w_record_set, w_record_bag, w_record_table, w_choice_number, w_choice_record, w_choice_choice, w_choice_row, w_choice_set, w_choice_bag, w_choice_table, w_row_number, w_row_record, w_row_choice, w_row_row, w_row_set, w_row_bag, w_row_table, w_set_number, w_set_record, w_set_choice, w_set_row, w_set_set, w_set_bag, w_set_table, w_bag_number, w_bag_record, w_bag_choice, w_bag_row, w_bag_set, w_bag_bag, w_bag_table, w_table_number, w_table_record, w_table_choice, w_table_row, w_table_set, w_table_bag, w_table_table, if_true, if_false, Bool.false_eq_true, Bool.true_or, Bool.or_true, Bool.or_false, items]
      rw [map_ret (g := fun y => PyData.int (wt q y)) vs fun y hy => weight_eq n q y e (step q (by simp [Kd.inner])) (hall y hy) (hx y hy), Tr.ret_bind, Tr.ret_bind, map_int, dSum_map, Tr.ret_bind, dAdd_int, wt_set]
    | bag q =>
      obtain ⟨us, rfl, hx, _⟩ := isV_bag.mp hv
      obtain ⟨e, rfl, hl, hall⟩ := nc_tup hc
      rw [enc]
      simp only [ix0, ix1, Tr.ret_bind, cEq_str, cIn_2, w_number_number, w_number_record, w_number_choice, w_number_row, w_number_set, w_number_bag, w_number_table, w_record_number, w_record_record, w_record_choice, w_record_row, w_record_set, w_record_bag, w_record_table, w_choice_number, w_choice_record, w_choice_choice, w_choice_row, w_choice_set, w_choice_bag, w_choice_table, w_row_number, w_row_record, w_row_choice, w_row_row, w_row_set, w_row_bag, w_row_table, w_set_number, w_set_record, w_set_choice, w_set_row, w_set_set, w_set_bag, w_set_table, w_bag_number, w_bag_record, w_bag_choice, w_bag_row, w_bag_set, w_bag_bag, w_bag_table, w_table_number, w_table_record, w_table_choice, w_table_row, w_table_set, w_table_bag, w_table_table, if_true, if_false, Bool.false_eq_true, Bool.true_or, Bool.or_true, Bool.or_false, items]
      have key : mapT (un2 fun v_one v_count => (m__law_weight n (enc q) v_one).bind fun x231 => dMul v_count x231) (ofBag us) = .ret ((us.map fun p => p.2 * wt q p.1).map PyData.int) := by
        have go : ∀ ws : List (PyData × Int), (∀ p ∈ ws, p ∈ us) → mapT (un2 fun v_one v_count => (m__law_weight n (enc q) v_one).bind fun x231 => dMul v_count x231) (ofBag ws) = .ret ((ws.map fun p => p.2 * wt q p.1).map PyData.int) := by
          intro ws
          induction ws with
          | nil => exact fun _ => rfl
          | cons p ws ih =>
            intro hm
            have hp := hm p List.mem_cons_self
            obtain ⟨e2, rfl, _, h2⟩ := nc_tup (hall (.tuple [p.1, .int p.2]) (List.mem_map.mpr ⟨p, hp, rfl⟩))
            have hb : p.2.natAbs ≤ 1000000 := nc_int.mp (h2 (.int p.2) (by simp))
            show (((m__law_weight n (enc q) p.1).bind fun x231 => dMul (.int p.2) x231).bind _) = _
            rw [weight_eq n q p.1 e2 (step q (by simp [Kd.inner])) (h2 p.1 (by simp)) (hx p hp).1, Tr.ret_bind]
            have em : dMul (.int p.2) (.int (wt q p.1)) = .ret (.int (p.2 * wt q p.1)) := by
              unfold dMul
              simp only
              rw [if_pos (by omega)]
            rw [em, Tr.ret_bind]
            show ((mapT _ (ofBag ws)).bind _) = _
            rw [ih fun p hp => hm p (List.mem_cons_of_mem _ hp)]
            rfl
        exact go us fun _ h => h
      rw [key, Tr.ret_bind, Tr.ret_bind, dSum_map, Tr.ret_bind, dAdd_int, wt_bag]
    | tab q r =>
      obtain ⟨us, rfl, hx, _⟩ := isV_tab.mp hv
      obtain ⟨e, rfl, hl, hall⟩ := nc_tup hc
      rw [enc]
      simp only [ix0, ix1, ix2, Tr.ret_bind, cEq_str, cIn_2, w_number_number, w_number_record, w_number_choice, w_number_row, w_number_set, w_number_bag, w_number_table, w_record_number, w_record_record, w_record_choice, w_record_row, w_record_set, w_record_bag, w_record_table, w_choice_number, w_choice_record, w_choice_choice, w_choice_row, w_choice_set, w_choice_bag, w_choice_table, w_row_number, w_row_record, w_row_choice, w_row_row, w_row_set, w_row_bag, w_row_table, w_set_number, w_set_record, w_set_choice, w_set_row, w_set_set, w_set_bag, w_set_table, w_bag_number, w_bag_record, w_bag_choice, w_bag_row, w_bag_set, w_bag_bag, w_bag_table, w_table_number, w_table_record, w_table_choice, w_table_row, w_table_set, w_table_bag, w_table_table, if_true, if_false, Bool.false_eq_true, Bool.true_or, Bool.or_true, Bool.or_false, items]
      have key : mapT (un2 fun v_key v_entry => (m__law_weight n (enc q) v_key).bind fun x238 => (m__law_weight n (enc r) v_entry).bind fun x239 => dAdd x238 x239) (ofTab us) = .ret ((us.map fun p => wt q p.1 + wt r p.2).map PyData.int) := by
        have go : ∀ ws : List (PyData × PyData), (∀ p ∈ ws, p ∈ us) → mapT (un2 fun v_key v_entry => (m__law_weight n (enc q) v_key).bind fun x238 => (m__law_weight n (enc r) v_entry).bind fun x239 => dAdd x238 x239) (ofTab ws) = .ret ((ws.map fun p => wt q p.1 + wt r p.2).map PyData.int) := by
          intro ws
          induction ws with
          | nil => exact fun _ => rfl
          | cons p ws ih =>
            intro hm
            have hp := hm p List.mem_cons_self
            obtain ⟨e2, rfl, _, h2⟩ := nc_tup (hall (.tuple [p.1, p.2]) (List.mem_map.mpr ⟨p, hp, rfl⟩))
            show (((m__law_weight n (enc q) p.1).bind fun x238 => (m__law_weight n (enc r) p.2).bind fun x239 => dAdd x238 x239).bind _) = _
            rw [weight_eq n q p.1 e2 (step q (by simp [Kd.inner])) (h2 p.1 (by simp)) (hx p hp).1, Tr.ret_bind, weight_eq n r p.2 e2 (step r (by simp [Kd.inner])) (h2 p.2 (by simp)) (hx p hp).2, Tr.ret_bind, dAdd_int, Tr.ret_bind]
            show ((mapT _ (ofTab ws)).bind _) = _
            rw [ih fun p hp => hm p (List.mem_cons_of_mem _ hp)]
            rfl
        exact go us fun _ h => h
      rw [key, Tr.ret_bind, Tr.ret_bind, dSum_map, Tr.ret_bind, dAdd_int, wt_tab]

/-! ### what is a value, as the law tells it -/
theorem fsts_mem {us : List PyData} {k : Kd} (h : ∀ p ∈ us, ∃ u w, p = .tuple [u, w] ∧ isV k u = true) : ∀ y ∈ Km.fsts us, isV k y = true := by
  intro y hy
  obtain ⟨p, hp, rfl⟩ := List.mem_map.mp hy
  obtain ⟨u, w, rfl, hu⟩ := h p hp
  exact hu
theorem lt_of {k : Kd} {vs : List PyData} (hd : k.deep ≤ 30) (h : ∀ y ∈ vs, isV k y = true) : ∀ a ∈ vs, ∀ b ∈ vs, cLtD a b = .ret (ltD a b == some true) := fun a ha b hb => isV_lt (h a ha) (h b hb) hd
theorem heads_eq {us : List PyData} (h : ∀ p ∈ us, ∃ u w, p = .tuple [u, w]) : mapT (fun v_pair => dIx v_pair (PyData.int 0)) us = .ret (Km.fsts us) := by
  have e := map_ret (f := fun v_pair => dIx v_pair (PyData.int 0)) (g := fun p => match p with | .tuple (u :: _) => u | _ => .none) us fun p hp => by
    obtain ⟨u, w, rfl⟩ := h p hp
    exact ix0 u [w]
  exact e
theorem pair_len {x : PyData} {l b d : Nat} (h : Nc l b d x) (h2 : isTup x = true) (h3 : dLen x = .ret (.int 2)) : ∃ u w, x = .tuple [u, w] := by
  cases x with
  | tuple xs =>
    rw [dLen_tup] at h3
    injection h3 with h3
    injection h3 with h3
    match xs, h3 with
    | [u, w], _ => exact ⟨u, w, rfl⟩
    | [], h3 => exact absurd h3 (by simp)
    | [_], h3 => exact absurd h3 (by simp)
    | _ :: _ :: _ :: r, h3 => exact absurd h3 (by rw [List.length_cons, List.length_cons, List.length_cons]; omega)
  | _ => cases h2
theorem not_pair {x : PyData} (h : ∀ u w, x ≠ .tuple [u, w]) : isTup x = false ∨ ∃ m : Int, dLen x = .ret (.int m) ∧ m ≠ 2 := by
  cases x with
  | tuple xs =>
    refine .inr ⟨xs.length, rfl, fun z => ?_⟩
    match xs, z, h with
    | [u, w], _, h => exact h u w rfl
    | [], z, _ => exact absurd z (by simp)
    | [_], z, _ => exact absurd z (by simp)
    | _ :: _ :: _ :: r, z, _ => exact absurd z (by rw [List.length_cons, List.length_cons, List.length_cons]; omega)
  | _ => exact .inl rfl
theorem is_value_eq : ∀ (n : Nat) (k : Kd) (v : PyData) (d : Nat), k.deep < n → k.deep ≤ 30 → k.ok = true → Nc 1000 1000000 d v → m__law_is_value n (enc k) v = .ret (.bool (isV k v))
  | 0, _, _, _, h, _, _, _ => absurd h (by omega)
  | n + 1, k, v, d, h, h30, hok, hc => by
    have step : ∀ q ∈ k.inner, q.deep < n ∧ q.deep ≤ 30 ∧ q.ok = true := fun q hq => by
      have := inner_deep q hq
      exact ⟨by omega, by omega, inner_ok hok q hq⟩
    rw [m__law_is_value]
    by_cases hn : ∃ m, k = .num m
    · obtain ⟨m, rfl⟩ := hn
      rw [enc]
      simp only [ix0, ix1, Tr.ret_bind, cEq_str, w_number_number, w_number_record, w_number_choice, w_number_row, w_number_set, w_number_bag, w_number_table, w_record_number, w_record_record, w_record_choice, w_record_row, w_record_set, w_record_bag, w_record_table, w_choice_number, w_choice_record, w_choice_choice, w_choice_row, w_choice_set, w_choice_bag, w_choice_table, w_row_number, w_row_record, w_row_choice, w_row_row, w_row_set, w_row_bag, w_row_table, w_set_number, w_set_record, w_set_choice, w_set_row, w_set_set, w_set_bag, w_set_table, w_bag_number, w_bag_record, w_bag_choice, w_bag_row, w_bag_set, w_bag_bag, w_bag_table, w_table_number, w_table_record, w_table_choice, w_table_row, w_table_set, w_table_bag, w_table_table, if_true, dSub_int, number_eq]
      rw [isV_numEq]
    have hnk : ∀ m, k ≠ .num m := fun m z => hn ⟨m, z⟩
    cases ht : isTup v with
    | false =>
      rw [isV_flatN hnk ht]
      cases k with
      | num m => exact absurd rfl (hnk m)
      | _ =>
        rw [enc]
        simp only [ix0, Tr.ret_bind, cEq_str, w_number_number, w_number_record, w_number_choice, w_number_row, w_number_set, w_number_bag, w_number_table, w_record_number, w_record_record, w_record_choice, w_record_row, w_record_set, w_record_bag, w_record_table, w_choice_number, w_choice_record, w_choice_choice, w_choice_row, w_choice_set, w_choice_bag, w_choice_table, w_row_number, w_row_record, w_row_choice, w_row_row, w_row_set, w_row_bag, w_row_table, w_set_number, w_set_record, w_set_choice, w_set_row, w_set_set, w_set_bag, w_set_table, w_bag_number, w_bag_record, w_bag_choice, w_bag_row, w_bag_set, w_bag_bag, w_bag_table, w_table_number, w_table_record, w_table_choice, w_table_row, w_table_set, w_table_bag, w_table_table, if_true, if_false, Bool.false_eq_true, ht, Bool.not_false]
    | true =>
      obtain ⟨vs, rfl⟩ : ∃ vs, v = .tuple vs := by
        cases v with
        | tuple vs => exact ⟨vs, rfl⟩
        | _ => cases ht
      obtain ⟨e, rfl, hl, hall⟩ := nc_tup hc
      cases k with
      | num m => exact absurd rfl (hnk m)
      | rcd ks =>
        rw [enc]
        simp only [ix0, ix1, Tr.ret_bind, cEq_str, w_number_number, w_number_record, w_number_choice, w_number_row, w_number_set, w_number_bag, w_number_table, w_record_number, w_record_record, w_record_choice, w_record_row, w_record_set, w_record_bag, w_record_table, w_choice_number, w_choice_record, w_choice_choice, w_choice_row, w_choice_set, w_choice_bag, w_choice_table, w_row_number, w_row_record, w_row_choice, w_row_row, w_row_set, w_row_bag, w_row_table, w_set_number, w_set_record, w_set_choice, w_set_row, w_set_set, w_set_bag, w_set_table, w_bag_number, w_bag_record, w_bag_choice, w_bag_row, w_bag_set, w_bag_bag, w_bag_table, w_table_number, w_table_record, w_table_choice, w_table_row, w_table_set, w_table_bag, w_table_table, if_true, if_false, Bool.false_eq_true, ht, Bool.not_true, dLen_tup, cEq_int, asB_bool, encs_len]
        by_cases hlen : vs.length = ks.length
        · rw [decide_eq_true (show (vs.length : Int) = (ks.length : Int) by omega), if_pos rfl]
          simp only [range_eq (show (0 : Int) ≤ (vs.length : Int) by omega) (show (vs.length : Int) ≤ 1000000 by omega), Int.toNat_natCast, Tr.ret_bind]
          rw [rng_zip (g := fun k v => PyData.bool (isV k v)) hlen fun j q u hq hu => is_value_eq n q u e (step q (List.mem_of_getElem? hq)).1 (step q (List.mem_of_getElem? hq)).2.1 (step q (List.mem_of_getElem? hq)).2.2 (hall u (List.mem_of_getElem? hu)), zip_map isV PyData.bool]
          rw [Tr.ret_bind, Tr.ret_bind, notin_bools, Tr.ret_bind]
          simp only [isV]
          rw [isVs_zip _ _ hlen]
        · rw [decide_eq_false (show ¬ (vs.length : Int) = (ks.length : Int) by omega), if_neg (by simp)]
          simp only [isV]
          rw [isVs_ne hlen]
      | cho ks =>
        rw [enc]
        simp only [ix0, ix1, Tr.ret_bind, cEq_str, w_number_number, w_number_record, w_number_choice, w_number_row, w_number_set, w_number_bag, w_number_table, w_record_number, w_record_record, w_record_choice, w_record_row, w_record_set, w_record_bag, w_record_table, w_choice_number, w_choice_record, w_choice_choice, w_choice_row, w_choice_set, w_choice_bag, w_choice_table, w_row_number, w_row_record, w_row_choice, w_row_row, w_row_set, w_row_bag, w_row_table, w_set_number, w_set_record, w_set_choice, w_set_row, w_set_set, w_set_bag, w_set_table, w_bag_number, w_bag_record, w_bag_choice, w_bag_row, w_bag_set, w_bag_bag, w_bag_table, w_table_number, w_table_record, w_table_choice, w_table_row, w_table_set, w_table_bag, w_table_table, if_true, if_false, Bool.false_eq_true, ht, Bool.not_true, dLen_tup, cEq_int, asB_bool, encs_len]
        by_cases hlen : vs.length = 2
        · rw [decide_eq_true (show (vs.length : Int) = 2 by omega), if_pos rfl]
          match vs, hlen with
          | [a, u], _ =>
            simp only [ix0, ix1, Tr.ret_bind, dSub_int, number_eq, asB_bool]
            rw [isV_choP]
            cases hin : numIn a 0 ((ks.length : Int) - 1) with
            | false => simp
            | true =>
              rw [if_pos rfl]
              cases a with
              | int i =>
                simp only [numIn, Bool.and_eq_true, decide_eq_true_eq] at hin
                obtain ⟨m, rfl⟩ : ∃ m : Nat, i = (m : Int) := ⟨i.toNat, by omega⟩
                have hq : ks[m]? = some ks[m] := List.getElem?_eq_getElem (by omega)
                have hm : ks[m] ∈ ks := List.getElem_mem (by omega)
                rw [ix_nat (encs_get hq), Tr.ret_bind, is_value_eq n ks[m] u e (step _ hm).1 (step _ hm).2.1 (step _ hm).2.2 (hall u (by simp))]
                simp only [Int.toNat_natCast, isVn_eq, hq, Bool.true_and]
              | _ => cases hin
        · rw [decide_eq_false (show ¬ (vs.length : Int) = 2 by omega), if_neg (by simp), isV_choN hlen]
      | row q =>
        have hq := step q (by simp [Kd.inner])
        rw [enc]
        simp only [ix0, ix1, Tr.ret_bind, cEq_str, w_number_number, w_number_record, w_number_choice, w_number_row, w_number_set, w_number_bag, w_number_table, w_record_number, w_record_record, w_record_choice, w_record_row, w_record_set, w_record_bag, w_record_table, w_choice_number, w_choice_record, w_choice_choice, w_choice_row, w_choice_set, w_choice_bag, w_choice_table, w_row_number, w_row_record, w_row_choice, w_row_row, w_row_set, w_row_bag, w_row_table, w_set_number, w_set_record, w_set_choice, w_set_row, w_set_set, w_set_bag, w_set_table, w_bag_number, w_bag_record, w_bag_choice, w_bag_row, w_bag_set, w_bag_bag, w_bag_table, w_table_number, w_table_record, w_table_choice, w_table_row, w_table_set, w_table_bag, w_table_table, if_true, if_false, Bool.false_eq_true, ht, Bool.not_true, items]
        rw [map_ret (g := fun y => PyData.bool (isV q y)) vs fun y hy => is_value_eq n q y e hq.1 hq.2.1 hq.2.2 (hall y hy), Tr.ret_bind, Tr.ret_bind, map_bool, notin_bools, Tr.ret_bind]
        simp only [isV, List.all_map]
        rfl
      | set q =>
        have hq := step q (by simp [Kd.inner])
        rw [enc]
        simp only [ix0, ix1, Tr.ret_bind, cEq_str, w_number_number, w_number_record, w_number_choice, w_number_row, w_number_set, w_number_bag, w_number_table, w_record_number, w_record_record, w_record_choice, w_record_row, w_record_set, w_record_bag, w_record_table, w_choice_number, w_choice_record, w_choice_choice, w_choice_row, w_choice_set, w_choice_bag, w_choice_table, w_row_number, w_row_record, w_row_choice, w_row_row, w_row_set, w_row_bag, w_row_table, w_set_number, w_set_record, w_set_choice, w_set_row, w_set_set, w_set_bag, w_set_table, w_bag_number, w_bag_record, w_bag_choice, w_bag_row, w_bag_set, w_bag_bag, w_bag_table, w_table_number, w_table_record, w_table_choice, w_table_row, w_table_set, w_table_bag, w_table_table, if_true, if_false, Bool.false_eq_true, ht, Bool.not_true, items]
        rw [map_ret (g := fun y => PyData.bool (isV q y)) vs fun y hy => is_value_eq n q y e hq.1 hq.2.1 hq.2.2 (hall y hy), Tr.ret_bind, Tr.ret_bind, map_bool, notin_bools, Tr.ret_bind, Tr.ret_bind, asB_bool, Tr.ret_bind]
        have e2 : ((vs.map (isV q)).all id) = vs.all (isV q) := by
          rw [List.all_map]
          rfl
        rw [e2]
        simp only [isV]
        cases hv : vs.all (isV q) with
        | false => rfl
        | true =>
          rw [if_pos rfl, rises_eq (seqT vs) (by omega) (lt_of hq.2.1 (List.all_eq_true.mp hv))]
          rfl
      | bag q =>
        have hq := step q (by simp [Kd.inner])
        rw [enc]
        simp only [ix0, ix1, Tr.ret_bind, cEq_str, w_number_number, w_number_record, w_number_choice, w_number_row, w_number_set, w_number_bag, w_number_table, w_record_number, w_record_record, w_record_choice, w_record_row, w_record_set, w_record_bag, w_record_table, w_choice_number, w_choice_record, w_choice_choice, w_choice_row, w_choice_set, w_choice_bag, w_choice_table, w_row_number, w_row_record, w_row_choice, w_row_row, w_row_set, w_row_bag, w_row_table, w_set_number, w_set_record, w_set_choice, w_set_row, w_set_set, w_set_bag, w_set_table, w_bag_number, w_bag_record, w_bag_choice, w_bag_row, w_bag_set, w_bag_bag, w_bag_table, w_table_number, w_table_record, w_table_choice, w_table_row, w_table_set, w_table_bag, w_table_table, if_true, if_false, Bool.false_eq_true, ht, Bool.not_true, items]
        rw [isV_bag0, forC_all (ok := bagItem q) (d := .bool false) fun p hp => ?_]
        · cases hv : vs.all (bagItem q) with
          | false => rfl
          | true =>
            have hp : ∀ p ∈ vs, ∃ u w, p = .tuple [u, w] ∧ isV q u = true := fun p hp => by
              obtain ⟨u, c, rfl, h1, _⟩ := bagItem_iff.mp (List.all_eq_true.mp hv p hp)
              exact ⟨u, _, rfl, h1⟩
            rw [if_pos rfl, heads_eq fun p hm => by obtain ⟨u, w, z, _⟩ := hp p hm; exact ⟨u, w, z⟩]
            rw [Tr.ret_bind, Tr.ret_bind, rises_eq (seqL (Km.fsts vs)) (by unfold Km.fsts; rw [List.length_map]; omega) (lt_of hq.2.1 (fsts_mem hp))]
            rfl
        · have hcp := hall p hp
          by_cases hpair : ∃ u w, p = .tuple [u, w]
          · obtain ⟨u, w, rfl⟩ := hpair
            obtain ⟨e2, rfl, _, h2⟩ := nc_tup hcp
            have t1 : isTup (.tuple [u, w]) = true := rfl
            have t2 : dLen (.tuple [u, w]) = .ret (.int 2) := rfl
            have t3 : dPow (.int 10) (.int 9) = .ret (.int 1000000000) := rfl
            simp only [t1, t2, t3, Bool.not_true, if_false, Bool.false_eq_true, Tr.ret_bind, cNe_int, decide_true, ix0, ix1, is_value_eq n q u e2 hq.1 hq.2.1 hq.2.2 (h2 u (by simp)), number_eq, asB_bool]
            have hw := h2 w (by simp)
            have hbi : bagItem q (.tuple [u, w]) = (isV q u && numIn w 1 1000000000) := by
              cases w with
              | int c =>
                have hb : c.natAbs ≤ 1000000 := nc_int.mp hw
                simp only [bagItem, numIn]
                rw [decide_eq_true (show c ≤ 1000000000 by omega), Bool.and_true]
              | _ => simp [bagItem, numIn]
            rw [hbi]
            cases isV q u <;> cases numIn w 1 1000000000 <;> rfl
          · have hb : bagItem q p = false := by
              cases z : bagItem q p with
              | false => rfl
              | true =>
                obtain ⟨u, c, z, _⟩ := bagItem_iff.mp z
                exact absurd ⟨u, _, z⟩ hpair
            rw [hb]
            rcases not_pair (fun u w z => hpair ⟨u, w, z⟩) with z | ⟨m, z, hm⟩
            · simp [z]
            · cases hz : isTup p with
              | false => simp
              | true =>
                simp only [z, Bool.not_true, if_false, Bool.false_eq_true, Tr.ret_bind, cNe_int, decide_eq_false hm, Bool.not_false, if_true]
      | tab q r =>
        have hq := step q (by simp [Kd.inner])
        have hr := step r (by simp [Kd.inner])
        rw [enc]
        simp only [ix0, ix1, ix2, Tr.ret_bind, cEq_str, w_number_number, w_number_record, w_number_choice, w_number_row, w_number_set, w_number_bag, w_number_table, w_record_number, w_record_record, w_record_choice, w_record_row, w_record_set, w_record_bag, w_record_table, w_choice_number, w_choice_record, w_choice_choice, w_choice_row, w_choice_set, w_choice_bag, w_choice_table, w_row_number, w_row_record, w_row_choice, w_row_row, w_row_set, w_row_bag, w_row_table, w_set_number, w_set_record, w_set_choice, w_set_row, w_set_set, w_set_bag, w_set_table, w_bag_number, w_bag_record, w_bag_choice, w_bag_row, w_bag_set, w_bag_bag, w_bag_table, w_table_number, w_table_record, w_table_choice, w_table_row, w_table_set, w_table_bag, w_table_table, if_true, if_false, Bool.false_eq_true, ht, Bool.not_true, items]
        rw [isV_tab0, forC_all (ok := tabItem q r) (d := .bool false) fun p hp => ?_]
        · cases hv : vs.all (tabItem q r) with
          | false => rfl
          | true =>
            have hp : ∀ p ∈ vs, ∃ u w, p = .tuple [u, w] ∧ isV q u = true := fun p hp => by
              obtain ⟨u, c, rfl, h1, _⟩ := tabItem_iff.mp (List.all_eq_true.mp hv p hp)
              exact ⟨u, _, rfl, h1⟩
            rw [if_pos rfl, heads_eq fun p hm => by obtain ⟨u, w, z, _⟩ := hp p hm; exact ⟨u, w, z⟩]
            rw [Tr.ret_bind, Tr.ret_bind, rises_eq (seqL (Km.fsts vs)) (by unfold Km.fsts; rw [List.length_map]; omega) (lt_of hq.2.1 (fsts_mem hp))]
            rfl
        · have hcp := hall p hp
          by_cases hpair : ∃ u w, p = .tuple [u, w]
          · obtain ⟨u, w, rfl⟩ := hpair
            obtain ⟨e2, rfl, _, h2⟩ := nc_tup hcp
            have t1 : isTup (.tuple [u, w]) = true := rfl
            have t2 : dLen (.tuple [u, w]) = .ret (.int 2) := rfl
            simp only [t1, t2, Bool.not_true, if_false, Bool.false_eq_true, Tr.ret_bind, cNe_int, decide_true, ix0, ix1, is_value_eq n q u e2 hq.1 hq.2.1 hq.2.2 (h2 u (by simp)), is_value_eq n r w e2 hr.1 hr.2.1 hr.2.2 (h2 w (by simp)), asB_bool]
            rw [show tabItem q r (.tuple [u, w]) = (isV q u && isV r w) from rfl]
            cases isV q u <;> cases isV r w <;> rfl
          · have hb : tabItem q r p = false := by
              cases z : tabItem q r p with
              | false => rfl
              | true =>
                obtain ⟨u, c, z, _⟩ := tabItem_iff.mp z
                exact absurd ⟨u, _, z⟩ hpair
            rw [hb]
            rcases not_pair (fun u w z => hpair ⟨u, w, z⟩) with z | ⟨m, z, hm⟩
            · simp [z]
            · cases hz : isTup p with
              | false => simp
              | true =>
                simp only [z, Bool.not_true, if_false, Bool.false_eq_true, Tr.ret_bind, cNe_int, decide_eq_false hm, Bool.not_false, if_true]
/-! ### what the program tells of values -/
theorem whole_eq (w : PyData) : m_is_whole w = .ret (.bool (match w with
    | .int _ => true
    | _ => false)) := by
  cases w <;> rfl
theorem tuple2_eq (p : PyData) : m_is_tuple p (.int 2) = .ret (.bool (tabP p)) := by
  by_cases hpair : ∃ u w, p = .tuple [u, w]
  · obtain ⟨u, w, rfl⟩ := hpair
    rfl
  · have hb : tabP p = false := by
      cases z : tabP p with
      | false => rfl
      | true => exact absurd (tabP_iff.mp z) hpair
    rw [hb]
    unfold m_is_tuple
    rcases not_pair (fun u w z => hpair ⟨u, w, z⟩) with z | ⟨m, z, hm⟩
    · simp [z]
    · cases hz : isTup p with
      | false => simp
      | true => simp only [if_true, z, Tr.ret_bind, cEq_int, decide_eq_false hm]
theorem pairs_map {f : PyData → PyData → PyData} : ∀ (xs ys : List PyData), mapT (un2 fun a b => Tr.ret (f a b)) (dPairs xs ys) = .ret (List.zipWith f xs ys)
  | [], _ => rfl
  | _ :: _, [] => rfl
  | x :: xs, y :: ys => by
    show (Tr.ret (f x y)).bind _ = _
    rw [Tr.ret_bind]
    show ((mapT _ (dPairs xs ys)).bind _) = _
    rw [pairs_map xs ys]
    rfl
def optP : Option (List Part) → PyData
  | some ps => .list (ps.map encP)
  | none => .none
theorem record_eq (ks : List Kd) (vs : List PyData) : m_record_parts (enc (.rcd ks)) (.tuple vs) = .ret (optP (partsK (.rcd ks) (.tuple vs))) := by
  rw [enc]
  unfold m_record_parts
  simp only [ix1, Tr.ret_bind, dLen_tup, cNe_int, encs_len, partsK]
  by_cases h : vs.length = ks.length
  · rw [decide_eq_true (show (vs.length : Int) = (ks.length : Int) by omega), if_pos h]
    show ((dZip _ _).bind _) = _
    rw [show dZip (.tuple (encs ks)) (.tuple vs) = .ret (dPairs (encs ks) vs) from rfl, Tr.ret_bind, pairs_map (f := fun v_inner v_item => PyData.tuple [v_inner, v_item, (PyData.int 1)]), Tr.ret_bind]
    show Tr.ret (PyData.list _) = Tr.ret (PyData.list _)
    congr 2
    clear h
    induction ks generalizing vs with
    | nil => rfl
    | cons k ks ih =>
      cases vs with
      | nil => rfl
      | cons v vs =>
        rw [encs, List.zipWith_cons_cons, List.zipWith_cons_cons, List.map_cons, ih]
        rfl
  · rw [decide_eq_false (show ¬ (vs.length : Int) = (ks.length : Int) by omega), if_neg h]
    rfl
theorem choice_eq (ks : List Kd) (vs : List PyData) : m_choice_parts (enc (.cho ks)) (.tuple vs) = .ret (optP (partsK (.cho ks) (.tuple vs))) := by
  rw [enc]
  unfold m_choice_parts
  simp only [ix1, Tr.ret_bind, dLen_tup, cNe_int, encs_len, dSub_int]
  by_cases h : vs.length = 2
  · rw [decide_eq_true (show (vs.length : Int) = 2 by omega)]
    match vs, h with
    | [a, u], _ =>
      simp only [ix0, ix1, Tr.ret_bind, within_eq, asB_bool, Bool.not_true, if_false, Bool.false_eq_true]
      cases a with
      | int i =>
        simp only [partsK]
        cases hin : numIn (.int i) 0 ((ks.length : Int) - 1) with
        | false => rfl
        | true =>
          simp only [numIn, Bool.and_eq_true, decide_eq_true_eq] at hin
          obtain ⟨m, rfl⟩ : ∃ m : Nat, i = (m : Int) := ⟨i.toNat, by omega⟩
          have hq : ks[m]? = some ks[m] := List.getElem?_eq_getElem (by omega)
          simp only [Bool.not_true, if_false, Bool.false_eq_true, if_true]
          rw [ix_nat (encs_get hq), Tr.ret_bind, Tr.ret_bind, Int.toNat_natCast, hq]
          rfl
      | _ =>
        rw [parts_choN (fun i u z => by cases z)]
        rfl
  · rw [decide_eq_false (show ¬ (vs.length : Int) = 2 by omega), parts_choN (fun i u z => by rw [z] at h; exact h rfl)]
    rfl
theorem item_eq {kk : PyData} {q : Kd} {w : PyData} (hk : kk = .tuple [w, enc q]) (vs : List PyData) : m_item_parts kk (.tuple vs) = .ret (.list ((vs.map fun v => ((q, v, 1) : Part)).map encP)) := by
  subst hk
  unfold m_item_parts
  simp only [ix1, Tr.ret_bind, items]
  rw [map_ret (g := fun v => PyData.tuple [enc q, v, .int 1]) vs fun _ _ => rfl, Tr.ret_bind, List.map_map]
  rfl
theorem bag_eq (q : Kd) (vs : List PyData) : m_bag_parts (enc (.bag q)) (.tuple vs) = .ret (optP (partsK (.bag q) (.tuple vs))) := by
  rw [enc]
  unfold m_bag_parts
  simp only [ix1, Tr.ret_bind, items, partsK]
  rw [forC_all (ok := bagP) (d := .none) fun p hp => ?_]
  · cases h : vs.all bagP with
    | false => rfl
    | true =>
      rw [if_pos rfl, if_pos rfl]
      have e : ∀ ws : List PyData, ws.all bagP = true → mapT (un2 fun v_item v_count => Tr.ret (PyData.tuple [enc q, v_item, v_count])) ws = .ret ((ws.map (bagT q)).map encP) := by
        intro ws
        induction ws with
        | nil => exact fun _ => rfl
        | cons w ws ih =>
          intro hw
          rw [List.all_cons, Bool.and_eq_true] at hw
          obtain ⟨u, c, rfl, _⟩ := bagP_iff.mp hw.1
          show ((Tr.ret (PyData.tuple [enc q, u, .int c])).bind _) = _
          rw [Tr.ret_bind, ih hw.2]
          rfl
      rw [e vs h]
      rfl
  · rw [tuple2_eq]
    simp only [Tr.ret_bind, asB_bool, whole_eq]
    cases ht : tabP p with
    | false =>
      have hb : bagP p = false := by
        cases z : bagP p with
        | false => rfl
        | true =>
          obtain ⟨u, c, rfl, _⟩ := bagP_iff.mp z
          cases ht
      rw [hb]
      rfl
    | true =>
      obtain ⟨u, w, rfl⟩ := tabP_iff.mp ht
      simp only [ix1, Tr.ret_bind, asB_bool]
      cases w with
      | int c =>
        rw [show bagP (.tuple [u, .int c]) = decide (1 ≤ c) from rfl]
        simp only [cLt_int, Bool.not_true, if_false, Bool.false_eq_true, Tr.ret_bind]
        by_cases hc : 1 ≤ c
        · rw [decide_eq_true hc, decide_eq_false (show ¬ c < 1 by omega)]
          rfl
        · rw [decide_eq_false hc, decide_eq_true (show c < 1 by omega)]
          rfl
      | _ => rfl
theorem table_eq (q r : Kd) (vs : List PyData) (hl : vs.length ≤ 1000) : m_table_parts (enc (.tab q r)) (.tuple vs) = .ret (optP (partsK (.tab q r) (.tuple vs))) := by
  rw [enc]
  unfold m_table_parts
  simp only [ix1, ix2, Tr.ret_bind, items, partsK]
  have key : ∀ (ws acc : List PyData), acc.length + 2 * ws.length ≤ 10000 → forC id (fun (v_pair : PyData) (x94 : PyData) => ((((m_is_tuple v_pair (PyData.int 2)).bind fun x95 => (asB x95).bind fun x96 => Tr.ret x96).bind fun x97 => Tr.ret (!x97)).bind fun x104 => if x104 then Tr.ret (Ct.rt PyData.none) else ((dIx v_pair (PyData.int 0)).bind fun x99 => Tr.ret (PyData.tuple [enc q, x99, (PyData.int 1)])).bind fun x103 => (dApp x94 x103).bind fun v_parts => ((dIx v_pair (PyData.int 1)).bind fun x101 => Tr.ret (PyData.tuple [enc r, x101, (PyData.int 1)])).bind fun x102 => (dApp v_parts x102).bind fun v_parts => Tr.ret (Ct.nx v_parts) : Tr (Ct (PyData)))) (fun x94 => Tr.ret (PyData.list (unL x94))) ws (.list acc)
      = .ret (if ws.all tabP then .list (acc ++ ((ws.map (tabT q r)).flatten).map encP) else .none) := by
    intro ws
    induction ws with
    | nil =>
      intro acc _
      show Tr.ret (PyData.list acc) = Tr.ret (PyData.list (acc ++ []))
      rw [List.append_nil]
    | cons p ws ih =>
      intro acc h
      rw [List.length_cons] at h
      rw [List.all_cons]
      show ((((m_is_tuple p (PyData.int 2)).bind fun x95 => (asB x95).bind fun x96 => Tr.ret x96).bind fun x97 => Tr.ret (!x97)).bind _).bind _ = _
      rw [tuple2_eq]
      simp only [Tr.ret_bind, asB_bool]
      cases ht : tabP p with
      | false => rfl
      | true =>
        obtain ⟨u, w, rfl⟩ := tabP_iff.mp ht
        have d1 : dApp (.list acc) (.tuple [enc q, u, .int 1]) = .ret (.list (acc ++ [.tuple [enc q, u, .int 1]])) := by
          unfold dApp
          rw [if_pos (by show acc.length < 1000000; omega)]
          rfl
        have d2 : dApp (.list (acc ++ [.tuple [enc q, u, .int 1]])) (.tuple [enc r, w, .int 1]) = .ret (.list (acc ++ [.tuple [enc q, u, .int 1]] ++ [.tuple [enc r, w, .int 1]])) := by
          unfold dApp
          rw [if_pos (by show (acc ++ [PyData.tuple [enc q, u, .int 1]]).length < 1000000; rw [List.length_append, List.length_singleton]; omega)]
          rfl
        simp only [ix0, ix1, Tr.ret_bind, Bool.not_true, if_false, Bool.false_eq_true, d1, d2, Bool.true_and]
        rw [ih _ (by rw [List.length_append, List.length_append, List.length_singleton, List.length_singleton]; omega)]
        congr 1
        cases ws.all tabP with
        | false => rfl
        | true =>
          rw [if_pos rfl, if_pos rfl, List.map_cons, List.flatten_cons, List.map_append]
          show PyData.list _ = PyData.list (acc ++ ([PyData.tuple [enc q, u, .int 1], PyData.tuple [enc r, w, .int 1]] ++ _))
          congr 1
          simp [List.append_assoc]
  refine (key vs [] (by rw [List.length_nil]; omega)).trans ?_
  cases vs.all tabP <;> rfl
theorem fm_record (a b : PyData) : fm_VALUE_PARTS "record" [a, b] = m_record_parts a b := by
  unfold fm_VALUE_PARTS
  rw [if_pos rfl]
theorem fm_choice (a b : PyData) : fm_VALUE_PARTS "choice" [a, b] = m_choice_parts a b := by
  unfold fm_VALUE_PARTS
  rw [if_neg (by decide), if_pos rfl]
theorem fm_row (a b : PyData) : fm_VALUE_PARTS "row" [a, b] = m_item_parts a b := by
  unfold fm_VALUE_PARTS
  rw [if_neg (by decide), if_neg (by decide), if_pos rfl]
theorem fm_set (a b : PyData) : fm_VALUE_PARTS "set" [a, b] = m_item_parts a b := by
  unfold fm_VALUE_PARTS
  rw [if_neg (by decide), if_neg (by decide), if_neg (by decide), if_pos rfl]
theorem fm_bag (a b : PyData) : fm_VALUE_PARTS "bag" [a, b] = m_bag_parts a b := by
  unfold fm_VALUE_PARTS
  rw [if_neg (by decide), if_neg (by decide), if_neg (by decide), if_neg (by decide), if_pos rfl]
theorem fm_table (a b : PyData) : fm_VALUE_PARTS "table" [a, b] = m_table_parts a b := by
  unfold fm_VALUE_PARTS
  rw [if_neg (by decide), if_neg (by decide), if_neg (by decide), if_neg (by decide), if_neg (by decide), if_pos rfl]
theorem fd_w : (fdT fn_VALUE_PARTS (.str "record") = .ret "record" ∧ fdT fn_VALUE_PARTS (.str "choice") = .ret "choice") ∧ (fdT fn_VALUE_PARTS (.str "row") = .ret "row" ∧ fdT fn_VALUE_PARTS (.str "set") = .ret "set") ∧ fdT fn_VALUE_PARTS (.str "bag") = .ret "bag" ∧ fdT fn_VALUE_PARTS (.str "table") = .ret "table" := ⟨⟨rfl, rfl⟩, ⟨rfl, rfl⟩, rfl, rfl⟩
theorem parts_eq (k : Kd) (v : PyData) {d : Nat} (hc : Nc 1000 1000000 d v) : m_value_parts (enc k) v = .ret (optP (partsK k v)) := by
  unfold m_value_parts
  by_cases hn : ∃ m, k = .num m
  · obtain ⟨m, rfl⟩ := hn
    have e : partsK (.num m) v = if numIn v 0 (m - 1) then some [] else none := by
      cases v <;> simp only [partsK]
    rw [e, enc]
    simp only [ix0, ix1, Tr.ret_bind, cEq_str, w_number_number, w_number_record, w_number_choice, w_number_row, w_number_set, w_number_bag, w_number_table, w_record_number, w_record_record, w_record_choice, w_record_row, w_record_set, w_record_bag, w_record_table, w_choice_number, w_choice_record, w_choice_choice, w_choice_row, w_choice_set, w_choice_bag, w_choice_table, w_row_number, w_row_record, w_row_choice, w_row_row, w_row_set, w_row_bag, w_row_table, w_set_number, w_set_record, w_set_choice, w_set_row, w_set_set, w_set_bag, w_set_table, w_bag_number, w_bag_record, w_bag_choice, w_bag_row, w_bag_set, w_bag_bag, w_bag_table, w_table_number, w_table_record, w_table_choice, w_table_row, w_table_set, w_table_bag, w_table_table, if_true, dSub_int, within_eq, asB_bool]
    cases numIn v 0 (m - 1) <;> rfl
  have hnk : ∀ m, k ≠ .num m := fun m z => hn ⟨m, z⟩
  cases ht : isTup v with
  | false =>
    rw [parts_flat hnk ht]
    cases k with
    | num m => exact absurd rfl (hnk m)
    | _ =>
      rw [enc]
      simp only [ix0, Tr.ret_bind, cEq_str, w_number_number, w_number_record, w_number_choice, w_number_row, w_number_set, w_number_bag, w_number_table, w_record_number, w_record_record, w_record_choice, w_record_row, w_record_set, w_record_bag, w_record_table, w_choice_number, w_choice_record, w_choice_choice, w_choice_row, w_choice_set, w_choice_bag, w_choice_table, w_row_number, w_row_record, w_row_choice, w_row_row, w_row_set, w_row_bag, w_row_table, w_set_number, w_set_record, w_set_choice, w_set_row, w_set_set, w_set_bag, w_set_table, w_bag_number, w_bag_record, w_bag_choice, w_bag_row, w_bag_set, w_bag_bag, w_bag_table, w_table_number, w_table_record, w_table_choice, w_table_row, w_table_set, w_table_bag, w_table_table, if_true, if_false, Bool.false_eq_true, Bool.not_false]
      rfl
  | true =>
    obtain ⟨vs, rfl⟩ : ∃ vs, v = .tuple vs := by
      cases v with
      | tuple vs => exact ⟨vs, rfl⟩
      | _ => cases ht
    obtain ⟨e, rfl, hl, hall⟩ := nc_tup hc
    obtain ⟨⟨f1, f2⟩, ⟨f3, f4⟩, f5, f6⟩ := fd_w
    have w : ∀ (x : Str) (r : List PyData), isW (.str x) "number" = false → (((dIx (.tuple (.str x :: r)) (PyData.int 0)).bind fun x106 => cEq x106 (PyData.str "number")) : Tr Bool) = .ret false := fun x r h => by rw [ix0, Tr.ret_bind, cEq_str, h]
    cases k with
    | num m => exact absurd rfl (hnk m)
    | rcd ks =>
      rw [← record_eq]
      rw [enc, w _ _ rfl, Tr.ret_bind, if_neg (by simp), if_neg (by simp), ix0, Tr.ret_bind, f1, Tr.ret_bind, fm_record]
    | cho ks =>
      rw [← choice_eq]
      rw [enc, w _ _ rfl, Tr.ret_bind, if_neg (by simp), if_neg (by simp), ix0, Tr.ret_bind, f2, Tr.ret_bind, fm_choice]
    | row q =>
      rw [enc, w _ _ rfl, Tr.ret_bind, if_neg (by simp), if_neg (by simp), ix0, Tr.ret_bind, f3, Tr.ret_bind, fm_row, item_eq rfl]
      simp only [partsK]
      rfl
    | set q =>
      rw [enc, w _ _ rfl, Tr.ret_bind, if_neg (by simp), if_neg (by simp), ix0, Tr.ret_bind, f4, Tr.ret_bind, fm_set, item_eq rfl]
      simp only [partsK]
      rfl
    | bag q =>
      rw [← bag_eq]
      rw [enc, w _ _ rfl, Tr.ret_bind, if_neg (by simp), if_neg (by simp), ix0, Tr.ret_bind, f5, Tr.ret_bind, fm_bag]
    | tab q r =>
      rw [← table_eq q r vs hl]
      rw [enc, w _ _ rfl, Tr.ret_bind, if_neg (by simp), if_neg (by simp), ix0, Tr.ret_bind, f6, Tr.ret_bind, fm_table]
theorem ordered_eq {k : Kd} {v : PyData} {ps : List Part} {d : Nat} (hk : k.deep ≤ 30) (hc : Nc 1000 1000000 d v) (hp : partsK k v = some ps) (ha : allP ps = true) : m_is_ordered (enc k) v = .ret (.bool (ord k v)) := by
  unfold m_is_ordered
  have hin : ∀ q ∈ k.inner, q.deep ≤ 30 := fun q hq => by have := inner_deep q hq; omega
  cases k with
  | num m =>
    rw [enc]
    simp only [ix0, Tr.ret_bind, cEq_str, cIn_2, w_number_number, w_number_record, w_number_choice, w_number_row, w_number_set, w_number_bag, w_number_table, w_record_number, w_record_record, w_record_choice, w_record_row, w_record_set, w_record_bag, w_record_table, w_choice_number, w_choice_record, w_choice_choice, w_choice_row, w_choice_set, w_choice_bag, w_choice_table, w_row_number, w_row_record, w_row_choice, w_row_row, w_row_set, w_row_bag, w_row_table, w_set_number, w_set_record, w_set_choice, w_set_row, w_set_set, w_set_bag, w_set_table, w_bag_number, w_bag_record, w_bag_choice, w_bag_row, w_bag_set, w_bag_bag, w_bag_table, w_table_number, w_table_record, w_table_choice, w_table_row, w_table_set, w_table_bag, w_table_table, if_false, Bool.false_eq_true, Bool.or_self]
    cases v <;> rfl
  | rcd ks =>
    rw [enc]
    simp only [ix0, Tr.ret_bind, cEq_str, cIn_2, w_number_number, w_number_record, w_number_choice, w_number_row, w_number_set, w_number_bag, w_number_table, w_record_number, w_record_record, w_record_choice, w_record_row, w_record_set, w_record_bag, w_record_table, w_choice_number, w_choice_record, w_choice_choice, w_choice_row, w_choice_set, w_choice_bag, w_choice_table, w_row_number, w_row_record, w_row_choice, w_row_row, w_row_set, w_row_bag, w_row_table, w_set_number, w_set_record, w_set_choice, w_set_row, w_set_set, w_set_bag, w_set_table, w_bag_number, w_bag_record, w_bag_choice, w_bag_row, w_bag_set, w_bag_bag, w_bag_table, w_table_number, w_table_record, w_table_choice, w_table_row, w_table_set, w_table_bag, w_table_table, if_false, Bool.false_eq_true, Bool.or_self]
    cases v <;> rfl
  | cho ks =>
    rw [enc]
    simp only [ix0, Tr.ret_bind, cEq_str, cIn_2, w_number_number, w_number_record, w_number_choice, w_number_row, w_number_set, w_number_bag, w_number_table, w_record_number, w_record_record, w_record_choice, w_record_row, w_record_set, w_record_bag, w_record_table, w_choice_number, w_choice_record, w_choice_choice, w_choice_row, w_choice_set, w_choice_bag, w_choice_table, w_row_number, w_row_record, w_row_choice, w_row_row, w_row_set, w_row_bag, w_row_table, w_set_number, w_set_record, w_set_choice, w_set_row, w_set_set, w_set_bag, w_set_table, w_bag_number, w_bag_record, w_bag_choice, w_bag_row, w_bag_set, w_bag_bag, w_bag_table, w_table_number, w_table_record, w_table_choice, w_table_row, w_table_set, w_table_bag, w_table_table, if_false, Bool.false_eq_true, Bool.or_self]
    cases v <;> rfl
  | row q =>
    rw [enc]
    simp only [ix0, Tr.ret_bind, cEq_str, cIn_2, w_number_number, w_number_record, w_number_choice, w_number_row, w_number_set, w_number_bag, w_number_table, w_record_number, w_record_record, w_record_choice, w_record_row, w_record_set, w_record_bag, w_record_table, w_choice_number, w_choice_record, w_choice_choice, w_choice_row, w_choice_set, w_choice_bag, w_choice_table, w_row_number, w_row_record, w_row_choice, w_row_row, w_row_set, w_row_bag, w_row_table, w_set_number, w_set_record, w_set_choice, w_set_row, w_set_set, w_set_bag, w_set_table, w_bag_number, w_bag_record, w_bag_choice, w_bag_row, w_bag_set, w_bag_bag, w_bag_table, w_table_number, w_table_record, w_table_choice, w_table_row, w_table_set, w_table_bag, w_table_table, if_false, Bool.false_eq_true, Bool.or_self]
    cases v <;> rfl
  | set q =>
    rw [enc]
    simp only [ix0, Tr.ret_bind, cEq_str, w_number_number, w_number_record, w_number_choice, w_number_row, w_number_set, w_number_bag, w_number_table, w_record_number, w_record_record, w_record_choice, w_record_row, w_record_set, w_record_bag, w_record_table, w_choice_number, w_choice_record, w_choice_choice, w_choice_row, w_choice_set, w_choice_bag, w_choice_table, w_row_number, w_row_record, w_row_choice, w_row_row, w_row_set, w_row_bag, w_row_table, w_set_number, w_set_record, w_set_choice, w_set_row, w_set_set, w_set_bag, w_set_table, w_bag_number, w_bag_record, w_bag_choice, w_bag_row, w_bag_set, w_bag_bag, w_bag_table, w_table_number, w_table_record, w_table_choice, w_table_row, w_table_set, w_table_bag, w_table_table, if_true]
    cases v with
    | tuple vs =>
      obtain ⟨e, rfl, hl, hall⟩ := nc_tup hc
      simp only [partsK] at hp
      cases hp
      unfold allP at ha
      rw [List.all_map, List.all_eq_true] at ha
      rw [rising_eq (seqT vs) (by omega) (lt_of (hin q (by simp [Kd.inner])) ha)]
      rfl
    | _ => simp [partsK] at hp
  | bag q =>
    rw [enc]
    simp only [ix0, Tr.ret_bind, cEq_str, cIn_2, w_number_number, w_number_record, w_number_choice, w_number_row, w_number_set, w_number_bag, w_number_table, w_record_number, w_record_record, w_record_choice, w_record_row, w_record_set, w_record_bag, w_record_table, w_choice_number, w_choice_record, w_choice_choice, w_choice_row, w_choice_set, w_choice_bag, w_choice_table, w_row_number, w_row_record, w_row_choice, w_row_row, w_row_set, w_row_bag, w_row_table, w_set_number, w_set_record, w_set_choice, w_set_row, w_set_set, w_set_bag, w_set_table, w_bag_number, w_bag_record, w_bag_choice, w_bag_row, w_bag_set, w_bag_bag, w_bag_table, w_table_number, w_table_record, w_table_choice, w_table_row, w_table_set, w_table_bag, w_table_table, if_true, if_false, Bool.false_eq_true, Bool.true_or]
    cases v with
    | tuple vs =>
      obtain ⟨e, rfl, hl, hall⟩ := nc_tup hc
      simp only [partsK] at hp
      split at hp
      · rename_i hb
        cases hp
        unfold allP at ha
        rw [List.all_map, List.all_eq_true] at ha
        have hpair : ∀ p ∈ vs, ∃ u w, p = .tuple [u, w] ∧ isV q u = true := fun p hp => by
          obtain ⟨u, c, rfl, _⟩ := bagP_iff.mp (List.all_eq_true.mp hb p hp)
          exact ⟨u, _, rfl, ha _ hp⟩
        simp only [items, Tr.ret_bind]
        rw [heads_eq fun p hm => by obtain ⟨u, w, z, _⟩ := hpair p hm; exact ⟨u, w, z⟩]
        rw [Tr.ret_bind, Tr.ret_bind, rising_eq (seqL (Km.fsts vs)) (by unfold Km.fsts; rw [List.length_map]; omega) (lt_of (hin q (by simp [Kd.inner])) (fsts_mem hpair))]
        rfl
      · cases hp
    | _ => simp [partsK] at hp
  | tab q r =>
    rw [enc]
    simp only [ix0, Tr.ret_bind, cEq_str, cIn_2, w_number_number, w_number_record, w_number_choice, w_number_row, w_number_set, w_number_bag, w_number_table, w_record_number, w_record_record, w_record_choice, w_record_row, w_record_set, w_record_bag, w_record_table, w_choice_number, w_choice_record, w_choice_choice, w_choice_row, w_choice_set, w_choice_bag, w_choice_table, w_row_number, w_row_record, w_row_choice, w_row_row, w_row_set, w_row_bag, w_row_table, w_set_number, w_set_record, w_set_choice, w_set_row, w_set_set, w_set_bag, w_set_table, w_bag_number, w_bag_record, w_bag_choice, w_bag_row, w_bag_set, w_bag_bag, w_bag_table, w_table_number, w_table_record, w_table_choice, w_table_row, w_table_set, w_table_bag, w_table_table, if_true, if_false, Bool.false_eq_true, Bool.or_true]
    cases v with
    | tuple vs =>
      obtain ⟨e, rfl, hl, hall⟩ := nc_tup hc
      simp only [partsK] at hp
      split at hp
      · rename_i hb
        cases hp
        unfold allP at ha
        rw [List.all_eq_true] at ha
        have hpair : ∀ p ∈ vs, ∃ u w, p = .tuple [u, w] ∧ isV q u = true := fun p hp => by
          obtain ⟨u, w, rfl⟩ := tabP_iff.mp (List.all_eq_true.mp hb p hp)
          exact ⟨u, w, rfl, ha (q, u, 1) (List.mem_flatten.mpr ⟨_, List.mem_map.mpr ⟨_, hp, rfl⟩, by simp [tabT]⟩)⟩
        simp only [items, Tr.ret_bind]
        rw [heads_eq fun p hm => by obtain ⟨u, w, z, _⟩ := hpair p hm; exact ⟨u, w, z⟩]
        rw [Tr.ret_bind, Tr.ret_bind, rising_eq (seqL (Km.fsts vs)) (by unfold Km.fsts; rw [List.length_map]; omega) (lt_of (hin q (by simp [Kd.inner])) (fsts_mem hpair))]
        rfl
      · cases hp
    | _ => simp [partsK] at hp
/-- the weight, if it is not above the limit -/
def wtL (k : Kd) (v : PyData) (L : Int) : Option Int := if isV k v = true ∧ wt k v ≤ L then some (wt k v) else none
theorem sumP_nn {ps : List Part} (ha : allP ps = true) (hc : ∀ p ∈ ps, 1 ≤ p.2.2) : (ps.length : Int) ≤ sumP ps := by
  unfold sumP
  unfold allP at ha
  rw [List.all_eq_true] at ha
  exact sum_map_len (f := fun p : Part => p.2.2 * wt p.1 p.2.1) fun p hp => mul_pos1 (hc p hp) (wt_pos _ _ (ha p hp))
theorem weigh_eq : ∀ (n : Nat) (k : Kd) (v : PyData) (d : Nat) (L : Int), k.deep < n → k.deep ≤ 30 → Nc 1000 1000000 d v → m_weigh n (enc k) v (.int L) = .ret (optI (wtL k v L))
  | 0, _, _, _, _, h, _, _ => absurd h (by omega)
  | n + 1, k, v, d, L, h, h30, hc => by
    rw [m_weigh, parts_eq k v hc, Tr.ret_bind]
    cases hp : partsK k v with
    | none =>
      have e : isV k v = false := by rw [isV_parts, hp]
      have e2 : wtL k v L = none := by
        unfold wtL
        rw [if_neg (by rw [e]; simp)]
      rw [e2]
      rfl
    | some ps =>
      have hc1 : Nc 1000 1000000 (d + 1) v := nc_mono (Nat.le_refl _) (Nat.le_refl _) _ _ _ (by omega) hc
      obtain ⟨hlen, hall⟩ := part_of hp hc1
      have hpos : ∀ p ∈ ps, 1 ≤ p.2.2 := fun p hp => (hall p hp).2.2.1
      have hV : isV k v = (allP ps && ord k v) := by rw [isV_parts, hp]
      have hW : isV k v = true → wt k v = 1 + sumP ps := fun z => wt_parts z hp
      have n1 : Cg.isNon (optP (some ps)) = false := rfl
      have n2 : dLen (optP (some ps)) = .ret (.int (ps.length : Int)) := by
        show Tr.ret (PyData.int ((ps.map encP).length : Int)) = _
        rw [List.length_map]
      have n3 : items (optP (some ps)) = .ret (ps.map encP) := rfl
      simp only [n1, n2, n3, if_false, Bool.false_eq_true, Tr.ret_bind, cGe_int]
      by_cases hL : L ≤ (ps.length : Int)
      · rw [decide_eq_true hL, if_pos rfl]
        have e2 : wtL k v L = none := by
          unfold wtL
          rw [if_neg]
          rintro ⟨z1, z2⟩
          rw [hW z1] at z2
          rw [hV, Bool.and_eq_true] at z1
          have := sumP_nn z1.1 hpos
          omega
        rw [e2]
        rfl
      · rw [decide_eq_false hL, if_neg (by simp)]
        have key : ∀ (qs : List Part) (t : Int), (∀ p ∈ qs, p ∈ ps) → t ≤ L → forC id (fun (d : PyData) (x115 : PyData) => un3 (fun v_inner v_item v_times => ((((dSub (.int L) x115).bind fun x116 => dDiv x116 v_times).bind fun x117 => m_weigh n v_inner v_item x117).bind fun v_each => if (Cg.isNon v_each) then Tr.ret (Ct.rt PyData.none) else (dMul v_times v_each).bind fun x118 => (asI x115).bind fun a => (asI x118).bind fun b => (fun v_total => Tr.ret (Ct.nx v_total)) (.int (a + b)) : Tr (Ct (PyData)))) d) (fun x115 => ((m_is_ordered (enc k) v).bind fun x119 => (asB x119).bind fun x120 => Tr.ret x120).bind fun x121 => if x121 then Tr.ret x115 else Tr.ret PyData.none) (qs.map encP) (.int t)
            = if allP qs = true ∧ t + sumP qs ≤ L then (((m_is_ordered (enc k) v).bind fun x119 => (asB x119).bind fun x120 => Tr.ret x120).bind fun x121 => if x121 then Tr.ret (.int (t + sumP qs)) else Tr.ret PyData.none) else .ret .none := by
          intro qs
          induction qs with
          | nil =>
            intro t _ ht
            rw [if_pos ⟨rfl, by show t + 0 ≤ L; omega⟩]
            have e0 : t + sumP [] = t := by
              show t + 0 = t
              omega
            rw [e0]
            rfl
          | cons p qs ih =>
            intro t hm ht
            have hpm := hm p List.mem_cons_self
            obtain ⟨m1, m2, m3, m4⟩ := hall p hpm
            have hdq := inner_deep p.1 m1
            have es : sumP (p :: qs) = p.2.2 * wt p.1 p.2.1 + sumP qs := rfl
            have ea : allP (p :: qs) = (isV p.1 p.2.1 && allP qs) := rfl
            rw [es, ea]
            have dd : dDiv (.int (L - t)) (.int p.2.2) = .ret (.int ((L - t) / p.2.2)) := by
              unfold dDiv
              simp only
              rw [if_pos (by omega)]
            show (((((dSub (.int L) (.int t)).bind fun x116 => dDiv x116 (.int p.2.2)).bind fun x117 => m_weigh n (enc p.1) p.2.1 x117).bind _).bind _) = _
            rw [dSub_int, Tr.ret_bind, dd, Tr.ret_bind, weigh_eq n p.1 p.2.1 d ((L - t) / p.2.2) (by omega) (by omega) m2, Tr.ret_bind]
            by_cases hw : isV p.1 p.2.1 = true ∧ p.2.2 * wt p.1 p.2.1 ≤ L - t
            · obtain ⟨w1, w2⟩ := hw
              have hle : wt p.1 p.2.1 ≤ (L - t) / p.2.2 := (Int.le_ediv_iff_mul_le (by omega)).mpr (by rw [Int.mul_comm]; exact w2)
              have e1 : wtL p.1 p.2.1 ((L - t) / p.2.2) = some (wt p.1 p.2.1) := by
                unfold wtL
                rw [if_pos ⟨w1, hle⟩]
              have dm : dMul (.int p.2.2) (.int (wt p.1 p.2.1)) = .ret (.int (p.2.2 * wt p.1 p.2.1)) := by
                unfold dMul
                simp only
                rw [if_pos (by omega)]
              rw [e1, if_neg (show ¬ Cg.isNon (optI (some (wt p.1 p.2.1))) = true by rw [optI_non]; simp), show optI (some (wt p.1 p.2.1)) = PyData.int (wt p.1 p.2.1) from rfl, dm, Tr.ret_bind, asI_int, Tr.ret_bind, asI_int, Tr.ret_bind]
              refine (ih (t + p.2.2 * wt p.1 p.2.1) (fun x hx => hm x (List.mem_cons_of_mem _ hx)) (by omega)).trans ?_
              rw [w1, Bool.true_and, Int.add_assoc]
            · have e1 : wtL p.1 p.2.1 ((L - t) / p.2.2) = none := by
                unfold wtL
                rw [if_neg]
                rintro ⟨w1, w2⟩
                refine hw ⟨w1, ?_⟩
                have := (Int.le_ediv_iff_mul_le (by omega)).mp w2
                rw [Int.mul_comm]
                exact this
              rw [e1, if_pos (show Cg.isNon (optI none) = true from rfl)]
              refine Eq.trans ?_ (if_neg ?_).symm
              · rfl
              · rintro ⟨z1, z2⟩
                rw [Bool.and_eq_true] at z1
                have := sumP_nn z1.2 fun x hx => hpos x (hm x (List.mem_cons_of_mem _ hx))
                exact hw ⟨z1.1, by omega⟩
        rw [key ps 1 (fun _ h => h) (by omega)]
        by_cases hz : allP ps = true ∧ 1 + sumP ps ≤ L
        · rw [if_pos hz, ordered_eq h30 hc hp hz.1, Tr.ret_bind, asB_bool, Tr.ret_bind, Tr.ret_bind]
          cases ho : ord k v with
          | true =>
            have z : isV k v = true := by rw [hV, hz.1, ho]; rfl
            have e2 : wtL k v L = some (1 + sumP ps) := by
              unfold wtL
              rw [hW z, if_pos ⟨z, hz.2⟩]
            rw [e2]
            rfl
          | false =>
            have z : isV k v = false := by rw [hV, ho, Bool.and_false]
            have e2 : wtL k v L = none := by
              unfold wtL
              rw [if_neg (by rw [z]; simp)]
            rw [e2]
            rfl
        · rw [if_neg hz]
          have e2 : wtL k v L = none := by
            unfold wtL
            rw [if_neg]
            rintro ⟨z1, z2⟩
            rw [hW z1] at z2
            rw [hV, Bool.and_eq_true] at z1
            exact hz ⟨z1.1, z2⟩
          rw [e2]
          rfl
/-! ### values that are drawn -/
theorem mapT_map {α β γ : Type} (g : α → β) (f : β → Tr γ) : ∀ xs : List α, mapT f (xs.map g) = mapT (fun x => f (g x)) xs
  | [] => rfl
  | x :: xs => by
    rw [List.map_cons]
    show ((f (g x)).bind fun y => (mapT f (xs.map g)).bind _) = (f (g x)).bind fun y => (mapT (fun x => f (g x)) xs).bind _
    rw [mapT_map g f xs]
theorem each_vs {P : Kd → PyData → Prop} (hP : ∀ k v, P k v → isV k v = true) : ∀ {ks : List Kd} {ys : List PyData}, PySem.W.EachIs P ks ys → isVs ks ys = true
  | _, _, .nil => rfl
  | _, _, .cons h t => by
    rw [isVs, hP _ _ h, each_vs hP t]
    rfl
theorem each_in {α : Type} {P : α → PyData → Prop} : ∀ {xs : List α} {ys : List PyData}, PySem.W.EachIs P xs ys → ys.length = xs.length ∧ ∀ y ∈ ys, ∃ x ∈ xs, P x y
  | _, _, .nil => ⟨rfl, fun y hy => nomatch hy⟩
  | _, _, .cons h t => by
    obtain ⟨l, m⟩ := each_in t
    refine ⟨by rw [List.length_cons, List.length_cons, l], fun y hy => ?_⟩
    rcases List.mem_cons.mp hy with e | hy
    · rw [e]
      exact ⟨_, List.mem_cons_self, h⟩
    · obtain ⟨x, hx, hp⟩ := m y hy
      exact ⟨x, List.mem_cons_of_mem _ hx, hp⟩
/-- a drawn value of a kind -/
def DV (k : Kd) (v : PyData) : Prop := isV k v = true ∧ Nc 6 1000 (2 * k.deep) v
theorem nc_up {l b d d' : Nat} {x : PyData} (h : Nc l b d x) (hd : d ≤ d') : Nc l b d' x := nc_mono (Nat.le_refl _) (Nat.le_refl _) _ _ _ hd h
theorem value_wp : ∀ (n : Nat) (k : Kd) (most : Int), k.deep < n → k.deep ≤ 5 → k.ok = true → 0 ≤ most → most ≤ 5 → (m__law_value n (enc k) (.int most)).wp (DV k) F0
  | 0, _, _, h, _, _, _, _ => absurd h (by omega)
  | n + 1, k, most, h, h5, hok, hm0, hm5 => by
    have step : ∀ q ∈ k.inner, q.deep < n ∧ q.deep + 1 ≤ k.deep ∧ q.ok = true := fun q hq => by
      have := inner_deep q hq
      exact ⟨by omega, by omega, inner_ok hok q hq⟩
    obtain ⟨tk, htk, tw⟩ := take_draws
    rw [m__law_value, htk]
    have mx : dMax (.int 0) (.int (most - 1)) = .ret (.int (max 0 (most - 1))) := by
      rw [dMax_int]
      congr 2
      omega
    -- what the items are
    have its : ∀ q ∈ k.inner, ∀ {β : Type} {g : PyData → Tr β} {Q : β → Prop}, (∀ ds : List PyData, ds.length ≤ 5 → (∀ y ∈ ds, DV q y) → (g (.list ds)).wp Q F0) →
        (((((dAdd (.int most) (PyData.int 1)).bind fun x190 => tk x190).bind fun x191 => (rangeT (.int 0) x191).bind fun x192 => (mapT (fun v_k => ((dSub (.int most) (PyData.int 1)).bind fun x187 => dMax (PyData.int 0) x187).bind fun x189 => m__law_value n (enc q) x189) x192).bind fun x193 => Tr.ret (PyData.list x193))).bind g).wp Q F0 := by
      intro q hq β g Q hg
      rw [dAdd_int, Tr.ret_bind]
      refine Tr.wp_bind.mpr (Tr.wp_bind.mpr (tw (by omega) (by omega) fun i hi => ?_))
      rw [range_eq (by omega) (by omega), Tr.ret_bind, dSub_int, Tr.ret_bind, mx, Tr.ret_bind]
      refine Tr.wp_bind.mpr (Tr.wp_mono (fun ys hys => ?_) (fun _ z => z) (map_wp (P := DV q) _ fun _ _ => value_wp n q (max 0 (most - 1)) (step q hq).1 (by have := (step q hq).2.1; omega) (step q hq).2.2 (by omega) (by omega)))
      obtain ⟨z1, z2⟩ := hys
      rw [rng_len] at z1
      exact hg ys (by omega) z2
    -- a tuple of items
    have tup : ∀ q ∈ k.inner, ∀ es : List PyData, es.length ≤ 5 → (∀ y ∈ es, DV q y) → Nc 6 1000 (2 * k.deep) (.tuple es) := by
      intro q hq es hl he
      have hd := (step q hq).2.1
      obtain ⟨e, he2⟩ : ∃ e, 2 * k.deep = e + 1 := ⟨2 * k.deep - 1, by omega⟩
      rw [he2]
      exact ⟨by omega, fun y hy => nc_up (he y hy).2 (by omega)⟩
    cases k with
    | num m =>
      rw [Kd.ok, Bool.and_eq_true, decide_eq_true_eq, decide_eq_true_eq] at hok
      rw [enc]
      simp only [ix0, ix1, Tr.ret_bind, cEq_str, w_number_number, w_number_record, w_number_choice, w_number_row, w_number_set, w_number_bag, w_number_table, w_record_number, w_record_record, w_record_choice, w_record_row, w_record_set, w_record_bag, w_record_table, w_choice_number, w_choice_record, w_choice_choice, w_choice_row, w_choice_set, w_choice_bag, w_choice_table, w_row_number, w_row_record, w_row_choice, w_row_row, w_row_set, w_row_bag, w_row_table, w_set_number, w_set_record, w_set_choice, w_set_row, w_set_set, w_set_bag, w_set_table, w_bag_number, w_bag_record, w_bag_choice, w_bag_row, w_bag_set, w_bag_bag, w_bag_table, w_table_number, w_table_record, w_table_choice, w_table_row, w_table_set, w_table_bag, w_table_table, if_true]
      refine tw (by omega) (by omega) fun i hi => ⟨isV_num.mpr ⟨i, rfl, by omega, by omega⟩, nc_int.mpr (by omega)⟩
    | rcd ks =>
      rw [Kd.ok, Bool.and_eq_true, Bool.and_eq_true, decide_eq_true_eq, decide_eq_true_eq] at hok
      rw [enc]
      simp only [ix0, ix1, Tr.ret_bind, cEq_str, w_number_number, w_number_record, w_number_choice, w_number_row, w_number_set, w_number_bag, w_number_table, w_record_number, w_record_record, w_record_choice, w_record_row, w_record_set, w_record_bag, w_record_table, w_choice_number, w_choice_record, w_choice_choice, w_choice_row, w_choice_set, w_choice_bag, w_choice_table, w_row_number, w_row_record, w_row_choice, w_row_row, w_row_set, w_row_bag, w_row_table, w_set_number, w_set_record, w_set_choice, w_set_row, w_set_set, w_set_bag, w_set_table, w_bag_number, w_bag_record, w_bag_choice, w_bag_row, w_bag_set, w_bag_bag, w_bag_table, w_table_number, w_table_record, w_table_choice, w_table_row, w_table_set, w_table_bag, w_table_table, if_true, if_false, Bool.false_eq_true, items]
      rw [encs_map, mapT_map]
      refine Tr.wp_bind.mpr (Tr.wp_bind.mpr (Tr.wp_mono (fun ys hys => ?_) (fun _ z => z) (map_wp2 (P := fun q y => DV q y ∧ q ∈ ks) ks fun q hq => Tr.wp_mono (fun y hy => ⟨hy, hq⟩) (fun _ z => z) (value_wp n q most (step q hq).1 (by have := (step q hq).2.1; omega) (step q hq).2.2 hm0 hm5))))
      obtain ⟨z1, z2⟩ := each_in hys
      refine ⟨isV_rcd.mpr ⟨ys, rfl, each_vs (fun k v h => h.1.1) hys⟩, ?_⟩
      obtain ⟨e, he2⟩ : ∃ e, 2 * (Kd.rcd ks).deep = e + 1 := ⟨2 * (Kd.rcd ks).deep - 1, by have := deep_pos (.rcd ks); omega⟩
      rw [he2]
      refine ⟨by omega, fun y hy => ?_⟩
      obtain ⟨q, hq, hp⟩ := z2 y hy
      have hd := (step q hq).2.1
      exact nc_up hp.1.2 (by omega)
    | cho ks =>
      rw [Kd.ok, Bool.and_eq_true, Bool.and_eq_true, decide_eq_true_eq, decide_eq_true_eq] at hok
      rw [enc]
      simp only [ix0, ix1, Tr.ret_bind, cEq_str, w_number_number, w_number_record, w_number_choice, w_number_row, w_number_set, w_number_bag, w_number_table, w_record_number, w_record_record, w_record_choice, w_record_row, w_record_set, w_record_bag, w_record_table, w_choice_number, w_choice_record, w_choice_choice, w_choice_row, w_choice_set, w_choice_bag, w_choice_table, w_row_number, w_row_record, w_row_choice, w_row_row, w_row_set, w_row_bag, w_row_table, w_set_number, w_set_record, w_set_choice, w_set_row, w_set_set, w_set_bag, w_set_table, w_bag_number, w_bag_record, w_bag_choice, w_bag_row, w_bag_set, w_bag_bag, w_bag_table, w_table_number, w_table_record, w_table_choice, w_table_row, w_table_set, w_table_bag, w_table_table, if_true, if_false, Bool.false_eq_true, dLen_tup, encs_len]
      refine Tr.wp_bind.mpr (tw (by omega) (by omega) fun i hi => ?_)
      have hi' : i < ks.length := by omega
      have hq : ks[i]? = some ks[i] := List.getElem?_eq_getElem hi'
      have hm : ks[i] ∈ ks := List.getElem_mem hi'
      rw [ix_nat (encs_get hq), Tr.ret_bind]
      refine Tr.wp_bind.mpr (Tr.wp_mono (fun u hu => ?_) (fun _ z => z) (value_wp n ks[i] most (step _ hm).1 (by have := (step _ hm).2.1; omega) (step _ hm).2.2 hm0 hm5))
      refine ⟨isV_cho.mpr ⟨i, u, ks[i], rfl, by omega, by rw [Int.toNat_natCast]; exact hq, hu.1⟩, ?_⟩
      have hd := (step _ hm).2.1
      obtain ⟨e, he2⟩ : ∃ e, 2 * (Kd.cho ks).deep = e + 1 := ⟨2 * (Kd.cho ks).deep - 1, by omega⟩
      rw [he2]
      refine ⟨by show 2 ≤ 6; omega, fun y hy => ?_⟩
      rcases mem_pair hy with rfl | rfl
      · exact nc_int.mpr (by omega)
      · exact nc_up hu.2 (by omega)
    | row q =>
      have hq : q ∈ (Kd.row q).inner := by simp [Kd.inner]
      rw [enc]
      simp only [ix0, ix1, Tr.ret_bind, cEq_str, w_number_number, w_number_record, w_number_choice, w_number_row, w_number_set, w_number_bag, w_number_table, w_record_number, w_record_record, w_record_choice, w_record_row, w_record_set, w_record_bag, w_record_table, w_choice_number, w_choice_record, w_choice_choice, w_choice_row, w_choice_set, w_choice_bag, w_choice_table, w_row_number, w_row_record, w_row_choice, w_row_row, w_row_set, w_row_bag, w_row_table, w_set_number, w_set_record, w_set_choice, w_set_row, w_set_set, w_set_bag, w_set_table, w_bag_number, w_bag_record, w_bag_choice, w_bag_row, w_bag_set, w_bag_bag, w_bag_table, w_table_number, w_table_record, w_table_choice, w_table_row, w_table_set, w_table_bag, w_table_table, if_true, if_false, Bool.false_eq_true]
      refine its q hq fun ds hl hd => ?_
      exact ⟨isV_row.mpr ⟨ds, rfl, fun y hy => (hd y hy).1⟩, tup q hq ds hl hd⟩
    | set q =>
      have hq : q ∈ (Kd.set q).inner := by simp [Kd.inner]
      rw [enc]
      simp only [ix0, ix1, Tr.ret_bind, cEq_str, w_number_number, w_number_record, w_number_choice, w_number_row, w_number_set, w_number_bag, w_number_table, w_record_number, w_record_record, w_record_choice, w_record_row, w_record_set, w_record_bag, w_record_table, w_choice_number, w_choice_record, w_choice_choice, w_choice_row, w_choice_set, w_choice_bag, w_choice_table, w_row_number, w_row_record, w_row_choice, w_row_row, w_row_set, w_row_bag, w_row_table, w_set_number, w_set_record, w_set_choice, w_set_row, w_set_set, w_set_bag, w_set_table, w_bag_number, w_bag_record, w_bag_choice, w_bag_row, w_bag_set, w_bag_bag, w_bag_table, w_table_number, w_table_record, w_table_choice, w_table_row, w_table_set, w_table_bag, w_table_table, if_true, if_false, Bool.false_eq_true]
      refine its q hq fun ds hl hd => ?_
      obtain ⟨es, e1, e2, e3, e4⟩ := sort_set (fun y hy => (hd y hy).1) (by have := (step q hq).2.1; omega) (by omega)
      rw [e1, Tr.ret_bind]
      exact ⟨isV_set.mpr ⟨es, rfl, fun y hy => (hd y (e2 y hy)).1, e3⟩, tup q hq es (by omega) fun y hy => hd y (e2 y hy)⟩
    | bag q =>
      have hq : q ∈ (Kd.bag q).inner := by simp [Kd.inner]
      have hdp := (step q hq).2.1
      rw [enc]
      simp only [ix0, ix1, Tr.ret_bind, cEq_str, w_number_number, w_number_record, w_number_choice, w_number_row, w_number_set, w_number_bag, w_number_table, w_record_number, w_record_record, w_record_choice, w_record_row, w_record_set, w_record_bag, w_record_table, w_choice_number, w_choice_record, w_choice_choice, w_choice_row, w_choice_set, w_choice_bag, w_choice_table, w_row_number, w_row_record, w_row_choice, w_row_row, w_row_set, w_row_bag, w_row_table, w_set_number, w_set_record, w_set_choice, w_set_row, w_set_set, w_set_bag, w_set_table, w_bag_number, w_bag_record, w_bag_choice, w_bag_row, w_bag_set, w_bag_bag, w_bag_table, w_table_number, w_table_record, w_table_choice, w_table_row, w_table_set, w_table_bag, w_table_table, if_true, if_false, Bool.false_eq_true]
      refine its q hq fun ds hl hd => ?_
      obtain ⟨es, e1, e2, e3, e4⟩ := sort_set (fun y hy => (hd y hy).1) (by omega) (by omega)
      rw [e1, Tr.ret_bind, show items (PyData.list es) = .ret es from rfl, Tr.ret_bind]
      refine Tr.wp_bind.mpr (Tr.wp_bind.mpr (Tr.wp_mono (fun ys hys => ?_) (fun _ z => z) (map_wp2 (P := fun u y => ∃ c : Int, y = .tuple [u, .int c] ∧ 1 ≤ c ∧ c ≤ 3) es fun u hu => ?_)))
      · have hb : ∃ us : List (PyData × Int), ys = ofBag us ∧ us.map (·.1) = es ∧ ∀ p ∈ us, 1 ≤ p.2 ∧ p.2 ≤ 3 := by
          clear e1 e2 e3 e4
          induction hys with
          | nil => exact ⟨[], rfl, rfl, fun p hp => nomatch hp⟩
          | cons h t ih =>
            obtain ⟨us, rfl, rfl, h3⟩ := ih
            obtain ⟨c, rfl, h1, h2⟩ := h
            refine ⟨(_, c) :: us, rfl, rfl, fun p hp => ?_⟩
            rcases List.mem_cons.mp hp with e | hp
            · rw [e]; exact ⟨h1, h2⟩
            · exact h3 p hp
        obtain ⟨us, rfl, rfl, h3⟩ := hb
        have hu : ∀ p ∈ us, DV q p.1 := fun p hp => hd _ (e2 _ (List.mem_map.mpr ⟨p, hp, rfl⟩))
        refine ⟨isV_bag.mpr ⟨us, rfl, fun p hp => ⟨(hu p hp).1, (h3 p hp).1⟩, e3⟩, ?_⟩
        obtain ⟨e, he2⟩ : ∃ e, 2 * (Kd.bag q).deep = e + 1 + 1 := ⟨2 * (Kd.bag q).deep - 2, by omega⟩
        rw [he2]
        refine ⟨by unfold ofBag; rw [List.length_map] at e4 ⊢; omega, fun y hy => ?_⟩
        obtain ⟨p, hp, rfl⟩ := List.mem_map.mp hy
        refine ⟨by show 2 ≤ 6; omega, fun y hy => ?_⟩
        rcases mem_pair hy with rfl | rfl
        · exact nc_up (hu p hp).2 (by omega)
        · have := h3 p hp
          exact nc_int.mpr (by omega)
      · refine Tr.wp_bind.mpr (Tr.wp_bind.mpr (tw (by decide) (by decide) fun i hi => ?_))
        have hi' : (i : Int) < 3 := hi
        exact ⟨1 + (i : Int), rfl, by omega, by omega⟩
    | tab q r =>
      have hq : q ∈ (Kd.tab q r).inner := by simp [Kd.inner]
      have hr : r ∈ (Kd.tab q r).inner := by simp [Kd.inner]
      have hdp := (step q hq).2.1
      have hdr := (step r hr).2.1
      rw [enc]
      simp only [ix0, ix1, ix2, Tr.ret_bind, cEq_str, w_number_number, w_number_record, w_number_choice, w_number_row, w_number_set, w_number_bag, w_number_table, w_record_number, w_record_record, w_record_choice, w_record_row, w_record_set, w_record_bag, w_record_table, w_choice_number, w_choice_record, w_choice_choice, w_choice_row, w_choice_set, w_choice_bag, w_choice_table, w_row_number, w_row_record, w_row_choice, w_row_row, w_row_set, w_row_bag, w_row_table, w_set_number, w_set_record, w_set_choice, w_set_row, w_set_set, w_set_bag, w_set_table, w_bag_number, w_bag_record, w_bag_choice, w_bag_row, w_bag_set, w_bag_bag, w_bag_table, w_table_number, w_table_record, w_table_choice, w_table_row, w_table_set, w_table_bag, w_table_table, if_true, if_false, Bool.false_eq_true]
      refine its q hq fun ds hl hd => ?_
      obtain ⟨es, e1, e2, e3, e4⟩ := sort_set (fun y hy => (hd y hy).1) (by omega) (by omega)
      rw [e1, Tr.ret_bind, show items (PyData.list es) = .ret es from rfl, Tr.ret_bind]
      refine Tr.wp_bind.mpr (Tr.wp_bind.mpr (Tr.wp_mono (fun ys hys => ?_) (fun _ z => z) (map_wp2 (P := fun u y => ∃ w, y = .tuple [u, w] ∧ DV r w) es fun u hu => ?_)))
      · have hb : ∃ us : List (PyData × PyData), ys = ofTab us ∧ us.map (·.1) = es ∧ ∀ p ∈ us, DV r p.2 := by
          clear e1 e2 e3 e4
          induction hys with
          | nil => exact ⟨[], rfl, rfl, fun p hp => nomatch hp⟩
          | cons h t ih =>
            obtain ⟨us, rfl, rfl, h3⟩ := ih
            obtain ⟨c, rfl, h1⟩ := h
            refine ⟨(_, c) :: us, rfl, rfl, fun p hp => ?_⟩
            rcases List.mem_cons.mp hp with e | hp
            · rw [e]; exact h1
            · exact h3 p hp
        obtain ⟨us, rfl, rfl, h3⟩ := hb
        have hu : ∀ p ∈ us, DV q p.1 := fun p hp => hd _ (e2 _ (List.mem_map.mpr ⟨p, hp, rfl⟩))
        refine ⟨isV_tab.mpr ⟨us, rfl, fun p hp => ⟨(hu p hp).1, (h3 p hp).1⟩, e3⟩, ?_⟩
        obtain ⟨e, he2⟩ : ∃ e, 2 * (Kd.tab q r).deep = e + 1 + 1 := ⟨2 * (Kd.tab q r).deep - 2, by omega⟩
        rw [he2]
        refine ⟨by unfold ofTab; rw [List.length_map] at e4 ⊢; omega, fun y hy => ?_⟩
        obtain ⟨p, hp, rfl⟩ := List.mem_map.mp hy
        refine ⟨by show 2 ≤ 6; omega, fun y hy => ?_⟩
        rcases mem_pair hy with rfl | rfl
        · exact nc_up (hu p hp).2 (by omega)
        · exact nc_up (h3 p hp).2 (by omega)
      · rw [dSub_int, Tr.ret_bind, mx, Tr.ret_bind]
        exact Tr.wp_bind.mpr (Tr.wp_mono (fun w hw => ⟨w, rfl, hw⟩) (fun _ z => z) (value_wp n r (max 0 (most - 1)) (step r hr).1 (by omega) (step r hr).2.2 (by omega) (by omega)))
theorem plain_eq : ∀ (n : Nat) (k : Kd), k.deep < n → k.ok = true → ∃ v, m__law_plain n (enc k) = .ret v ∧ DV k v
  | 0, _, h, _ => absurd h (by omega)
  | n + 1, k, h, hok => by
    have step : ∀ q ∈ k.inner, q.deep < n ∧ q.deep + 1 ≤ k.deep ∧ q.ok = true := fun q hq => by
      have := inner_deep q hq
      exact ⟨by omega, by omega, inner_ok hok q hq⟩
    have emp : Nc 6 1000 (2 * k.deep) (.tuple []) := by
      obtain ⟨e, he2⟩ : ∃ e, 2 * k.deep = e + 1 := ⟨2 * k.deep - 1, by have := deep_pos k; omega⟩
      rw [he2]
      exact ⟨Nat.zero_le _, fun y hy => nomatch hy⟩
    rw [m__law_plain]
    cases k with
    | num m =>
      rw [Kd.ok, Bool.and_eq_true, decide_eq_true_eq, decide_eq_true_eq] at hok
      rw [enc]
      simp only [ix0, ix1, Tr.ret_bind, cEq_str, w_number_number, w_number_record, w_number_choice, w_number_row, w_number_set, w_number_bag, w_number_table, w_record_number, w_record_record, w_record_choice, w_record_row, w_record_set, w_record_bag, w_record_table, w_choice_number, w_choice_record, w_choice_choice, w_choice_row, w_choice_set, w_choice_bag, w_choice_table, w_row_number, w_row_record, w_row_choice, w_row_row, w_row_set, w_row_bag, w_row_table, w_set_number, w_set_record, w_set_choice, w_set_row, w_set_set, w_set_bag, w_set_table, w_bag_number, w_bag_record, w_bag_choice, w_bag_row, w_bag_set, w_bag_bag, w_bag_table, w_table_number, w_table_record, w_table_choice, w_table_row, w_table_set, w_table_bag, w_table_table, if_true]
      exact ⟨_, rfl, isV_num.mpr ⟨0, rfl, by omega, by omega⟩, nc_int.mpr (by omega)⟩
    | rcd ks =>
      rw [Kd.ok, Bool.and_eq_true, Bool.and_eq_true, decide_eq_true_eq, decide_eq_true_eq] at hok
      rw [enc]
      simp only [ix0, ix1, Tr.ret_bind, cEq_str, w_number_number, w_number_record, w_number_choice, w_number_row, w_number_set, w_number_bag, w_number_table, w_record_number, w_record_record, w_record_choice, w_record_row, w_record_set, w_record_bag, w_record_table, w_choice_number, w_choice_record, w_choice_choice, w_choice_row, w_choice_set, w_choice_bag, w_choice_table, w_row_number, w_row_record, w_row_choice, w_row_row, w_row_set, w_row_bag, w_row_table, w_set_number, w_set_record, w_set_choice, w_set_row, w_set_set, w_set_bag, w_set_table, w_bag_number, w_bag_record, w_bag_choice, w_bag_row, w_bag_set, w_bag_bag, w_bag_table, w_table_number, w_table_record, w_table_choice, w_table_row, w_table_set, w_table_bag, w_table_table, if_true, if_false, Bool.false_eq_true, items]
      have key : ∀ qs : List Kd, (∀ q ∈ qs, q ∈ ks) → ∃ ys, mapT (fun v_one => m__law_plain n v_one) (encs qs) = .ret ys ∧ PySem.W.EachIs (fun q y => DV q y ∧ q ∈ ks) qs ys := by
        intro qs
        induction qs with
        | nil => exact fun _ => ⟨[], rfl, .nil⟩
        | cons q qs ih =>
          intro hm
          obtain ⟨ys, h1, h2⟩ := ih fun x hx => hm x (List.mem_cons_of_mem _ hx)
          have hq := hm q List.mem_cons_self
          obtain ⟨v, h3, h4⟩ := plain_eq n q (step q hq).1 (step q hq).2.2
          refine ⟨v :: ys, ?_, .cons ⟨h4, hq⟩ h2⟩
          rw [encs]
          show (m__law_plain n (enc q)).bind _ = _
          rw [h3, Tr.ret_bind, h1]
          rfl
      obtain ⟨ys, h1, hys⟩ := key ks fun _ h => h
      obtain ⟨z1, z2⟩ := each_in hys
      rw [h1, Tr.ret_bind, Tr.ret_bind]
      refine ⟨_, rfl, isV_rcd.mpr ⟨ys, rfl, each_vs (fun k v h => h.1.1) hys⟩, ?_⟩
      obtain ⟨e, he2⟩ : ∃ e, 2 * (Kd.rcd ks).deep = e + 1 := ⟨2 * (Kd.rcd ks).deep - 1, by have := deep_pos (.rcd ks); omega⟩
      rw [he2]
      refine ⟨by omega, fun y hy => ?_⟩
      obtain ⟨q, hq, hp⟩ := z2 y hy
      have hd := (step q hq).2.1
      exact nc_up hp.1.2 (by omega)
    | cho ks =>
      rw [Kd.ok, Bool.and_eq_true, Bool.and_eq_true, decide_eq_true_eq, decide_eq_true_eq] at hok
      rw [enc]
      simp only [ix0, ix1, Tr.ret_bind, cEq_str, w_number_number, w_number_record, w_number_choice, w_number_row, w_number_set, w_number_bag, w_number_table, w_record_number, w_record_record, w_record_choice, w_record_row, w_record_set, w_record_bag, w_record_table, w_choice_number, w_choice_record, w_choice_choice, w_choice_row, w_choice_set, w_choice_bag, w_choice_table, w_row_number, w_row_record, w_row_choice, w_row_row, w_row_set, w_row_bag, w_row_table, w_set_number, w_set_record, w_set_choice, w_set_row, w_set_set, w_set_bag, w_set_table, w_bag_number, w_bag_record, w_bag_choice, w_bag_row, w_bag_set, w_bag_bag, w_bag_table, w_table_number, w_table_record, w_table_choice, w_table_row, w_table_set, w_table_bag, w_table_table, if_true, if_false, Bool.false_eq_true]
      have hq : ks[0]? = some ks[0] := List.getElem?_eq_getElem (by omega)
      have hm : ks[0] ∈ ks := List.getElem_mem (by omega)
      have e0 : dIx (.tuple (encs ks)) (.int 0) = .ret (enc ks[0]) := ix_nat (j := 0) (encs_get hq)
      obtain ⟨u, h1, hu⟩ := plain_eq n ks[0] (step _ hm).1 (step _ hm).2.2
      rw [e0, Tr.ret_bind, h1, Tr.ret_bind]
      refine ⟨_, rfl, isV_cho.mpr ⟨0, u, ks[0], rfl, by omega, hq, hu.1⟩, ?_⟩
      have hd := (step _ hm).2.1
      obtain ⟨e, he2⟩ : ∃ e, 2 * (Kd.cho ks).deep = e + 1 := ⟨2 * (Kd.cho ks).deep - 1, by omega⟩
      rw [he2]
      refine ⟨by show 2 ≤ 6; omega, fun y hy => ?_⟩
      rcases mem_pair hy with rfl | rfl
      · exact nc_int.mpr (by omega)
      · exact nc_up hu.2 (by omega)
    | row q =>
      rw [enc]
      simp only [ix0, Tr.ret_bind, cEq_str, w_number_number, w_number_record, w_number_choice, w_number_row, w_number_set, w_number_bag, w_number_table, w_record_number, w_record_record, w_record_choice, w_record_row, w_record_set, w_record_bag, w_record_table, w_choice_number, w_choice_record, w_choice_choice, w_choice_row, w_choice_set, w_choice_bag, w_choice_table, w_row_number, w_row_record, w_row_choice, w_row_row, w_row_set, w_row_bag, w_row_table, w_set_number, w_set_record, w_set_choice, w_set_row, w_set_set, w_set_bag, w_set_table, w_bag_number, w_bag_record, w_bag_choice, w_bag_row, w_bag_set, w_bag_bag, w_bag_table, w_table_number, w_table_record, w_table_choice, w_table_row, w_table_set, w_table_bag, w_table_table, if_false, Bool.false_eq_true]
      exact ⟨_, rfl, isV_row.mpr ⟨[], rfl, fun y hy => nomatch hy⟩, emp⟩
    | set q =>
      rw [enc]
      simp only [ix0, Tr.ret_bind, cEq_str, w_number_number, w_number_record, w_number_choice, w_number_row, w_number_set, w_number_bag, w_number_table, w_record_number, w_record_record, w_record_choice, w_record_row, w_record_set, w_record_bag, w_record_table, w_choice_number, w_choice_record, w_choice_choice, w_choice_row, w_choice_set, w_choice_bag, w_choice_table, w_row_number, w_row_record, w_row_choice, w_row_row, w_row_set, w_row_bag, w_row_table, w_set_number, w_set_record, w_set_choice, w_set_row, w_set_set, w_set_bag, w_set_table, w_bag_number, w_bag_record, w_bag_choice, w_bag_row, w_bag_set, w_bag_bag, w_bag_table, w_table_number, w_table_record, w_table_choice, w_table_row, w_table_set, w_table_bag, w_table_table, if_false, Bool.false_eq_true]
      exact ⟨_, rfl, isV_set.mpr ⟨[], rfl, (fun y hy => nomatch hy), rfl⟩, emp⟩
    | bag q =>
      rw [enc]
      simp only [ix0, Tr.ret_bind, cEq_str, w_number_number, w_number_record, w_number_choice, w_number_row, w_number_set, w_number_bag, w_number_table, w_record_number, w_record_record, w_record_choice, w_record_row, w_record_set, w_record_bag, w_record_table, w_choice_number, w_choice_record, w_choice_choice, w_choice_row, w_choice_set, w_choice_bag, w_choice_table, w_row_number, w_row_record, w_row_choice, w_row_row, w_row_set, w_row_bag, w_row_table, w_set_number, w_set_record, w_set_choice, w_set_row, w_set_set, w_set_bag, w_set_table, w_bag_number, w_bag_record, w_bag_choice, w_bag_row, w_bag_set, w_bag_bag, w_bag_table, w_table_number, w_table_record, w_table_choice, w_table_row, w_table_set, w_table_bag, w_table_table, if_false, Bool.false_eq_true]
      exact ⟨_, rfl, isV_bag.mpr ⟨[], rfl, (fun y hy => nomatch hy), rfl⟩, emp⟩
    | tab q r =>
      rw [enc]
      simp only [ix0, Tr.ret_bind, cEq_str, w_number_number, w_number_record, w_number_choice, w_number_row, w_number_set, w_number_bag, w_number_table, w_record_number, w_record_record, w_record_choice, w_record_row, w_record_set, w_record_bag, w_record_table, w_choice_number, w_choice_record, w_choice_choice, w_choice_row, w_choice_set, w_choice_bag, w_choice_table, w_row_number, w_row_record, w_row_choice, w_row_row, w_row_set, w_row_bag, w_row_table, w_set_number, w_set_record, w_set_choice, w_set_row, w_set_set, w_set_bag, w_set_table, w_bag_number, w_bag_record, w_bag_choice, w_bag_row, w_bag_set, w_bag_bag, w_bag_table, w_table_number, w_table_record, w_table_choice, w_table_row, w_table_set, w_table_bag, w_table_table, if_false, Bool.false_eq_true]
      exact ⟨_, rfl, isV_tab.mpr ⟨[], rfl, (fun y hy => nomatch hy), rfl⟩, emp⟩
theorem some_value_wp {k : Kd} (hok : k.ok = true) (h5 : k.deep ≤ 5) : (m__law_some_value (enc k)).wp (DV k) F0 := by
  obtain ⟨pk, hpk, pw⟩ := pick_draws
  unfold m__law_some_value
  rw [hpk]
  refine Tr.wp_bind.mpr (Tr.wp_bind.mpr (pw (by show 1 ≤ 5; omega) (by show 5 < 1000000; omega) fun y hy => ?_))
  have hc : ∃ c : Int, y = .int c ∧ 0 ≤ c ∧ c ≤ 5 := by
    simp only [List.mem_cons, List.not_mem_nil, or_false] at hy
    rcases hy with rfl | rfl | rfl | rfl | rfl <;> exact ⟨_, rfl, by omega, by omega⟩
  obtain ⟨c, rfl, hc0, hc⟩ := hc
  refine Tr.wp_mono (fun v hv => ?_) (fun _ z => z) (value_wp 8 k c (by omega) h5 hok hc0 hc)
  rw [weight_eq 8 k v _ (by omega) (nc_mono (by omega) (by omega) _ _ _ (Nat.le_refl _) hv.2) hv.1, Tr.ret_bind, cLe_int, Tr.ret_bind]
  by_cases q : wt k v ≤ 100
  · rw [decide_eq_true q, if_pos rfl]
    exact hv
  · rw [decide_eq_false q, if_neg (by simp)]
    obtain ⟨u, h1, hu⟩ := plain_eq 8 k (by omega) hok
    rw [h1]
    exact hu
/-! ### what is spoilt -/
theorem sl_take (xs : List PyData) (n : Nat) : dSl (.tuple xs) none (some (n : Int)) = .ret (.tuple (xs.take n)) := by
  show Tr.ret (PyData.tuple (cutD xs none (some (n : Int)))) = _
  have e : cutD xs none (some (n : Int)) = xs.take n := by
    unfold cutD
    rw [HT.sIx_none, HT.sIx_nat, List.drop_zero, Nat.sub_zero]
    by_cases h : n ≤ xs.length
    · rw [Nat.min_eq_left h]
    · rw [Nat.min_eq_right (by omega), List.take_of_length_le (Nat.le_refl _), List.take_of_length_le (by omega)]
  rw [e]
theorem sl_drop (xs : List PyData) (n : Nat) : dSl (.tuple xs) (some (n : Int)) none = .ret (.tuple (xs.drop n)) := by
  show Tr.ret (PyData.tuple (cutD xs (some (n : Int)) none)) = _
  have e : cutD xs (some (n : Int)) none = xs.drop n := by
    unfold cutD
    rw [HT.sIx_none, HT.sIx_nat]
    by_cases h : n ≤ xs.length
    · rw [Nat.min_eq_left h, List.take_of_length_le (by rw [List.length_drop]; omega)]
    · rw [Nat.min_eq_right (by omega), List.drop_of_length_le (Nat.le_refl _), List.drop_of_length_le (by omega), List.take_nil]
  rw [e]
theorem add_tup {xs ys : List PyData} (h : xs.length + ys.length ≤ 1000000) : dAdd (.tuple xs) (.tuple ys) = .ret (.tuple (xs ++ ys)) := by
  unfold dAdd
  simp only
  rw [if_pos h]
theorem asI_ret (i : Int) : asI (.int i) = .ret i := rfl
def spoilMenu : List PyData := [(PyData.int 0), (PyData.int 1), (PyData.int (-1)), (PyData.bool true), (PyData.bool false), PyData.none, (PyData.str "row"), (PyData.str "same"), (PyData.str "x"), (PyData.tuple []), (PyData.tuple [(PyData.str "same")]), (PyData.tuple [(PyData.int 0), (PyData.int 1)]), (PyData.tuple [(PyData.tuple [(PyData.int 0), (PyData.int 1)])]), (PyData.tuple [(PyData.str "number"), (PyData.int 2)]), (PyData.tuple [(PyData.str "keep"), (PyData.int 1)]), (PyData.tuple [(PyData.str "only"), (PyData.int 0)]), (PyData.tuple [(PyData.str "cut"), (PyData.int 0)])]
theorem nc_menu : ∀ y ∈ spoilMenu, Nc 2 2 2 y := by
  intro y hy
  unfold spoilMenu at hy
  simp only [List.mem_cons, List.not_mem_nil, or_false] at hy
  rcases hy with rfl | rfl | rfl | rfl | rfl | rfl | rfl | rfl | rfl | rfl | rfl | rfl | rfl | rfl | rfl | rfl | rfl <;> simp [Nc]
theorem spoilt_wp : ∀ (n : Nat) (x : PyData) (d l b : Nat), Nc l b d x → d < n → 1 ≤ l → l ≤ 900 → 1 ≤ b → b ≤ 900000 → (m__law_spoilt n x).wp (Nc (l + 1) (b + 1000) (d + 2)) F0
  | 0, _, _, _, _, _, h, _, _, _, _ => absurd h (by omega)
  | n + 1, x, d, l, b, hx, hd, hl1, hl, hb1, hb => by
    obtain ⟨tk, htk, tw⟩ := take_draws
    obtain ⟨pk, hpk, pw⟩ := pick_draws
    rw [m__law_spoilt, htk, hpk]
    -- another leaf
    have leaf : ∀ y : PyData, Nc l b d y → ((if (isInt y) then if (!(isBool y)) then (tk (PyData.int 3)).bind fun x354 => cGt x354 (PyData.int 0) else Tr.ret false else Tr.ret false).bind fun x356 => if x356 then (pk (PyData.list [(PyData.int 1), (PyData.int (-1)), (PyData.int 2), (PyData.int 1000)])).bind fun x355 => dAdd y x355 else pk (PyData.list spoilMenu)).wp (Nc (l + 1) (b + 1000) (d + 2)) F0 := by
      intro y hy
      have menu : (pk (PyData.list spoilMenu)).wp (Nc (l + 1) (b + 1000) (d + 2)) F0 :=
        pw (by show 1 ≤ 17; omega) (by show 17 < 1000000; omega) fun z hz => nc_mono (by omega) (by omega) _ _ _ (by omega) (nc_menu z hz)
      cases y with
      | int i =>
        have hi := nc_int.mp hy
        have t1 : isInt (.int i) = true := rfl
        have t2 : isBool (.int i) = false := rfl
        simp only [t1, t2, if_true, Bool.not_false]
        refine Tr.wp_bind.mpr (Tr.wp_bind.mpr (tw (by decide) (by decide) fun j hj => ?_))
        rw [cGt_int]
        by_cases q : (0 : Int) < (j : Int)
        · rw [decide_eq_true q]
          show ((pk _).bind _).wp _ _
          refine Tr.wp_bind.mpr (pw (by show 1 ≤ 4; omega) (by show 4 < 1000000; omega) fun z hz => ?_)
          simp only [List.mem_cons, List.not_mem_nil, or_false] at hz
          rcases hz with rfl | rfl | rfl | rfl <;> exact nc_int.mpr (by omega)
        · rw [decide_eq_false q]
          exact menu
      | bool c => exact menu
      | _ => exact menu
    -- the tuple's own turns
    by_cases ht : isTup x = false
    · rw [ht]
      exact leaf x hx
    · obtain ⟨xs, rfl⟩ : ∃ xs, x = .tuple xs := by
        cases x with
        | tuple xs => exact ⟨xs, rfl⟩
        | _ => exact absurd rfl ht
      obtain ⟨e, rfl, hlen, hall⟩ := nc_tup hx
      have t1 : isTup (.tuple xs) = true := rfl
      rw [t1, Bool.not_true, if_neg (by simp), cEq_nilT, Tr.ret_bind]
      cases hemp : xs.isEmpty with
      | true =>
        rw [if_pos rfl]
        exact leaf _ hx
      | false =>
        have hpos : 1 ≤ xs.length := by
          cases xs with
          | nil => cases hemp
          | cons a r => rw [List.length_cons]; omega
        rw [if_neg (by simp)]
        rw [Tr.bind_assoc]
        refine Tr.wp_bind.mpr (tw (by decide) (by decide) fun j hj => ?_)
        rw [cEq_int, Tr.ret_bind]
        by_cases q : (j : Int) = 0
        · rw [decide_eq_true q, if_pos rfl]
          exact leaf _ hx
        · rw [decide_eq_false q, if_neg (by simp), dLen_tup, Tr.ret_bind]
          refine Tr.wp_bind.mpr (tw (by omega) (by omega) fun at' hat => ?_)
          refine Tr.wp_bind.mpr (tw (by decide) (by decide) fun sort hs => ?_)
          have hat' : at' < xs.length := by omega
          have hget : xs[at']? = some xs[at'] := List.getElem?_eq_getElem hat'
          have s1 : dAdd (.int (at' : Int)) (.int 1) = .ret (.int ((at' + 1 : Nat) : Int)) := by
            rw [dAdd_int]
            congr 2
          have up : ∀ y : PyData, Nc l b e y → Nc (l + 1) (b + 1000) (e + 2) y := fun y h => nc_mono (by omega) (by omega) _ _ _ (by omega) h
          -- what is put together
          have put : ∀ zs : List PyData, zs.length ≤ l + 1 → (∀ y ∈ zs, Nc (l + 1) (b + 1000) (e + 2) y) → Nc (l + 1) (b + 1000) (e + 1 + 2) (.tuple zs) := fun zs h1 h2 => ⟨h1, h2⟩
          have mt : ∀ {k : Nat} {y : PyData}, y ∈ xs.take k → Nc (l + 1) (b + 1000) (e + 2) y := fun h => up _ (hall _ (List.mem_of_mem_take h))
          have md : ∀ {k : Nat} {y : PyData}, y ∈ xs.drop k → Nc (l + 1) (b + 1000) (e + 2) y := fun h => up _ (hall _ (List.mem_of_mem_drop h))
          simp only [cEq_int, Tr.ret_bind, asI_ret, sl_take, sl_drop, s1, ix_nat hget]
          by_cases c0 : (sort : Int) = 0
          · rw [decide_eq_true c0, if_pos rfl, add_tup (by rw [List.length_take, List.length_drop]; omega)]
            refine put _ (by rw [List.length_append, List.length_take, List.length_drop]; omega) fun y hy => ?_
            rcases List.mem_append.mp hy with h | h
            · exact mt h
            · exact md h
          · rw [decide_eq_false c0, if_neg (by simp)]
            by_cases c1 : (sort : Int) = 1
            · rw [decide_eq_true c1, if_pos rfl, add_tup (by rw [List.length_take, List.length_singleton]; omega), Tr.ret_bind, add_tup (by rw [List.length_append, List.length_take, List.length_drop, List.length_singleton]; omega)]
              refine put _ (by rw [List.length_append, List.length_append, List.length_take, List.length_drop, List.length_singleton]; omega) fun y hy => ?_
              rcases List.mem_append.mp hy with h | h
              · rcases List.mem_append.mp h with h | h
                · exact mt h
                · cases List.mem_singleton.mp h
                  exact up _ (hall _ (List.getElem_mem hat'))
              · exact md h
            · rw [decide_eq_false c1, if_neg (by simp)]
              have last : ((((m__law_spoilt n xs[at']).bind fun x384 => Tr.ret (PyData.tuple [x384])).bind fun x386 => dAdd (.tuple (xs.take at')) x386).bind fun x389 => dAdd x389 (.tuple (xs.drop (at' + 1)))).wp (Nc (l + 1) (b + 1000) (e + 1 + 2)) F0 := by
                refine Tr.wp_bind.mpr (Tr.wp_bind.mpr (Tr.wp_bind.mpr (Tr.wp_mono (fun y hy => ?_) (fun _ z => z) (spoilt_wp n xs[at'] e l b (hall _ (List.getElem_mem hat')) (by omega) hl1 hl hb1 hb))))
                rw [Tr.wp, add_tup (by rw [List.length_take, List.length_singleton]; omega), Tr.wp, add_tup (by rw [List.length_append, List.length_take, List.length_drop, List.length_singleton]; omega)]
                refine put _ (by rw [List.length_append, List.length_append, List.length_take, List.length_drop, List.length_singleton]; omega) fun z hz => ?_
                rcases List.mem_append.mp hz with h | h
                · rcases List.mem_append.mp h with h | h
                  · exact mt h
                  · cases List.mem_singleton.mp h
                    exact hy
                · exact md h
              by_cases c2 : (sort : Int) = 2
              · rw [decide_eq_true c2, if_pos rfl, cGt_int]
                by_cases c3 : (0 : Int) < (at' : Int)
                · obtain ⟨m, rfl⟩ : ∃ m, at' = m + 1 := ⟨at' - 1, by omega⟩
                  have s2 : dSub (.int ((m + 1 : Nat) : Int)) (.int 1) = .ret (.int (m : Int)) := by
                    rw [dSub_int]
                    congr 2
                    omega
                  have hg2 : xs[m]? = some xs[m] := List.getElem?_eq_getElem (by omega)
                  rw [decide_eq_true c3, Tr.ret_bind, if_pos rfl]
                  simp only [s2, Tr.ret_bind, asI_ret, sl_take, ix_nat hg2]
                  rw [add_tup (by rw [List.length_take]; show _ + 2 ≤ _; omega), Tr.ret_bind, add_tup (by rw [List.length_append, List.length_take, List.length_drop]; show _ + 2 + _ ≤ _; omega)]
                  refine put _ (by rw [List.length_append, List.length_append, List.length_take, List.length_drop]; show _ + 2 + _ ≤ _; omega) fun y hy => ?_
                  rcases List.mem_append.mp hy with h | h
                  · rcases List.mem_append.mp h with h | h
                    · exact mt h
                    · rcases mem_pair h with rfl | rfl
                      · exact up _ (hall _ (List.getElem_mem hat'))
                      · exact up _ (hall _ (List.getElem_mem (by omega)))
                  · exact md h
                · rw [decide_eq_false c3, Tr.ret_bind, if_neg (by simp)]
                  exact last
              · rw [decide_eq_false c2, if_neg (by simp), Tr.ret_bind, if_neg (by simp)]
                exact last
/-! ### what both calls tell -/
def GoodK (k : Kd) : Prop := k.ok = true ∧ k.deep ≤ 5 ∧ k.size ≤ 20
theorem GoodK.isK {k : Kd} (h : GoodK k) : Km.isK (enc k) = true := by
  unfold Km.isK
  rw [cnt_enc 5 k h.1 h.2.1]
  exact decide_eq_true h.2.2
def good (k : Kd) (v : PyData) : Bool := isV k v && decide (wt k v ≤ 400)
theorem wtL_good (k : Kd) (v : PyData) : wtL k v 400 = if good k v then some (wt k v) else none := by
  unfold wtL good
  by_cases h : isV k v = true ∧ wt k v ≤ 400
  · rw [if_pos h, h.1, decide_eq_true h.2]
    rfl
  · rw [if_neg h, if_neg]
    intro z
    rw [Bool.and_eq_true, decide_eq_true_eq] at z
    exact h z
theorem told0_eq {k : Kd} (g : GoodK k) {v : PyData} {d : Nat} (hc : Nc 1000 1000000 d v) : m__law_told (.int 0) (enc k) v = .ret (if good k v then .none else .str "value") := by
  unfold m__law_told m_check_value b_check_value m_is_value
  rw [cEq_int, check_eq, g.isK, weigh_eq 8 k v d 400 (by have := g.2.1; omega) (by have := g.2.1; omega) hc, wtL_good]
  cases good k v <;> rfl
theorem told1_eq {k : Kd} (g : GoodK k) {v : PyData} {d : Nat} (hc : Nc 1000 1000000 d v) : m__law_told (.int 1) (enc k) v = .ret (if good k v then .int (wt k v) else .str "value") := by
  unfold m__law_told m_weight
  rw [cEq_int, check_eq, g.isK, weigh_eq 8 k v d 400 (by have := g.2.1; omega) (by have := g.2.1; omega) hc, wtL_good]
  cases good k v <;> rfl
theorem kind0 (v : PyData) : m__law_told (.int 0) (.tuple [.str "number", .int 1]) v = .ret (.str "kind") := by
  unfold m__law_told m_check_value b_check_value
  rw [cEq_int, check_eq, show Km.isK (.tuple [.str "number", .int 1]) = false from rfl]
  rfl
theorem kind1 (v : PyData) : m__law_told (.int 1) .none v = .ret (.str "kind") := by
  unfold m__law_told m_weight
  rw [cEq_int, check_eq, show Km.isK .none = false from rfl]
  rfl
theorem good_eq {k : Kd} (g : GoodK k) {x : PyData} {d : Nat} (hc : Nc 1000 1000000 d x) : ((m__law_is_value 8 (enc k) x).bind fun x441 => (asB x441).bind fun x442 => if x442 then ((m__law_weight 8 (enc k) x).bind fun x439 => cLe x439 (PyData.int 400)).bind fun x440 => Tr.ret (PyData.bool x440) else Tr.ret (PyData.bool false)) = .ret (.bool (good k x)) := by
  rw [is_value_eq 8 k x d (by have := g.2.1; omega) (by have := g.2.1; omega) g.1 hc, Tr.ret_bind, asB_bool, Tr.ret_bind]
  unfold good
  cases h : isV k x with
  | false => rfl
  | true =>
    rw [if_pos rfl, weight_eq 8 k x d (by have := g.2.1; omega) hc h, Tr.ret_bind, cLe_int, Tr.ret_bind, Bool.true_and]
theorem repr_val : dRepr (.str "value") = .ret (.str (reprText "value")) := repr_str (by decide +kernel)
theorem good_wt {k : Kd} {v : PyData} (h : good k v = true) : isV k v = true ∧ 1 ≤ wt k v ∧ wt k v ≤ 400 := by
  unfold good at h
  rw [Bool.and_eq_true, decide_eq_true_eq] at h
  exact ⟨h.1, wt_pos k v h.1, h.2⟩
theorem ne_kind : cNe (.str "kind") (.str "kind") = .ret false := same_ne _
/-- the sets, bags and tables of many names -/
theorem long_wp : m__law_long_sets.wp (fun d => d = .bool true) F0 := by
  obtain ⟨tk, htk, tw⟩ := take_draws
  obtain ⟨pk, hpk, pw⟩ := pick_draws
  unfold m__law_long_sets
  rw [htk, hpk]
  refine Tr.wp_bind.mpr (Tr.wp_bind.mpr (Tr.wp_bind.mpr (tw (by decide) (by decide) fun i hi => ?_)))
  have hi' : (i : Int) < 189 := hi
  rw [dAdd_int, Tr.wp]
  refine Tr.wp_bind.mpr (Tr.wp_bind.mpr (tw (by decide) (by decide) fun j hj => ?_))
  have hj' : (j : Int) < 5 := hj
  rw [dAdd_int, Tr.wp, Tr.wp]
  have hn : (2 + (i : Int)) = ((i + 2 : Nat) : Int) := by omega
  show ((rangeT (.int 0) (.int (2 + (i : Int)))).bind _).wp _ _
  rw [range_eq (by omega) (by omega), Tr.ret_bind]
  have em : mapT (fun v_k => dMul v_k (.int (1 + (j : Int)))) (rng 0 (2 + (i : Int)).toNat) = .ret ((List.range (i + 2)).map fun (q : Nat) => PyData.int ((q : Int) * (1 + (j : Int)))) := by
    have e0 : (2 + (i : Int)).toNat = i + 2 := by omega
    rw [e0]
    refine map_rng fun q hq => ?_
    unfold dMul
    simp only
    rw [if_pos (by omega), Int.zero_add]
  rw [em, Tr.ret_bind]
  have hL : ∀ (q : Nat), q < i + 2 → ((List.range (i + 2)).map fun (q : Nat) => PyData.int ((q : Int) * (1 + (j : Int))))[q]? = some (.int ((q : Int) * (1 + (j : Int)))) := by
    intro q hq
    rw [List.getElem?_map, List.getElem?_range hq]
    rfl
  have hLl : ((List.range (i + 2)).map fun (q : Nat) => PyData.int ((q : Int) * (1 + (j : Int)))).length = i + 2 := by rw [List.length_map, List.length_range]
  have hLm : ∀ y ∈ ((List.range (i + 2)).map fun (q : Nat) => PyData.int ((q : Int) * (1 + (j : Int)))), ∃ c : Int, y = .int c ∧ 0 ≤ c ∧ c ≤ 999 := by
    intro y hy
    obtain ⟨q, hq, rfl⟩ := List.mem_map.mp hy
    have hq' := List.mem_range.mp hq
    refine ⟨_, rfl, Int.mul_nonneg (by omega) (by omega), ?_⟩
    have a1 : (q : Int) * (1 + (j : Int)) ≤ 190 * 5 := Int.mul_le_mul (by omega) (by omega) (by omega) (by omega)
    omega
  generalize ((List.range (i + 2)).map fun (q : Nat) => PyData.int ((q : Int) * (1 + (j : Int)))) = L at hL hLl hLm
  -- what is told of any names, in order or not
  have fin : ∀ (N : List PyData) (gd : Bool), N.length = i + 2 → (∀ y ∈ N, ∃ c : Int, y = .int c ∧ 0 ≤ c ∧ c ≤ 999) → rising N = gd → ∀ y ∈ [PyData.tuple [.tuple [.str "set", .tuple [.str "number", .int 1000]], .tuple N], PyData.tuple [.tuple [.str "bag", .tuple [.str "number", .int 1000]], .tuple (N.map fun x => PyData.tuple [x, .int 1])], PyData.tuple [.tuple [.str "table", .tuple [.str "number", .int 1000], .tuple [.str "number", .int 1000]], .tuple (N.map fun x => PyData.tuple [x, .int 3])]],
      ∃ k v, y = .tuple [enc k, v] ∧ GoodK k ∧ Nc 1000 1000000 2 v ∧ good k v = gd := by
    intro N gd hN hm hr y hy
    have hV : ∀ y ∈ N, isV (.num 1000) y = true := fun y hy => by
      obtain ⟨c, rfl, h1, h2⟩ := hm y hy
      exact isV_num.mpr ⟨c, rfl, h1, by omega⟩
    have hall : N.all (isV (.num 1000)) = true := List.all_eq_true.mpr hV
    have nc1 : ∀ {e : Nat}, ∀ y ∈ N, Nc 1000 1000000 e y := fun y hy => by
      obtain ⟨c, rfl, h1, h2⟩ := hm y hy
      exact nc_int.mpr (by omega)
    have hf : ∀ c : PyData, Km.fsts (N.map fun x => PyData.tuple [x, c]) = N := fun c => by
      unfold Km.fsts
      rw [List.map_map]
      exact List.map_id' N
    have hs : ∀ xs : List PyData, (xs.map fun _ => (1 : Int)).sum = (xs.length : Int) := by
      intro xs
      induction xs with
      | nil => rfl
      | cons x xs ih =>
        rw [List.map_cons, List.sum_cons, ih, List.length_cons]
        omega
    have hp : ∀ c : Int, c.natAbs ≤ 1000000 → Nc 1000 1000000 2 (.tuple (N.map fun x => PyData.tuple [x, .int c])) := fun c hc => by
      refine ⟨by rw [List.length_map]; omega, fun y hy => ?_⟩
      obtain ⟨x, hx, rfl⟩ := List.mem_map.mp hy
      refine ⟨by show 2 ≤ 1000; omega, fun y hy => ?_⟩
      rcases mem_pair hy with rfl | rfl
      · exact nc1 _ hx
      · exact nc_int.mpr hc
    simp only [List.mem_cons, List.not_mem_nil, or_false] at hy
    rcases hy with rfl | rfl | rfl
    · refine ⟨.set (.num 1000), .tuple N, by rw [enc, enc], ⟨rfl, by rw [Kd.deep, Kd.deep]; omega, by rw [Kd.size, Kd.size]; omega⟩, ⟨by omega, fun y hy => nc1 y hy⟩, ?_⟩
      unfold good
      have e : wt (.set (.num 1000)) (.tuple N) = 1 + (i + 2 : Nat) := by
        rw [wt_set, show (wt (.num 1000)) = (fun _ => (1 : Int)) from funext fun v => wt_num _ v, hs, hN]
      simp only [isV, hall, Bool.true_and]
      rw [e, decide_eq_true (by omega), Bool.and_true]
      exact hr
    · refine ⟨.bag (.num 1000), .tuple (N.map fun x => PyData.tuple [x, .int 1]), by rw [enc, enc], ⟨rfl, by rw [Kd.deep, Kd.deep]; omega, by rw [Kd.size, Kd.size]; omega⟩, hp 1 (by omega), ?_⟩
      unfold good
      have e : wt (.bag (.num 1000)) (.tuple (N.map fun x => PyData.tuple [x, .int 1])) = 1 + (i + 2 : Nat) := by
        rw [show (N.map fun x => PyData.tuple [x, .int 1]) = ofBag (N.map fun x => (x, (1 : Int))) by unfold ofBag; rw [List.map_map]; rfl, wt_bag, List.map_map]
        rw [show ((fun p : PyData × Int => p.2 * wt (.num 1000) p.1) ∘ fun x => (x, (1 : Int))) = (fun _ => (1 : Int)) from funext fun x => by show 1 * wt (.num 1000) x = 1; rw [wt_num]; rfl, hs, hN]
      have e2 : (N.map fun x => PyData.tuple [x, .int 1]).all (bagItem (.num 1000)) = true := by
        rw [List.all_eq_true]
        intro y hy
        obtain ⟨x, hx, rfl⟩ := List.mem_map.mp hy
        exact bagItem_iff.mpr ⟨x, 1, rfl, hV x hx, by omega⟩
      rw [isV_bag0, e2, hf, Bool.true_and, e, decide_eq_true (by omega), Bool.and_true]
      exact hr
    · refine ⟨.tab (.num 1000) (.num 1000), .tuple (N.map fun x => PyData.tuple [x, .int 3]), by rw [enc, enc], ⟨rfl, by rw [Kd.deep, Kd.deep]; omega, by rw [Kd.size, Kd.size]; omega⟩, hp 3 (by omega), ?_⟩
      unfold good
      have e : wt (.tab (.num 1000) (.num 1000)) (.tuple (N.map fun x => PyData.tuple [x, .int 3])) = 1 + 2 * ((i + 2 : Nat) : Int) := by
        rw [show (N.map fun x => PyData.tuple [x, .int 3]) = ofTab (N.map fun x => (x, PyData.int 3)) by unfold ofTab; rw [List.map_map]; rfl, wt_tab, List.map_map]
        rw [show ((fun p : PyData × PyData => wt (.num 1000) p.1 + wt (.num 1000) p.2) ∘ fun x => (x, PyData.int 3)) = (fun _ => (2 : Int)) from funext fun x => by show wt (.num 1000) x + wt (.num 1000) (.int 3) = 2; rw [wt_num, wt_num]; rfl]
        have h2 : ∀ xs : List PyData, (xs.map fun _ => (2 : Int)).sum = 2 * (xs.length : Int) := by
          intro xs
          induction xs with
          | nil => rfl
          | cons x xs ih =>
            rw [List.map_cons, List.sum_cons, ih, List.length_cons]
            omega
        rw [h2, hN]
      have e2 : (N.map fun x => PyData.tuple [x, .int 3]).all (tabItem (.num 1000) (.num 1000)) = true := by
        rw [List.all_eq_true]
        intro y hy
        obtain ⟨x, hx, rfl⟩ := List.mem_map.mp hy
        exact tabItem_iff.mpr ⟨x, .int 3, rfl, hV x hx, isV_num.mpr ⟨3, rfl, by omega, by omega⟩⟩
      rw [isV_tab0, e2, hf, Bool.true_and, e, decide_eq_true (by omega), Bool.and_true]
      exact hr
  have rise : rising L = true := by
    refine rising_iff.mpr fun q a b ha hb => ?_
    have h2 : q + 1 < i + 2 := by rw [← hLl]; exact get_lt hb
    rw [hL q (by omega)] at ha
    rw [hL (q + 1) h2] at hb
    cases ha
    cases hb
    rw [ltD_int, decide_eq_true]
    have e1 : ((q + 1 : Nat) : Int) = (q : Int) + 1 := by omega
    rw [e1, Int.add_mul]
    omega
  -- the same told of what is picked
  have tell : ∀ (gd : Bool) (y : PyData), (∃ k v, y = .tuple [enc k, v] ∧ GoodK k ∧ Nc 1000 1000000 2 v ∧ good k v = gd) → ((un2 fun v_kind v_v => ((((m__law_told (PyData.int 0) v_kind v_v).bind fun x420 => dRepr x420).bind fun x424 => ((((asB (.bool gd)).bind fun x421 => Tr.ret x421).bind fun x422 => if x422 then Tr.ret PyData.none else Tr.ret (PyData.str "value")).bind fun x423 => dRepr x423).bind fun x425 => cEq x424 x425).bind fun x426 => Tr.ret (PyData.bool x426)).bind fun x434 => (asB x434).bind fun x435 => if x435 then (((m__law_told (PyData.int 1) v_kind v_v).bind fun x427 => dRepr x427).bind fun x431 => ((((asB (.bool gd)).bind fun x428 => Tr.ret x428).bind fun x429 => if x429 then m__law_weight 8 v_kind v_v else Tr.ret (PyData.str "value")).bind fun x430 => dRepr x430).bind fun x432 => cEq x431 x432).bind fun x433 => Tr.ret (PyData.bool x433) else Tr.ret (PyData.bool false)) y) = .ret (.bool true) := by
    rintro gd y ⟨k, v, rfl, g, hc, hg⟩
    rw [show ∀ f : PyData → PyData → Tr PyData, un2 f (.tuple [enc k, v]) = f (enc k) v from fun _ => rfl]
    rw [told0_eq g hc, told1_eq g hc, hg]
    cases gd with
    | true =>
      obtain ⟨z1, z2, z3⟩ := good_wt hg
      rw [weight_eq 8 k v 2 (by have := g.2.1; omega) hc z1]
      simp only [if_true, Tr.ret_bind, asB_bool, repr_no, same_eq, repr_int (i := wt k v) (by omega)]
    | false =>
      simp only [if_false, Bool.false_eq_true, if_true, Tr.ret_bind, asB_bool, repr_val, same_eq]
  -- good or not
  refine Tr.wp_bind.mpr (Tr.wp_bind.mpr (Tr.wp_bind.mpr (tw (by decide) (by decide) fun w hw => ?_)))
  rw [cEq_int, Tr.wp, Tr.wp]
  -- behind the exchange
  have rest : ∀ (N : List PyData) (gd : Bool), N.length = i + 2 → (∀ y ∈ N, ∃ c : Int, y = .int c ∧ 0 ≤ c ∧ c ≤ 999) → rising N = gd →
      ((Tr.ret (PyData.tuple [(PyData.str "number"), (PyData.int 1000)])).bind fun v_number => ((((dTuple (PyData.list (unL (.list N)))).bind fun x407 => Tr.ret (PyData.tuple [(PyData.tuple [(PyData.str "set"), v_number]), x407])).bind fun x416 => ((((items (PyData.list (unL (.list N)))).bind fun x408 => (mapT (fun v_x => Tr.ret (PyData.tuple [v_x, (PyData.int 1)])) x408).bind fun x409 => Tr.ret (PyData.list x409)).bind fun x410 => dTuple x410).bind fun x411 => Tr.ret (PyData.tuple [(PyData.tuple [(PyData.str "bag"), v_number]), x411])).bind fun x417 => ((((items (PyData.list (unL (.list N)))).bind fun x412 => (mapT (fun v_x => Tr.ret (PyData.tuple [v_x, (PyData.int 3)])) x412).bind fun x413 => Tr.ret (PyData.list x413)).bind fun x414 => dTuple x414).bind fun x415 => Tr.ret (PyData.tuple [(PyData.tuple [(PyData.str "table"), v_number, v_number]), x415])).bind fun x418 => Tr.ret (PyData.list [x416, x417, x418])).bind fun x419 => pk x419).bind (un2 fun v_kind v_v => ((((m__law_told (PyData.int 0) v_kind v_v).bind fun x420 => dRepr x420).bind fun x424 => ((((asB (.bool gd)).bind fun x421 => Tr.ret x421).bind fun x422 => if x422 then Tr.ret PyData.none else Tr.ret (PyData.str "value")).bind fun x423 => dRepr x423).bind fun x425 => cEq x424 x425).bind fun x426 => Tr.ret (PyData.bool x426)).bind fun x434 => (asB x434).bind fun x435 => if x435 then (((m__law_told (PyData.int 1) v_kind v_v).bind fun x427 => dRepr x427).bind fun x431 => ((((asB (.bool gd)).bind fun x428 => Tr.ret x428).bind fun x429 => if x429 then m__law_weight 8 v_kind v_v else Tr.ret (PyData.str "value")).bind fun x430 => dRepr x430).bind fun x432 => cEq x431 x432).bind fun x433 => Tr.ret (PyData.bool x433) else Tr.ret (PyData.bool false))).wp (fun d => d = .bool true) F0 := by
    intro N gd h1 h2 h3
    have u : unL (.list N) = N := rfl
    have t1 : dTuple (.list N) = .ret (.tuple N) := rfl
    have t2 : items (.list N) = .ret N := rfl
    have t3 : ∀ xs : List PyData, dTuple (.list xs) = .ret (.tuple xs) := fun _ => rfl
    rw [Tr.ret_bind, u, t1, t2]
    simp only [Tr.ret_bind]
    rw [map_ret (g := fun x => PyData.tuple [x, .int 1]) N fun _ _ => rfl, map_ret (g := fun x => PyData.tuple [x, .int 3]) N fun _ _ => rfl]
    simp only [Tr.ret_bind, t3]
    refine Tr.wp_bind.mpr (pw (by show 1 ≤ 3; omega) (by show 3 < 1000000; omega) fun y hy => ?_)
    exact wp_of_eq (tell gd y (fin N gd h1 h2 h3 y hy)) rfl
  by_cases q : (w : Int) = 0
  · rw [decide_eq_true q]
    exact rest L true hLl hLm rise
  · rw [decide_eq_false q]
    have es : dSub (.int (2 + (i : Int))) (.int 1) = .ret (.int (1 + (i : Int))) := by
      rw [dSub_int]
      congr 2
      omega
    show ((((dSub (.int (2 + (i : Int))) (.int 1)).bind fun x406 => tk x406).bind fun v_at => (dSwap (.list L) v_at).bind fun v_names => Tr.ret v_names).bind _).wp _ _
    rw [es, Tr.ret_bind]
    refine Tr.wp_bind.mpr (Tr.wp_bind.mpr (tw (by omega) (by omega) fun a ha => ?_))
    have ha1 : a < i + 1 := by omega
    have esw : dSwap (.list L) (.int (a : Int)) = .ret (.list ((L.set a (.int (((a + 1 : Nat) : Int) * (1 + (j : Int))))).set (a + 1) (.int ((a : Int) * (1 + (j : Int)))))) := by
      show (match L[(a : Int).toNat]?, L[(a : Int).toNat + 1]? with
        | some x, some y => if 0 ≤ (a : Int) then Tr.ret (PyData.list ((L.set (a : Int).toNat y).set ((a : Int).toNat + 1) x)) else .bad
        | _, _ => .bad) = _
      rw [Int.toNat_natCast, hL a (by omega), hL (a + 1) (by omega)]
      show (if 0 ≤ (a : Int) then _ else _) = _
      rw [if_pos (by omega)]
    rw [esw, Tr.ret_bind, Tr.wp]
    refine rest _ false (by rw [List.length_set, List.length_set]; exact hLl) (fun y hy => ?_) ?_
    · rcases List.mem_or_eq_of_mem_set hy with h | h
      · rcases List.mem_or_eq_of_mem_set h with h | h
        · exact hLm y h
        · rw [h]
          exact hLm _ (List.mem_of_getElem? (hL (a + 1) (by omega)))
      · rw [h]
        exact hLm _ (List.mem_of_getElem? (hL a (by omega)))
    · cases z : rising ((L.set a (.int (((a + 1 : Nat) : Int) * (1 + (j : Int))))).set (a + 1) (.int ((a : Int) * (1 + (j : Int))))) with
      | false => rfl
      | true =>
        have := rising_iff.mp z a (.int (((a + 1 : Nat) : Int) * (1 + (j : Int)))) (.int ((a : Int) * (1 + (j : Int)))) (by
          rw [List.getElem?_set_ne (by omega), List.getElem?_set_self (by omega)]) (by
          rw [List.getElem?_set_self (by rw [List.length_set]; omega)])
        rw [ltD_int] at this
        have h3 := of_decide_eq_true (Option.some.inj this)
        have e1 : ((a + 1 : Nat) : Int) = (a : Int) + 1 := by omega
        rw [e1, Int.add_mul] at h3
        omega
theorem Good.k {x : PyData} (h : Good x) : ∃ k, x = enc k ∧ GoodK k := by
  obtain ⟨k, e, h1, h2, h3⟩ := h
  exact ⟨k, e, h1, h2, h3⟩
theorem rep_row {k : Kd} (a m : Nat) (ha : isV k (.int a) = true) (hn : ∀ v, wt k v = 1) (hm : m ≤ 1000) (ha2 : a ≤ 1000) : Nc 1000 1000000 1 (.tuple (List.replicate m (.int a))) ∧ good (.row k) (.tuple (List.replicate m (.int a))) = decide (m < 400) ∧ wt (.row k) (.tuple (List.replicate m (.int a))) = (m : Int) + 1 := by
  have e : wt (.row k) (.tuple (List.replicate m (.int a))) = (m : Int) + 1 := by
    rw [wt_row, show wt k = (fun _ => (1 : Int)) from funext hn, List.map_replicate]
    have hs : ∀ m : Nat, (List.replicate m (1 : Int)).sum = (m : Int) := by
      intro m
      induction m with
      | zero => rfl
      | succ m ih =>
        rw [List.replicate_succ, List.sum_cons, ih]
        omega
    rw [hs]
    omega
  refine ⟨⟨by rw [List.length_replicate]; exact hm, fun y hy => ?_⟩, ?_, e⟩
  · rw [List.eq_of_mem_replicate hy]
    exact nc_int.mpr (by omega)
  · unfold good
    have hv : isV (.row k) (.tuple (List.replicate m (.int a))) = true := isV_row.mpr ⟨_, rfl, fun y hy => by rw [List.eq_of_mem_replicate hy]; exact ha⟩
    rw [hv, e, Bool.true_and]
    by_cases q : m < 400
    · rw [decide_eq_true q, decide_eq_true (by omega)]
    · rw [decide_eq_false q, decide_eq_false (by omega)]
theorem law_true : ∀ ns : List Int, ns.length ≤ 63 → (m_law (.list (ns.map PyData.int))).wp (fun d => d = .bool true) (fun _ => False) := by
  intro ns _
  obtain ⟨tk, htk, tw⟩ := take_draws
  obtain ⟨pk, hpk, pw⟩ := pick_draws
  unfold m_law
  rw [htk, hpk, box_ints, Tr.ret_bind, range_eq (by omega) (by omega), Tr.ret_bind]
  refine forC_wp (Q := fun d => d = PyData.bool true) ?_ _ fun turn hturn => ?_
  · refine Tr.wp_bind.mpr (Tr.wp_bind.mpr (tw (by decide) (by decide) fun i hi => ?_))
    have hi' : (i : Int) < 3 := hi
    rw [dAdd_int, Tr.wp, Tr.ret_bind]
    show ((tk (PyData.int 399)).bind _).wp _ _
    refine Tr.wp_bind.mpr (tw (by decide) (by decide) fun s hs => ?_)
    have hs' : (s : Int) < 399 := hs
    have em : (398 + (i : Int)) = ((398 + i : Nat) : Int) := by omega
    have d1 : dMul (.tuple [.int 1]) (.int (398 + (i : Int))) = .ret (.tuple (List.replicate (398 + i) (.int ((1 : Nat) : Int)))) := by
      show (if 0 < 1 ∧ 1 ≤ 1000 ∧ 0 ≤ (398 + (i : Int)) ∧ (398 + (i : Int)) ≤ 1000 then Tr.ret (PyData.tuple (List.replicate (398 + (i : Int)).toNat [PyData.int 1]).flatten) else .bad) = _
      rw [if_pos ⟨by omega, by omega, by omega, by omega⟩, flat_one, em, Int.toNat_natCast]
      rfl
    have d2 : dMul (.tuple [.int 0]) (.int (s : Int)) = .ret (.tuple (List.replicate s (.int ((0 : Nat) : Int)))) := by
      show (if 0 < 1 ∧ 1 ≤ 1000 ∧ 0 ≤ (s : Int) ∧ (s : Int) ≤ 1000 then Tr.ret (PyData.tuple (List.replicate (s : Int).toNat [PyData.int 0]).flatten) else .bad) = _
      rw [if_pos ⟨by omega, by omega, by omega, by omega⟩, flat_one, Int.toNat_natCast]
      rfl
    have er : PyData.tuple [(PyData.str "row"), (PyData.tuple [(PyData.str "number"), (PyData.int 2)])] = enc (.row (.num 2)) := by rw [enc, enc]
    have gr : GoodK (.row (.num 2)) := ⟨rfl, by rw [Kd.deep, Kd.deep]; omega, by rw [Kd.size, Kd.size]; omega⟩
    have eb : PyData.tuple [(PyData.str "bag"), (PyData.tuple [(PyData.str "record"), (PyData.tuple [(PyData.tuple [(PyData.str "number"), (PyData.int 3)])])])] = enc (.bag (.rcd [.num 3])) := by rw [enc, enc, encs, encs, enc]
    have gb : GoodK (.bag (.rcd [.num 3])) := ⟨rfl, by rw [Kd.deep, Kd.deep, deeps, deeps, Kd.deep]; omega, by rw [Kd.size, Kd.size, sizes, sizes, Kd.size]; omega⟩
    obtain ⟨r1, r2, r3⟩ := rep_row (k := .num 2) 1 (398 + i) (isV_num.mpr ⟨_, rfl, by omega, by omega⟩) (wt_num 2) (by omega) (by omega)
    obtain ⟨r4, r5, r6⟩ := rep_row (k := .num 2) 0 s (isV_num.mpr ⟨_, rfl, by omega, by omega⟩) (wt_num 2) (by omega) (by omega)
    have a1 : dAdd (.int (398 + (i : Int))) (.int 1) = .ret (.int (((398 + i : Nat) : Int) + 1)) := by
      rw [dAdd_int]
      congr 2
    have lt : decide ((398 + (i : Int)) < 400) = decide ((398 + i) < 400) := by
      by_cases q : (398 + i) < 400
      · rw [decide_eq_true q, decide_eq_true (by omega)]
      · rw [decide_eq_false q, decide_eq_false (by omega)]
    rw [er, eb]
    simp only [d1, d2, Tr.ret_bind]
    rw [told0_eq gr r1, told1_eq gr r1, told1_eq gr r4, r2, r3, r5, r6, cLt_int, lt, decide_eq_true (show s < 400 by omega)]
    have c1 : ∀ {β : Type} (b : Bool) (f : Bool → Tr β), (((dRepr (if b = true then PyData.none else .str "value")).bind fun x472 => ((if b = true then Tr.ret PyData.none else Tr.ret (PyData.str "value")).bind fun x471 => dRepr x471).bind fun x473 => cNe x472 x473).bind f) = f false := by
      intro β b f
      cases b <;> simp only [if_true, if_false, Bool.false_eq_true, Tr.ret_bind, repr_no, repr_val, same_ne]
    have c2 : ∀ {β : Type} (b : Bool) (f : Bool → Tr β), (((dRepr (if b = true then PyData.int (((398 + i : Nat) : Int) + 1) else .str "value")).bind fun x478 => ((if b = true then dAdd (.int (398 + (i : Int))) (.int 1) else Tr.ret (PyData.str "value")).bind fun x477 => dRepr x477).bind fun x479 => cNe x478 x479).bind f) = f false := by
      intro β b f
      cases b <;> simp only [if_true, if_false, Bool.false_eq_true, Tr.ret_bind, a1, repr_val, same_ne, repr_int (i := ((398 + i : Nat) : Int) + 1) (by omega)]
    simp only [Tr.ret_bind]
    rw [c1, if_neg (by simp), c2, if_neg (by simp)]
    have c3 : dRepr (.int ((s : Int) + 1)) = .ret (.str (toString ((s : Int) + 1))) := repr_int (by omega)
    simp only [if_true, dAdd_int, Tr.ret_bind, c3, same_ne, if_false, Bool.false_eq_true]
    rw [Tr.bind_assoc, Tr.bind_assoc]
    refine Tr.wp_bind.mpr (Tr.wp_mono (fun b hb => ?_) (fun _ z => z) long_wp)
    subst hb
    rw [asB_bool, Tr.ret_bind, Tr.ret_bind, Tr.ret_bind, Bool.not_true, if_neg (by simp)]
    have dd : dDiv (.int (398 + (i : Int))) (.int 2) = .ret (.int ((398 + (i : Int)) / 2)) := by
      unfold dDiv
      simp only
      rw [if_pos (by omega)]
    have dm : dMul (.int 2) (.int ((398 + (i : Int)) / 2)) = .ret (.int (2 * ((398 + (i : Int)) / 2))) := by
      unfold dMul
      simp only
      rw [if_pos (by omega)]
    have vb : isV (.bag (.rcd [.num 3])) (.tuple [.tuple [.tuple [.int 2], .int ((398 + (i : Int)) / 2)]]) = true := by
      refine isV_bag.mpr ⟨[(.tuple [.int 2], (398 + (i : Int)) / 2)], rfl, fun p hp => ?_, rfl⟩
      cases List.mem_singleton.mp hp
      exact ⟨isV_rcd.mpr ⟨[.int 2], rfl, rfl⟩, by show (1 : Int) ≤ (398 + (i : Int)) / 2; omega⟩
    have wb : wt (.bag (.rcd [.num 3])) (.tuple [.tuple [.tuple [.int 2], .int ((398 + (i : Int)) / 2)]]) = 1 + 2 * ((398 + (i : Int)) / 2) := by
      have := wt_bag (.rcd [.num 3]) [(.tuple [.int 2], (398 + (i : Int)) / 2)]
      refine this.trans ?_
      simp only [List.map_cons, List.map_nil, List.sum_cons, List.sum_nil, wt_rcd, wts, wt_num]
      omega
    have nb : Nc 1000 1000000 3 (.tuple [.tuple [.tuple [.int 2], .int ((398 + (i : Int)) / 2)]]) := by
      refine ⟨by show 1 ≤ 1000; omega, fun y hy => ?_⟩
      cases List.mem_singleton.mp hy
      refine ⟨by show 2 ≤ 1000; omega, fun y hy => ?_⟩
      rcases mem_pair hy with rfl | rfl
      · refine ⟨by show 1 ≤ 1000; omega, fun y hy => ?_⟩
        cases List.mem_singleton.mp hy
        exact nc_int.mpr (by omega)
      · exact nc_int.mpr (by omega)
    have gg : good (.bag (.rcd [.num 3])) (.tuple [.tuple [.tuple [.int 2], .int ((398 + (i : Int)) / 2)]]) = decide (1 + 2 * ((398 + (i : Int)) / 2) ≤ 400) := by
      unfold good
      rw [vb, wb, Bool.true_and]
    simp only [dd, dm, Tr.ret_bind, dAdd_int, cLe_int]
    rw [told0_eq gb nb, gg]
    cases decide (1 + 2 * ((398 + (i : Int)) / 2) ≤ 400) <;> simp only [if_true, if_false, Bool.false_eq_true, Tr.ret_bind, repr_no, repr_val, same_eq, Tr.wp]
  · refine Tr.wp_bind.mpr (Tr.wp_mono (fun kind hkind => ?_) (fun _ z => z) some_kind_wp)
    obtain ⟨k, rfl, g⟩ := Good.k hkind
    refine Tr.wp_bind.mpr (Tr.wp_mono (fun v hv => ?_) (fun _ z => z) (some_value_wp g.1 g.2.1))
    have hv1 : Nc 6 1000 10 v := nc_up hv.2 (by have := g.2.1; omega)
    refine Tr.wp_bind.mpr (Tr.wp_mono (fun sp hsp => ?_) (fun _ z => z) (spoilt_wp 16 v 10 6 1000 hv1 (by omega) (by omega) (by omega) (by omega) (by omega)))
    refine Tr.wp_bind.mpr (Tr.wp_bind.mpr (Tr.wp_mono (fun sq hsq => ?_) (fun _ z => z) (spoilt_wp 16 sp 12 7 2000 hsp (by omega) (by omega) (by omega) (by omega) (by omega))))
    refine Tr.wp_bind.mpr (Tr.wp_bind.mpr (Tr.wp_mono (fun kind2 hkind2 => ?_) (fun _ z => z) some_kind_wp))
    obtain ⟨k2, rfl, g2⟩ := Good.k hkind2
    refine Tr.wp_mono (fun u hu => ?_) (fun _ z => z) (some_value_wp g2.1 g2.2.1)
    have hu1 : Nc 6 1000 10 u := nc_up hu.2 (by have := g2.2.1; omega)
    refine Tr.wp_bind.mpr (pw (by show 1 ≤ 8; omega) (by show 8 < 1000000; omega) fun o ho => ?_)
    have ho1 : Nc 2 2 2 o := by
      simp only [List.mem_cons, List.not_mem_nil, or_false] at ho
      rcases ho with rfl | rfl | rfl | rfl | rfl | rfl | rfl | rfl <;> simp [Nc]
    rw [Tr.wp, show items (PyData.tuple [v, sp, sq, u, o]) = .ret [v, sp, sq, u, o] from rfl, Tr.ret_bind]
    refine forC_wp (Q := fun c => c = Ct.nx ()) ?_ _ fun x hx => ?_
    · exact wp_of_eq rfl rfl
    have hxc : Nc 1000 1000000 14 x := by
      simp only [List.mem_cons, List.not_mem_nil, or_false] at hx
      rcases hx with rfl | rfl | rfl | rfl | rfl
      · exact nc_mono (by omega) (by omega) _ _ _ (by omega) hv1
      · exact nc_mono (by omega) (by omega) _ _ _ (by omega) hsp
      · exact nc_mono (by omega) (by omega) _ _ _ (by omega) hsq
      · exact nc_mono (by omega) (by omega) _ _ _ (by omega) hu1
      · exact nc_mono (by omega) (by omega) _ _ _ (by omega) ho1
    refine wp_of_eq ?_ rfl
    rw [good_eq g hxc, Tr.ret_bind, told0_eq g hxc, told1_eq g hxc, kind0, kind1]
    cases hg : good k x with
    | true =>
      obtain ⟨z1, z2, z3⟩ := good_wt hg
      rw [weight_eq 8 k x 14 (by have := g.2.1; omega) hxc z1]
      simp only [if_true, if_false, Bool.false_eq_true, Tr.ret_bind, asB_bool, repr_no, same_ne, repr_int (i := wt k x) (by omega)]
    | false =>
      simp only [if_true, if_false, Bool.false_eq_true, Tr.ret_bind, asB_bool, repr_val, same_ne]
end K02
namespace K02
open PySem PySem.Spec PyProof.Rows L2 Cg
/-! ### what the top has written -/
def spLaw (K : PySem.W.Frag) : Sp := fun vs H Q _ => ∃ (a : Addr) (ns : List Int), vs = [.ref a] ∧ SqL K H a (ns.map V.int) ∧ ns.length ≤ 63 ∧ ∀ H', Q (.bl true) H'
set_option maxHeartbeats 0 in
theorem all_mk {l : PySem.W.OpenLaw} {w : World} {K : PySem.W.Frag} {h : Heap} {mg : Str → Option Value} {fa : Addr} (X : K.In h) (G : h.Ns mainGlobals mg) (hfa : mg "law" = some (.ref fa))
    {f1 : Addr} {od1 an1 : Option Addr} {sl1 : Array (Option Value)} {oc1 kV1 dc1 pm1 cd1 ct1 : Value}
    {f2 : Addr} {od2 an2 : Option Addr} {sl2 : Array (Option Value)} {oc2 kV2 dc2 pm2 cd2 ct2 : Value}
    {f3 : Addr} {od3 an3 : Option Addr} {sl3 : Array (Option Value)} {oc3 kV3 dc3 pm3 cd3 ct3 : Value}
    {f4 : Addr} {od4 an4 : Option Addr} {sl4 : Array (Option Value)} {oc4 kV4 dc4 pm4 cd4 ct4 : Value}
    {f5 : Addr} {od5 an5 : Option Addr} {sl5 : Array (Option Value)} {oc5 kV5 dc5 pm5 cd5 ct5 : Value}
    {f6 : Addr} {od6 an6 : Option Addr} {sl6 : Array (Option Value)} {oc6 kV6 dc6 pm6 cd6 ct6 : Value}
    {f7 : Addr} {od7 an7 : Option Addr} {sl7 : Array (Option Value)} {oc7 kV7 dc7 pm7 cd7 ct7 : Value}
    {f8 : Addr} {od8 an8 : Option Addr} {sl8 : Array (Option Value)} {oc8 kV8 dc8 pm8 cd8 ct8 : Value}
    {f9 : Addr} {od9 an9 : Option Addr} {sl9 : Array (Option Value)} {oc9 kV9 dc9 pm9 cd9 ct9 : Value}
    {f10 : Addr} {od10 an10 : Option Addr} {sl10 : Array (Option Value)} {oc10 kV10 dc10 pm10 cd10 ct10 : Value}
    {f11 : Addr} {od11 an11 : Option Addr} {sl11 : Array (Option Value)} {oc11 kV11 dc11 pm11 cd11 ct11 : Value}
    {f12 : Addr} {od12 an12 : Option Addr} {sl12 : Array (Option Value)} {oc12 kV12 dc12 pm12 cd12 ct12 : Value}
    {f13 : Addr} {od13 an13 : Option Addr} {sl13 : Array (Option Value)} {oc13 kV13 dc13 pm13 cd13 ct13 : Value}
    {f14 : Addr} {od14 an14 : Option Addr} {sl14 : Array (Option Value)} {oc14 kV14 dc14 pm14 cd14 ct14 : Value}
    {f15 : Addr} {od15 an15 : Option Addr} {sl15 : Array (Option Value)} {oc15 kV15 dc15 pm15 cd15 ct15 : Value}
    {f16 : Addr} {od16 an16 : Option Addr} {sl16 : Array (Option Value)} {oc16 kV16 dc16 pm16 cd16 ct16 : Value}
    {f17 : Addr} {od17 an17 : Option Addr} {sl17 : Array (Option Value)} {oc17 kV17 dc17 pm17 cd17 ct17 : Value}
    {f18 : Addr} {od18 an18 : Option Addr} {sl18 : Array (Option Value)} {oc18 kV18 dc18 pm18 cd18 ct18 : Value}
    {f19 : Addr} {od19 an19 : Option Addr} {sl19 : Array (Option Value)} {oc19 kV19 dc19 pm19 cd19 ct19 : Value}
    {f20 : Addr} {od20 an20 : Option Addr} {sl20 : Array (Option Value)} {oc20 kV20 dc20 pm20 cd20 ct20 : Value}
    {f21 : Addr} {od21 an21 : Option Addr} {sl21 : Array (Option Value)} {oc21 kV21 dc21 pm21 cd21 ct21 : Value}
    {f22 : Addr} {od22 an22 : Option Addr} {sl22 : Array (Option Value)} {oc22 kV22 dc22 pm22 cd22 ct22 : Value}
    {f23 : Addr} {od23 an23 : Option Addr} {sl23 : Array (Option Value)} {oc23 kV23 dc23 pm23 cd23 ct23 : Value}
    {f24 : Addr} {od24 an24 : Option Addr} {sl24 : Array (Option Value)} {oc24 kV24 dc24 pm24 cd24 ct24 : Value}
    {f25 : Addr} {od25 an25 : Option Addr} {sl25 : Array (Option Value)} {oc25 kV25 dc25 pm25 cd25 ct25 : Value}
    {f26 : Addr} {od26 an26 : Option Addr} {sl26 : Array (Option Value)} {oc26 kV26 dc26 pm26 cd26 ct26 : Value}
    {f27 : Addr} {od27 an27 : Option Addr} {sl27 : Array (Option Value)} {oc27 kV27 dc27 pm27 cd27 ct27 : Value}
    {f28 : Addr} {od28 an28 : Option Addr} {sl28 : Array (Option Value)} {oc28 kV28 dc28 pm28 cd28 ct28 : Value}
    {f29 : Addr} {od29 an29 : Option Addr} {sl29 : Array (Option Value)} {oc29 kV29 dc29 pm29 cd29 ct29 : Value}
    {f30 : Addr} {od30 an30 : Option Addr} {sl30 : Array (Option Value)} {oc30 kV30 dc30 pm30 cd30 ct30 : Value}
    {f31 : Addr} {od31 an31 : Option Addr} {sl31 : Array (Option Value)} {oc31 kV31 dc31 pm31 cd31 ct31 : Value}
    {f32 : Addr} {od32 an32 : Option Addr} {sl32 : Array (Option Value)} {oc32 kV32 dc32 pm32 cd32 ct32 : Value}
    {f33 : Addr} {od33 an33 : Option Addr} {sl33 : Array (Option Value)} {oc33 kV33 dc33 pm33 cd33 ct33 : Value}
    {f34 : Addr} {od34 an34 : Option Addr} {sl34 : Array (Option Value)} {oc34 kV34 dc34 pm34 cd34 ct34 : Value}
    {f35 : Addr} {od35 an35 : Option Addr} {sl35 : Array (Option Value)} {oc35 kV35 dc35 pm35 cd35 ct35 : Value}
    {f36 : Addr} {od36 an36 : Option Addr} {sl36 : Array (Option Value)} {oc36 kV36 dc36 pm36 cd36 ct36 : Value}
    {f37 : Addr} {od37 an37 : Option Addr} {sl37 : Array (Option Value)} {oc37 kV37 dc37 pm37 cd37 ct37 : Value}
    {t_MOST_DEEP : Tok}
    {t_MOST_INSIDE : Tok}
    {t_MOST_KINDS : Tok}
    {t_MOST_NUMBER : Tok}
    {t_MOST_WEIGHT : Tok}
    {p_FEWEST_INSIDE : Addr} {es_FEWEST_INSIDE : Array DictEntry} {n_FEWEST_INSIDE : Nat}
    {td_FEWEST_INSIDE_record : Tok}
    {td_FEWEST_INSIDE_choice : Tok}
    {p_VALUE_PARTS : Addr} {es_VALUE_PARTS : Array DictEntry} {n_VALUE_PARTS : Nat}
    {C_kind : Addr}
    {C_value : Addr}
    {C_patch : Addr}
    {C_unfit : Addr}
    {C_base : Addr}
    (a1 : PySem.W.nsIn K mainGlobals "check_kind" = some (some (.ref f1)))
    (l1 : K.lookup f1 = some ⟨oc1, od1, .func (PySem.W.fnOf "check_kind" "check_kind" (defArgs s_check_kind) (defBody s_check_kind) (defScope s_check_kind) .none kV1 dc1 pm1 an1 cd1 ct1), sl1⟩)
    (c1 : PySem.W.codeIn K cd1 "check_kind" = true)
    (k1 : PySem.W.keepIn K (.ref f1) = true)
    (a2 : PySem.W.nsIn K mainGlobals "check_value" = some (some (.ref f2)))
    (l2 : K.lookup f2 = some ⟨oc2, od2, .func (PySem.W.fnOf "check_value" "check_value" (defArgs s_check_value) (defBody s_check_value) (defScope s_check_value) .none kV2 dc2 pm2 an2 cd2 ct2), sl2⟩)
    (c2 : PySem.W.codeIn K cd2 "check_value" = true)
    (k2 : PySem.W.keepIn K (.ref f2) = true)
    (a3 : PySem.W.nsIn K mainGlobals "weight" = some (some (.ref f3)))
    (l3 : K.lookup f3 = some ⟨oc3, od3, .func (PySem.W.fnOf "weight" "weight" (defArgs s_weight) (defBody s_weight) (defScope s_weight) .none kV3 dc3 pm3 an3 cd3 ct3), sl3⟩)
    (c3 : PySem.W.codeIn K cd3 "weight" = true)
    (k3 : PySem.W.keepIn K (.ref f3) = true)
    (a4 : PySem.W.nsIn K mainGlobals "is_whole" = some (some (.ref f4)))
    (l4 : K.lookup f4 = some ⟨oc4, od4, .func (PySem.W.fnOf "is_whole" "is_whole" (defArgs s_is_whole) (defBody s_is_whole) (defScope s_is_whole) .none kV4 dc4 pm4 an4 cd4 ct4), sl4⟩)
    (c4 : PySem.W.codeIn K cd4 "is_whole" = true)
    (k4 : PySem.W.keepIn K (.ref f4) = true)
    (a5 : PySem.W.nsIn K mainGlobals "is_within" = some (some (.ref f5)))
    (l5 : K.lookup f5 = some ⟨oc5, od5, .func (PySem.W.fnOf "is_within" "is_within" (defArgs s_is_within) (defBody s_is_within) (defScope s_is_within) .none kV5 dc5 pm5 an5 cd5 ct5), sl5⟩)
    (c5 : PySem.W.codeIn K cd5 "is_within" = true)
    (k5 : PySem.W.keepIn K (.ref f5) = true)
    (a6 : PySem.W.nsIn K mainGlobals "is_tuple" = some (some (.ref f6)))
    (l6 : K.lookup f6 = some ⟨oc6, od6, .func (PySem.W.fnOf "is_tuple" "is_tuple" (defArgs s_is_tuple) (defBody s_is_tuple) (defScope s_is_tuple) .none kV6 dc6 pm6 an6 cd6 ct6), sl6⟩)
    (c6 : PySem.W.codeIn K cd6 "is_tuple" = true)
    (k6 : PySem.W.keepIn K (.ref f6) = true)
    (a7 : PySem.W.nsIn K mainGlobals "inner_kinds" = some (some (.ref f7)))
    (l7 : K.lookup f7 = some ⟨oc7, od7, .func (PySem.W.fnOf "inner_kinds" "inner_kinds" (defArgs s_inner_kinds) (defBody s_inner_kinds) (defScope s_inner_kinds) .none kV7 dc7 pm7 an7 cd7 ct7), sl7⟩)
    (c7 : PySem.W.codeIn K cd7 "inner_kinds" = true)
    (k7 : PySem.W.keepIn K (.ref f7) = true)
    (a8 : PySem.W.nsIn K mainGlobals "count_kinds" = some (some (.ref f8)))
    (l8 : K.lookup f8 = some ⟨oc8, od8, .func (PySem.W.fnOf "count_kinds" "count_kinds" (defArgs s_count_kinds) (defBody s_count_kinds) (defScope s_count_kinds) .none kV8 dc8 pm8 an8 cd8 ct8), sl8⟩)
    (c8 : PySem.W.codeIn K cd8 "count_kinds" = true)
    (k8 : PySem.W.keepIn K (.ref f8) = true)
    (a9 : PySem.W.nsIn K mainGlobals "is_value" = some (some (.ref f9)))
    (l9 : K.lookup f9 = some ⟨oc9, od9, .func (PySem.W.fnOf "is_value" "is_value" (defArgs s_is_value) (defBody s_is_value) (defScope s_is_value) .none kV9 dc9 pm9 an9 cd9 ct9), sl9⟩)
    (c9 : PySem.W.codeIn K cd9 "is_value" = true)
    (k9 : PySem.W.keepIn K (.ref f9) = true)
    (a10 : PySem.W.nsIn K mainGlobals "weigh" = some (some (.ref f10)))
    (l10 : K.lookup f10 = some ⟨oc10, od10, .func (PySem.W.fnOf "weigh" "weigh" (defArgs s_weigh) (defBody s_weigh) (defScope s_weigh) .none kV10 dc10 pm10 an10 cd10 ct10), sl10⟩)
    (c10 : PySem.W.codeIn K cd10 "weigh" = true)
    (k10 : PySem.W.keepIn K (.ref f10) = true)
    (a11 : PySem.W.nsIn K mainGlobals "value_parts" = some (some (.ref f11)))
    (l11 : K.lookup f11 = some ⟨oc11, od11, .func (PySem.W.fnOf "value_parts" "value_parts" (defArgs s_value_parts) (defBody s_value_parts) (defScope s_value_parts) .none kV11 dc11 pm11 an11 cd11 ct11), sl11⟩)
    (c11 : PySem.W.codeIn K cd11 "value_parts" = true)
    (k11 : PySem.W.keepIn K (.ref f11) = true)
    (a12 : PySem.W.nsIn K mainGlobals "record_parts" = some (some (.ref f12)))
    (l12 : K.lookup f12 = some ⟨oc12, od12, .func (PySem.W.fnOf "record_parts" "record_parts" (defArgs s_record_parts) (defBody s_record_parts) (defScope s_record_parts) .none kV12 dc12 pm12 an12 cd12 ct12), sl12⟩)
    (c12 : PySem.W.codeIn K cd12 "record_parts" = true)
    (k12 : PySem.W.keepIn K (.ref f12) = true)
    (a13 : PySem.W.nsIn K mainGlobals "choice_parts" = some (some (.ref f13)))
    (l13 : K.lookup f13 = some ⟨oc13, od13, .func (PySem.W.fnOf "choice_parts" "choice_parts" (defArgs s_choice_parts) (defBody s_choice_parts) (defScope s_choice_parts) .none kV13 dc13 pm13 an13 cd13 ct13), sl13⟩)
    (c13 : PySem.W.codeIn K cd13 "choice_parts" = true)
    (k13 : PySem.W.keepIn K (.ref f13) = true)
    (a14 : PySem.W.nsIn K mainGlobals "item_parts" = some (some (.ref f14)))
    (l14 : K.lookup f14 = some ⟨oc14, od14, .func (PySem.W.fnOf "item_parts" "item_parts" (defArgs s_item_parts) (defBody s_item_parts) (defScope s_item_parts) .none kV14 dc14 pm14 an14 cd14 ct14), sl14⟩)
    (c14 : PySem.W.codeIn K cd14 "item_parts" = true)
    (k14 : PySem.W.keepIn K (.ref f14) = true)
    (a15 : PySem.W.nsIn K mainGlobals "bag_parts" = some (some (.ref f15)))
    (l15 : K.lookup f15 = some ⟨oc15, od15, .func (PySem.W.fnOf "bag_parts" "bag_parts" (defArgs s_bag_parts) (defBody s_bag_parts) (defScope s_bag_parts) .none kV15 dc15 pm15 an15 cd15 ct15), sl15⟩)
    (c15 : PySem.W.codeIn K cd15 "bag_parts" = true)
    (k15 : PySem.W.keepIn K (.ref f15) = true)
    (a16 : PySem.W.nsIn K mainGlobals "table_parts" = some (some (.ref f16)))
    (l16 : K.lookup f16 = some ⟨oc16, od16, .func (PySem.W.fnOf "table_parts" "table_parts" (defArgs s_table_parts) (defBody s_table_parts) (defScope s_table_parts) .none kV16 dc16 pm16 an16 cd16 ct16), sl16⟩)
    (c16 : PySem.W.codeIn K cd16 "table_parts" = true)
    (k16 : PySem.W.keepIn K (.ref f16) = true)
    (a17 : PySem.W.nsIn K mainGlobals "is_ordered" = some (some (.ref f17)))
    (l17 : K.lookup f17 = some ⟨oc17, od17, .func (PySem.W.fnOf "is_ordered" "is_ordered" (defArgs s_is_ordered) (defBody s_is_ordered) (defScope s_is_ordered) .none kV17 dc17 pm17 an17 cd17 ct17), sl17⟩)
    (c17 : PySem.W.codeIn K cd17 "is_ordered" = true)
    (k17 : PySem.W.keepIn K (.ref f17) = true)
    (a18 : PySem.W.nsIn K mainGlobals "is_rising" = some (some (.ref f18)))
    (l18 : K.lookup f18 = some ⟨oc18, od18, .func (PySem.W.fnOf "is_rising" "is_rising" (defArgs s_is_rising) (defBody s_is_rising) (defScope s_is_rising) .none kV18 dc18 pm18 an18 cd18 ct18), sl18⟩)
    (c18 : PySem.W.codeIn K cd18 "is_rising" = true)
    (k18 : PySem.W.keepIn K (.ref f18) = true)
    (a19 : PySem.W.nsIn K mainGlobals "_law_box" = some (some (.ref f19)))
    (l19 : K.lookup f19 = some ⟨oc19, od19, .func (PySem.W.fnOf "_law_box" "_law_box" (defArgs s__law_box) (defBody s__law_box) (defScope s__law_box) .none kV19 dc19 pm19 an19 cd19 ct19), sl19⟩)
    (c19 : PySem.W.codeIn K cd19 "_law_box" = true)
    (k19 : PySem.W.keepIn K (.ref f19) = true)
    (a20 : PySem.W.nsIn K mainGlobals "_law_take" = some (some (.ref f20)))
    (l20 : K.lookup f20 = some ⟨oc20, od20, .func (PySem.W.fnOf "_law_take" "_law_take" (defArgs s__law_take) (defBody s__law_take) (defScope s__law_take) .none kV20 dc20 pm20 an20 cd20 ct20), sl20⟩)
    (c20 : PySem.W.codeIn K cd20 "_law_take" = true)
    (k20 : PySem.W.keepIn K (.ref f20) = true)
    (a21 : PySem.W.nsIn K mainGlobals "_law_pick" = some (some (.ref f21)))
    (l21 : K.lookup f21 = some ⟨oc21, od21, .func (PySem.W.fnOf "_law_pick" "_law_pick" (defArgs s__law_pick) (defBody s__law_pick) (defScope s__law_pick) .none kV21 dc21 pm21 an21 cd21 ct21), sl21⟩)
    (c21 : PySem.W.codeIn K cd21 "_law_pick" = true)
    (k21 : PySem.W.keepIn K (.ref f21) = true)
    (a22 : PySem.W.nsIn K mainGlobals "_law_kind" = some (some (.ref f22)))
    (l22 : K.lookup f22 = some ⟨oc22, od22, .func (PySem.W.fnOf "_law_kind" "_law_kind" (defArgs s__law_kind) (defBody s__law_kind) (defScope s__law_kind) .none kV22 dc22 pm22 an22 cd22 ct22), sl22⟩)
    (c22 : PySem.W.codeIn K cd22 "_law_kind" = true)
    (k22 : PySem.W.keepIn K (.ref f22) = true)
    (a23 : PySem.W.nsIn K mainGlobals "_law_inner" = some (some (.ref f23)))
    (l23 : K.lookup f23 = some ⟨oc23, od23, .func (PySem.W.fnOf "_law_inner" "_law_inner" (defArgs s__law_inner) (defBody s__law_inner) (defScope s__law_inner) .none kV23 dc23 pm23 an23 cd23 ct23), sl23⟩)
    (c23 : PySem.W.codeIn K cd23 "_law_inner" = true)
    (k23 : PySem.W.keepIn K (.ref f23) = true)
    (a24 : PySem.W.nsIn K mainGlobals "_law_many" = some (some (.ref f24)))
    (l24 : K.lookup f24 = some ⟨oc24, od24, .func (PySem.W.fnOf "_law_many" "_law_many" (defArgs s__law_many) (defBody s__law_many) (defScope s__law_many) .none kV24 dc24 pm24 an24 cd24 ct24), sl24⟩)
    (c24 : PySem.W.codeIn K cd24 "_law_many" = true)
    (k24 : PySem.W.keepIn K (.ref f24) = true)
    (a25 : PySem.W.nsIn K mainGlobals "_law_some_kind" = some (some (.ref f25)))
    (l25 : K.lookup f25 = some ⟨oc25, od25, .func (PySem.W.fnOf "_law_some_kind" "_law_some_kind" (defArgs s__law_some_kind) (defBody s__law_some_kind) (defScope s__law_some_kind) .none kV25 dc25 pm25 an25 cd25 ct25), sl25⟩)
    (c25 : PySem.W.codeIn K cd25 "_law_some_kind" = true)
    (k25 : PySem.W.keepIn K (.ref f25) = true)
    (a26 : PySem.W.nsIn K mainGlobals "_law_value" = some (some (.ref f26)))
    (l26 : K.lookup f26 = some ⟨oc26, od26, .func (PySem.W.fnOf "_law_value" "_law_value" (defArgs s__law_value) (defBody s__law_value) (defScope s__law_value) .none kV26 dc26 pm26 an26 cd26 ct26), sl26⟩)
    (c26 : PySem.W.codeIn K cd26 "_law_value" = true)
    (k26 : PySem.W.keepIn K (.ref f26) = true)
    (a27 : PySem.W.nsIn K mainGlobals "_law_weight" = some (some (.ref f27)))
    (l27 : K.lookup f27 = some ⟨oc27, od27, .func (PySem.W.fnOf "_law_weight" "_law_weight" (defArgs s__law_weight) (defBody s__law_weight) (defScope s__law_weight) .none kV27 dc27 pm27 an27 cd27 ct27), sl27⟩)
    (c27 : PySem.W.codeIn K cd27 "_law_weight" = true)
    (k27 : PySem.W.keepIn K (.ref f27) = true)
    (a28 : PySem.W.nsIn K mainGlobals "_law_some_value" = some (some (.ref f28)))
    (l28 : K.lookup f28 = some ⟨oc28, od28, .func (PySem.W.fnOf "_law_some_value" "_law_some_value" (defArgs s__law_some_value) (defBody s__law_some_value) (defScope s__law_some_value) .none kV28 dc28 pm28 an28 cd28 ct28), sl28⟩)
    (c28 : PySem.W.codeIn K cd28 "_law_some_value" = true)
    (k28 : PySem.W.keepIn K (.ref f28) = true)
    (a29 : PySem.W.nsIn K mainGlobals "_law_plain" = some (some (.ref f29)))
    (l29 : K.lookup f29 = some ⟨oc29, od29, .func (PySem.W.fnOf "_law_plain" "_law_plain" (defArgs s__law_plain) (defBody s__law_plain) (defScope s__law_plain) .none kV29 dc29 pm29 an29 cd29 ct29), sl29⟩)
    (c29 : PySem.W.codeIn K cd29 "_law_plain" = true)
    (k29 : PySem.W.keepIn K (.ref f29) = true)
    (a30 : PySem.W.nsIn K mainGlobals "_law_class" = some (some (.ref f30)))
    (l30 : K.lookup f30 = some ⟨oc30, od30, .func (PySem.W.fnOf "_law_class" "_law_class" (defArgs s__law_class) (defBody s__law_class) (defScope s__law_class) .none kV30 dc30 pm30 an30 cd30 ct30), sl30⟩)
    (c30 : PySem.W.codeIn K cd30 "_law_class" = true)
    (k30 : PySem.W.keepIn K (.ref f30) = true)
    (a31 : PySem.W.nsIn K mainGlobals "_law_number" = some (some (.ref f31)))
    (l31 : K.lookup f31 = some ⟨oc31, od31, .func (PySem.W.fnOf "_law_number" "_law_number" (defArgs s__law_number) (defBody s__law_number) (defScope s__law_number) .none kV31 dc31 pm31 an31 cd31 ct31), sl31⟩)
    (c31 : PySem.W.codeIn K cd31 "_law_number" = true)
    (k31 : PySem.W.keepIn K (.ref f31) = true)
    (a32 : PySem.W.nsIn K mainGlobals "_law_rises" = some (some (.ref f32)))
    (l32 : K.lookup f32 = some ⟨oc32, od32, .func (PySem.W.fnOf "_law_rises" "_law_rises" (defArgs s__law_rises) (defBody s__law_rises) (defScope s__law_rises) .none kV32 dc32 pm32 an32 cd32 ct32), sl32⟩)
    (c32 : PySem.W.codeIn K cd32 "_law_rises" = true)
    (k32 : PySem.W.keepIn K (.ref f32) = true)
    (a33 : PySem.W.nsIn K mainGlobals "_law_is_value" = some (some (.ref f33)))
    (l33 : K.lookup f33 = some ⟨oc33, od33, .func (PySem.W.fnOf "_law_is_value" "_law_is_value" (defArgs s__law_is_value) (defBody s__law_is_value) (defScope s__law_is_value) .none kV33 dc33 pm33 an33 cd33 ct33), sl33⟩)
    (c33 : PySem.W.codeIn K cd33 "_law_is_value" = true)
    (k33 : PySem.W.keepIn K (.ref f33) = true)
    (a34 : PySem.W.nsIn K mainGlobals "_law_spoilt" = some (some (.ref f34)))
    (l34 : K.lookup f34 = some ⟨oc34, od34, .func (PySem.W.fnOf "_law_spoilt" "_law_spoilt" (defArgs s__law_spoilt) (defBody s__law_spoilt) (defScope s__law_spoilt) .none kV34 dc34 pm34 an34 cd34 ct34), sl34⟩)
    (c34 : PySem.W.codeIn K cd34 "_law_spoilt" = true)
    (k34 : PySem.W.keepIn K (.ref f34) = true)
    (a35 : PySem.W.nsIn K mainGlobals "_law_told" = some (some (.ref f35)))
    (l35 : K.lookup f35 = some ⟨oc35, od35, .func (PySem.W.fnOf "_law_told" "_law_told" (defArgs s__law_told) (defBody s__law_told) (defScope s__law_told) .none kV35 dc35 pm35 an35 cd35 ct35), sl35⟩)
    (c35 : PySem.W.codeIn K cd35 "_law_told" = true)
    (k35 : PySem.W.keepIn K (.ref f35) = true)
    (a36 : PySem.W.nsIn K mainGlobals "_law_long_sets" = some (some (.ref f36)))
    (l36 : K.lookup f36 = some ⟨oc36, od36, .func (PySem.W.fnOf "_law_long_sets" "_law_long_sets" (defArgs s__law_long_sets) (defBody s__law_long_sets) (defScope s__law_long_sets) .none kV36 dc36 pm36 an36 cd36 ct36), sl36⟩)
    (c36 : PySem.W.codeIn K cd36 "_law_long_sets" = true)
    (k36 : PySem.W.keepIn K (.ref f36) = true)
    (a37 : PySem.W.nsIn K mainGlobals "law" = some (some (.ref f37)))
    (l37 : K.lookup f37 = some ⟨oc37, od37, .func (PySem.W.fnOf "law" "law" (defArgs s_law) (defBody s_law) (defScope s_law) .none kV37 dc37 pm37 an37 cd37 ct37), sl37⟩)
    (c37 : PySem.W.codeIn K cd37 "law" = true)
    (k37 : PySem.W.keepIn K (.ref f37) = true)
    (z_ValueError : PySem.W.nsIn K mainGlobals "ValueError" = some none)
    (z_abs : PySem.W.nsIn K mainGlobals "abs" = some none)
    (z_all : PySem.W.nsIn K mainGlobals "all" = some none)
    (z_bool : PySem.W.nsIn K mainGlobals "bool" = some none)
    (z_int : PySem.W.nsIn K mainGlobals "int" = some none)
    (z_isinstance : PySem.W.nsIn K mainGlobals "isinstance" = some none)
    (z_len : PySem.W.nsIn K mainGlobals "len" = some none)
    (z_list : PySem.W.nsIn K mainGlobals "list" = some none)
    (z_max : PySem.W.nsIn K mainGlobals "max" = some none)
    (z_range : PySem.W.nsIn K mainGlobals "range" = some none)
    (z_repr : PySem.W.nsIn K mainGlobals "repr" = some none)
    (z_set : PySem.W.nsIn K mainGlobals "set" = some none)
    (z_sorted : PySem.W.nsIn K mainGlobals "sorted" = some none)
    (z_str : PySem.W.nsIn K mainGlobals "str" = some none)
    (z_sum : PySem.W.nsIn K mainGlobals "sum" = some none)
    (z_tuple : PySem.W.nsIn K mainGlobals "tuple" = some none)
    (z_zip : PySem.W.nsIn K mainGlobals "zip" = some none)
    (k_MOST_DEEP : PySem.W.nsIn K mainGlobals "MOST_DEEP" = some (some (.int 5 t_MOST_DEEP)))
    (k_MOST_INSIDE : PySem.W.nsIn K mainGlobals "MOST_INSIDE" = some (some (.int 4 t_MOST_INSIDE)))
    (k_MOST_KINDS : PySem.W.nsIn K mainGlobals "MOST_KINDS" = some (some (.int 20 t_MOST_KINDS)))
    (k_MOST_NUMBER : PySem.W.nsIn K mainGlobals "MOST_NUMBER" = some (some (.int 1000 t_MOST_NUMBER)))
    (k_MOST_WEIGHT : PySem.W.nsIn K mainGlobals "MOST_WEIGHT" = some (some (.int 400 t_MOST_WEIGHT)))
    (g_FEWEST_INSIDE : PySem.W.nsIn K mainGlobals "FEWEST_INSIDE" = some (some (.ref p_FEWEST_INSIDE)))
    (ld_FEWEST_INSIDE : K.lookup p_FEWEST_INSIDE = some ⟨.type "dict", none, .dict es_FEWEST_INSIDE n_FEWEST_INSIDE, #[]⟩)
    (kl_FEWEST_INSIDE : PySem.W.KeysLit w.params es_FEWEST_INSIDE.toList)
    (e_FEWEST_INSIDE_record : PySem.W.nsIn K p_FEWEST_INSIDE "record" = some (some (.int 1 td_FEWEST_INSIDE_record)))
    (e_FEWEST_INSIDE_choice : PySem.W.nsIn K p_FEWEST_INSIDE "choice" = some (some (.int 2 td_FEWEST_INSIDE_choice)))
    (g_VALUE_PARTS : PySem.W.nsIn K mainGlobals "VALUE_PARTS" = some (some (.ref p_VALUE_PARTS)))
    (ld_VALUE_PARTS : K.lookup p_VALUE_PARTS = some ⟨.type "dict", none, .dict es_VALUE_PARTS n_VALUE_PARTS, #[]⟩)
    (kl_VALUE_PARTS : PySem.W.KeysLit w.params es_VALUE_PARTS.toList)
    (e_VALUE_PARTS_record : PySem.W.nsIn K p_VALUE_PARTS "record" = some (some (.ref f12)))
    (e_VALUE_PARTS_choice : PySem.W.nsIn K p_VALUE_PARTS "choice" = some (some (.ref f13)))
    (e_VALUE_PARTS_row : PySem.W.nsIn K p_VALUE_PARTS "row" = some (some (.ref f14)))
    (e_VALUE_PARTS_set : PySem.W.nsIn K p_VALUE_PARTS "set" = some (some (.ref f14)))
    (e_VALUE_PARTS_bag : PySem.W.nsIn K p_VALUE_PARTS "bag" = some (some (.ref f15)))
    (e_VALUE_PARTS_table : PySem.W.nsIn K p_VALUE_PARTS "table" = some (some (.ref f16)))
    (aC_kind : PySem.W.nsIn K mainGlobals "BadKind" = some (some (.ref C_kind)))
    (xC_kind : PySem.W.excIn K C_kind [.type "ValueError", .type "Exception", .type "BaseException", .type "object"] "ValueError.__new__" = true)
    (kC_kind : PySem.W.keepIn K (.ref C_kind) = true)
    (sC_kind : PySem.W.subIn K (.ref C_kind) (.type "BaseException") = some true)
    (tC_kind : PySem.W.typeIn K (.ref C_kind) = some (.type "type"))
    (aC_value : PySem.W.nsIn K mainGlobals "BadValue" = some (some (.ref C_value)))
    (xC_value : PySem.W.excIn K C_value [.type "ValueError", .type "Exception", .type "BaseException", .type "object"] "ValueError.__new__" = true)
    (kC_value : PySem.W.keepIn K (.ref C_value) = true)
    (sC_value : PySem.W.subIn K (.ref C_value) (.type "BaseException") = some true)
    (tC_value : PySem.W.typeIn K (.ref C_value) = some (.type "type"))
    (aC_patch : PySem.W.nsIn K mainGlobals "BadPatch" = some (some (.ref C_patch)))
    (xC_patch : PySem.W.excIn K C_patch [.type "ValueError", .type "Exception", .type "BaseException", .type "object"] "ValueError.__new__" = true)
    (kC_patch : PySem.W.keepIn K (.ref C_patch) = true)
    (sC_patch : PySem.W.subIn K (.ref C_patch) (.type "BaseException") = some true)
    (tC_patch : PySem.W.typeIn K (.ref C_patch) = some (.type "type"))
    (aC_unfit : PySem.W.nsIn K mainGlobals "Unfit" = some (some (.ref C_unfit)))
    (xC_unfit : PySem.W.excIn K C_unfit [.type "ValueError", .type "Exception", .type "BaseException", .type "object"] "ValueError.__new__" = true)
    (kC_unfit : PySem.W.keepIn K (.ref C_unfit) = true)
    (sC_unfit : PySem.W.subIn K (.ref C_unfit) (.type "BaseException") = some true)
    (tC_unfit : PySem.W.typeIn K (.ref C_unfit) = some (.type "type"))
    (aC_base : PySem.W.nsIn K mainGlobals "CorrigendaError" = some (some (.ref C_base)))
    (xC_base : PySem.W.excIn K C_base [.type "ValueError", .type "Exception", .type "BaseException", .type "object"] "ValueError.__new__" = true)
    (kC_base : PySem.W.keepIn K (.ref C_base) = true)
    (sC_base : PySem.W.subIn K (.ref C_base) (.type "BaseException") = some true)
    (tC_base : PySem.W.typeIn K (.ref C_base) = some (.type "type"))
    (hg_kind : PySem.W.findIn K (.ref C_kind) "__getattribute__" = some (some (.builtin "BaseException.__getattribute__")))
    (hk_kind : PySem.W.findIn K (.ref C_kind) "__getattr__" = some none)
    (hd_kind : PySem.W.hasDictIn K C_kind = true)
    (ha_kind : PySem.W.findIn K (.ref C_kind) "__class__" = some (some (.builtin "object.__class__")))
    (hm_kind : PySem.W.mroIn K C_kind (.type "object") = some true)
    (st_kind : PySem.W.findIn K (.ref C_kind) "__str__" = some (some (.builtin "BaseException.__str__")))
    (kv_kind : PySem.W.subIn K (.ref C_kind) (.type "ValueError") = some true)
    (ic_kind : PySem.W.isClsIn K C_kind = true)
    (sb_kind_kind : PySem.W.subIn K (.ref C_kind) (.ref C_kind) = some true)
    (sb_kind_value : PySem.W.subIn K (.ref C_kind) (.ref C_value) = some false)
    (sb_kind_patch : PySem.W.subIn K (.ref C_kind) (.ref C_patch) = some false)
    (sb_kind_unfit : PySem.W.subIn K (.ref C_kind) (.ref C_unfit) = some false)
    (sb_kind_base : PySem.W.subIn K (.ref C_kind) (.ref C_base) = some true)
    (hg_value : PySem.W.findIn K (.ref C_value) "__getattribute__" = some (some (.builtin "BaseException.__getattribute__")))
    (hk_value : PySem.W.findIn K (.ref C_value) "__getattr__" = some none)
    (hd_value : PySem.W.hasDictIn K C_value = true)
    (ha_value : PySem.W.findIn K (.ref C_value) "__class__" = some (some (.builtin "object.__class__")))
    (hm_value : PySem.W.mroIn K C_value (.type "object") = some true)
    (st_value : PySem.W.findIn K (.ref C_value) "__str__" = some (some (.builtin "BaseException.__str__")))
    (kv_value : PySem.W.subIn K (.ref C_value) (.type "ValueError") = some true)
    (ic_value : PySem.W.isClsIn K C_value = true)
    (sb_value_kind : PySem.W.subIn K (.ref C_value) (.ref C_kind) = some false)
    (sb_value_value : PySem.W.subIn K (.ref C_value) (.ref C_value) = some true)
    (sb_value_patch : PySem.W.subIn K (.ref C_value) (.ref C_patch) = some false)
    (sb_value_unfit : PySem.W.subIn K (.ref C_value) (.ref C_unfit) = some false)
    (sb_value_base : PySem.W.subIn K (.ref C_value) (.ref C_base) = some true)
    (hg_patch : PySem.W.findIn K (.ref C_patch) "__getattribute__" = some (some (.builtin "BaseException.__getattribute__")))
    (hk_patch : PySem.W.findIn K (.ref C_patch) "__getattr__" = some none)
    (hd_patch : PySem.W.hasDictIn K C_patch = true)
    (ha_patch : PySem.W.findIn K (.ref C_patch) "__class__" = some (some (.builtin "object.__class__")))
    (hm_patch : PySem.W.mroIn K C_patch (.type "object") = some true)
    (st_patch : PySem.W.findIn K (.ref C_patch) "__str__" = some (some (.builtin "BaseException.__str__")))
    (kv_patch : PySem.W.subIn K (.ref C_patch) (.type "ValueError") = some true)
    (ic_patch : PySem.W.isClsIn K C_patch = true)
    (sb_patch_kind : PySem.W.subIn K (.ref C_patch) (.ref C_kind) = some false)
    (sb_patch_value : PySem.W.subIn K (.ref C_patch) (.ref C_value) = some false)
    (sb_patch_patch : PySem.W.subIn K (.ref C_patch) (.ref C_patch) = some true)
    (sb_patch_unfit : PySem.W.subIn K (.ref C_patch) (.ref C_unfit) = some false)
    (sb_patch_base : PySem.W.subIn K (.ref C_patch) (.ref C_base) = some true)
    (hg_unfit : PySem.W.findIn K (.ref C_unfit) "__getattribute__" = some (some (.builtin "BaseException.__getattribute__")))
    (hk_unfit : PySem.W.findIn K (.ref C_unfit) "__getattr__" = some none)
    (hd_unfit : PySem.W.hasDictIn K C_unfit = true)
    (ha_unfit : PySem.W.findIn K (.ref C_unfit) "__class__" = some (some (.builtin "object.__class__")))
    (hm_unfit : PySem.W.mroIn K C_unfit (.type "object") = some true)
    (st_unfit : PySem.W.findIn K (.ref C_unfit) "__str__" = some (some (.builtin "BaseException.__str__")))
    (kv_unfit : PySem.W.subIn K (.ref C_unfit) (.type "ValueError") = some true)
    (ic_unfit : PySem.W.isClsIn K C_unfit = true)
    (sb_unfit_kind : PySem.W.subIn K (.ref C_unfit) (.ref C_kind) = some false)
    (sb_unfit_value : PySem.W.subIn K (.ref C_unfit) (.ref C_value) = some false)
    (sb_unfit_patch : PySem.W.subIn K (.ref C_unfit) (.ref C_patch) = some false)
    (sb_unfit_unfit : PySem.W.subIn K (.ref C_unfit) (.ref C_unfit) = some true)
    (sb_unfit_base : PySem.W.subIn K (.ref C_unfit) (.ref C_base) = some true)
    (hg_base : PySem.W.findIn K (.ref C_base) "__getattribute__" = some (some (.builtin "BaseException.__getattribute__")))
    (hk_base : PySem.W.findIn K (.ref C_base) "__getattr__" = some none)
    (hd_base : PySem.W.hasDictIn K C_base = true)
    (ha_base : PySem.W.findIn K (.ref C_base) "__class__" = some (some (.builtin "object.__class__")))
    (hm_base : PySem.W.mroIn K C_base (.type "object") = some true)
    (st_base : PySem.W.findIn K (.ref C_base) "__str__" = some (some (.builtin "BaseException.__str__")))
    (kv_base : PySem.W.subIn K (.ref C_base) (.type "ValueError") = some true)
    (ic_base : PySem.W.isClsIn K C_base = true)
    (sb_base_kind : PySem.W.subIn K (.ref C_base) (.ref C_kind) = some false)
    (sb_base_value : PySem.W.subIn K (.ref C_base) (.ref C_value) = some false)
    (sb_base_patch : PySem.W.subIn K (.ref C_base) (.ref C_patch) = some false)
    (sb_base_unfit : PySem.W.subIn K (.ref C_base) (.ref C_unfit) = some false)
    (sb_base_base : PySem.W.subIn K (.ref C_base) (.ref C_base) = some true)
    (hn : PySem.W.specialIn K (.builtin "object.__class__") "__get__" = some (some (.builtin "getset_descriptor.__get__")))
    (htk : PySem.W.takesIn K (.builtin "object.__class__") = some true)
    (law_true : ∀ ns : List Int, ns.length ≤ 63 → (m_law (.list (ns.map PyData.int))).wp (fun d => d = .bool true) (fun _ => False)) :
    ∃ fd : FuncData, (∀ (s : Shared) (v : Value), BindsTo s fd ⟨[v], []⟩ [("script", v)]) ∧ ∀ base : Heap, K.In base → base.Ns mainGlobals mg → FnOk l.prog w K mg base CX0 32 fa fd ["script"] (spLaw K) := by
  let T : Txt w K mg := {
    d_check_kind := ⟨f1, _, fun_mk (st := s_check_kind) l1 c1 k1, PySem.W.mg_of X G a1, (fun_mk (st := s_check_kind) l1 c1 k1).binds (ps := ["kind"]) fun _ _ _ _ _ _ us hl => match us, hl with | [_], _ => rfl⟩,
    d_check_value := ⟨f2, _, fun_mk (st := s_check_value) l2 c2 k2, PySem.W.mg_of X G a2, (fun_mk (st := s_check_value) l2 c2 k2).binds (ps := ["kind", "value"]) fun _ _ _ _ _ _ us hl => match us, hl with | [_, _], _ => rfl⟩,
    d_weight := ⟨f3, _, fun_mk (st := s_weight) l3 c3 k3, PySem.W.mg_of X G a3, (fun_mk (st := s_weight) l3 c3 k3).binds (ps := ["kind", "value"]) fun _ _ _ _ _ _ us hl => match us, hl with | [_, _], _ => rfl⟩,
    d_is_whole := ⟨f4, _, fun_mk (st := s_is_whole) l4 c4 k4, PySem.W.mg_of X G a4, (fun_mk (st := s_is_whole) l4 c4 k4).binds (ps := ["thing"]) fun _ _ _ _ _ _ us hl => match us, hl with | [_], _ => rfl⟩,
    d_is_within := ⟨f5, _, fun_mk (st := s_is_within) l5 c5 k5, PySem.W.mg_of X G a5, (fun_mk (st := s_is_within) l5 c5 k5).binds (ps := ["thing", "low", "high"]) fun _ _ _ _ _ _ us hl => match us, hl with | [_, _, _], _ => rfl⟩,
    d_is_tuple := ⟨f6, _, fun_mk (st := s_is_tuple) l6 c6 k6, PySem.W.mg_of X G a6, (fun_mk (st := s_is_tuple) l6 c6 k6).binds (ps := ["thing", "many"]) fun _ _ _ _ _ _ us hl => match us, hl with | [_, _], _ => rfl⟩,
    d_inner_kinds := ⟨f7, _, fun_mk (st := s_inner_kinds) l7 c7 k7, PySem.W.mg_of X G a7, (fun_mk (st := s_inner_kinds) l7 c7 k7).binds (ps := ["kind"]) fun _ _ _ _ _ _ us hl => match us, hl with | [_], _ => rfl⟩,
    d_count_kinds := ⟨f8, _, fun_mk (st := s_count_kinds) l8 c8 k8, PySem.W.mg_of X G a8, (fun_mk (st := s_count_kinds) l8 c8 k8).binds (ps := ["kind", "deep"]) fun _ _ _ _ _ _ us hl => match us, hl with | [_, _], _ => rfl⟩,
    d_is_value := ⟨f9, _, fun_mk (st := s_is_value) l9 c9 k9, PySem.W.mg_of X G a9, (fun_mk (st := s_is_value) l9 c9 k9).binds (ps := ["kind", "value"]) fun _ _ _ _ _ _ us hl => match us, hl with | [_, _], _ => rfl⟩,
    d_weigh := ⟨f10, _, fun_mk (st := s_weigh) l10 c10 k10, PySem.W.mg_of X G a10, (fun_mk (st := s_weigh) l10 c10 k10).binds (ps := ["kind", "value", "limit"]) fun _ _ _ _ _ _ us hl => match us, hl with | [_, _, _], _ => rfl⟩,
    d_value_parts := ⟨f11, _, fun_mk (st := s_value_parts) l11 c11 k11, PySem.W.mg_of X G a11, (fun_mk (st := s_value_parts) l11 c11 k11).binds (ps := ["kind", "value"]) fun _ _ _ _ _ _ us hl => match us, hl with | [_, _], _ => rfl⟩,
    d_record_parts := ⟨f12, _, fun_mk (st := s_record_parts) l12 c12 k12, PySem.W.mg_of X G a12, (fun_mk (st := s_record_parts) l12 c12 k12).binds (ps := ["kind", "value"]) fun _ _ _ _ _ _ us hl => match us, hl with | [_, _], _ => rfl⟩,
    d_choice_parts := ⟨f13, _, fun_mk (st := s_choice_parts) l13 c13 k13, PySem.W.mg_of X G a13, (fun_mk (st := s_choice_parts) l13 c13 k13).binds (ps := ["kind", "value"]) fun _ _ _ _ _ _ us hl => match us, hl with | [_, _], _ => rfl⟩,
    d_item_parts := ⟨f14, _, fun_mk (st := s_item_parts) l14 c14 k14, PySem.W.mg_of X G a14, (fun_mk (st := s_item_parts) l14 c14 k14).binds (ps := ["kind", "value"]) fun _ _ _ _ _ _ us hl => match us, hl with | [_, _], _ => rfl⟩,
    d_bag_parts := ⟨f15, _, fun_mk (st := s_bag_parts) l15 c15 k15, PySem.W.mg_of X G a15, (fun_mk (st := s_bag_parts) l15 c15 k15).binds (ps := ["kind", "value"]) fun _ _ _ _ _ _ us hl => match us, hl with | [_, _], _ => rfl⟩,
    d_table_parts := ⟨f16, _, fun_mk (st := s_table_parts) l16 c16 k16, PySem.W.mg_of X G a16, (fun_mk (st := s_table_parts) l16 c16 k16).binds (ps := ["kind", "value"]) fun _ _ _ _ _ _ us hl => match us, hl with | [_, _], _ => rfl⟩,
    d_is_ordered := ⟨f17, _, fun_mk (st := s_is_ordered) l17 c17 k17, PySem.W.mg_of X G a17, (fun_mk (st := s_is_ordered) l17 c17 k17).binds (ps := ["kind", "value"]) fun _ _ _ _ _ _ us hl => match us, hl with | [_, _], _ => rfl⟩,
    d_is_rising := ⟨f18, _, fun_mk (st := s_is_rising) l18 c18 k18, PySem.W.mg_of X G a18, (fun_mk (st := s_is_rising) l18 c18 k18).binds (ps := ["values"]) fun _ _ _ _ _ _ us hl => match us, hl with | [_], _ => rfl⟩,
    d__law_box := ⟨f19, _, fun_mk (st := s__law_box) l19 c19 k19, PySem.W.mg_of X G a19, (fun_mk (st := s__law_box) l19 c19 k19).binds (ps := ["script"]) fun _ _ _ _ _ _ us hl => match us, hl with | [_], _ => rfl⟩,
    d__law_take := ⟨f20, _, fun_mk (st := s__law_take) l20 c20 k20, PySem.W.mg_of X G a20, (fun_mk (st := s__law_take) l20 c20 k20).binds (ps := ["box", "m"]) fun _ _ _ _ _ _ us hl => match us, hl with | [_, _], _ => rfl⟩,
    d__law_pick := ⟨f21, _, fun_mk (st := s__law_pick) l21 c21 k21, PySem.W.mg_of X G a21, (fun_mk (st := s__law_pick) l21 c21 k21).binds (ps := ["box", "menu"]) fun _ _ _ _ _ _ us hl => match us, hl with | [_, _], _ => rfl⟩,
    d__law_kind := ⟨f22, _, fun_mk (st := s__law_kind) l22 c22 k22, PySem.W.mg_of X G a22, (fun_mk (st := s__law_kind) l22 c22 k22).binds (ps := ["box", "deep"]) fun _ _ _ _ _ _ us hl => match us, hl with | [_, _], _ => rfl⟩,
    d__law_inner := ⟨f23, _, fun_mk (st := s__law_inner) l23 c23 k23, PySem.W.mg_of X G a23, (fun_mk (st := s__law_inner) l23 c23 k23).binds (ps := ["kind"]) fun _ _ _ _ _ _ us hl => match us, hl with | [_], _ => rfl⟩,
    d__law_many := ⟨f24, _, fun_mk (st := s__law_many) l24 c24 k24, PySem.W.mg_of X G a24, (fun_mk (st := s__law_many) l24 c24 k24).binds (ps := ["kind"]) fun _ _ _ _ _ _ us hl => match us, hl with | [_], _ => rfl⟩,
    d__law_some_kind := ⟨f25, _, fun_mk (st := s__law_some_kind) l25 c25 k25, PySem.W.mg_of X G a25, (fun_mk (st := s__law_some_kind) l25 c25 k25).binds (ps := ["box"]) fun _ _ _ _ _ _ us hl => match us, hl with | [_], _ => rfl⟩,
    d__law_value := ⟨f26, _, fun_mk (st := s__law_value) l26 c26 k26, PySem.W.mg_of X G a26, (fun_mk (st := s__law_value) l26 c26 k26).binds (ps := ["box", "kind", "most"]) fun _ _ _ _ _ _ us hl => match us, hl with | [_, _, _], _ => rfl⟩,
    d__law_weight := ⟨f27, _, fun_mk (st := s__law_weight) l27 c27 k27, PySem.W.mg_of X G a27, (fun_mk (st := s__law_weight) l27 c27 k27).binds (ps := ["kind", "v"]) fun _ _ _ _ _ _ us hl => match us, hl with | [_, _], _ => rfl⟩,
    d__law_some_value := ⟨f28, _, fun_mk (st := s__law_some_value) l28 c28 k28, PySem.W.mg_of X G a28, (fun_mk (st := s__law_some_value) l28 c28 k28).binds (ps := ["box", "kind"]) fun _ _ _ _ _ _ us hl => match us, hl with | [_, _], _ => rfl⟩,
    d__law_plain := ⟨f29, _, fun_mk (st := s__law_plain) l29 c29 k29, PySem.W.mg_of X G a29, (fun_mk (st := s__law_plain) l29 c29 k29).binds (ps := ["kind"]) fun _ _ _ _ _ _ us hl => match us, hl with | [_], _ => rfl⟩,
    d__law_class := ⟨f30, _, fun_mk (st := s__law_class) l30 c30 k30, PySem.W.mg_of X G a30, (fun_mk (st := s__law_class) l30 c30 k30).binds (ps := ["e"]) fun _ _ _ _ _ _ us hl => match us, hl with | [_], _ => rfl⟩,
    d__law_number := ⟨f31, _, fun_mk (st := s__law_number) l31 c31 k31, PySem.W.mg_of X G a31, (fun_mk (st := s__law_number) l31 c31 k31).binds (ps := ["x", "low", "high"]) fun _ _ _ _ _ _ us hl => match us, hl with | [_, _, _], _ => rfl⟩,
    d__law_rises := ⟨f32, _, fun_mk (st := s__law_rises) l32 c32 k32, PySem.W.mg_of X G a32, (fun_mk (st := s__law_rises) l32 c32 k32).binds (ps := ["x"]) fun _ _ _ _ _ _ us hl => match us, hl with | [_], _ => rfl⟩,
    d__law_is_value := ⟨f33, _, fun_mk (st := s__law_is_value) l33 c33 k33, PySem.W.mg_of X G a33, (fun_mk (st := s__law_is_value) l33 c33 k33).binds (ps := ["kind", "v"]) fun _ _ _ _ _ _ us hl => match us, hl with | [_, _], _ => rfl⟩,
    d__law_spoilt := ⟨f34, _, fun_mk (st := s__law_spoilt) l34 c34 k34, PySem.W.mg_of X G a34, (fun_mk (st := s__law_spoilt) l34 c34 k34).binds (ps := ["box", "x"]) fun _ _ _ _ _ _ us hl => match us, hl with | [_, _], _ => rfl⟩,
    d__law_told := ⟨f35, _, fun_mk (st := s__law_told) l35 c35 k35, PySem.W.mg_of X G a35, (fun_mk (st := s__law_told) l35 c35 k35).binds (ps := ["way", "kind", "v"]) fun _ _ _ _ _ _ us hl => match us, hl with | [_, _, _], _ => rfl⟩,
    d__law_long_sets := ⟨f36, _, fun_mk (st := s__law_long_sets) l36 c36 k36, PySem.W.mg_of X G a36, (fun_mk (st := s__law_long_sets) l36 c36 k36).binds (ps := ["box"]) fun _ _ _ _ _ _ us hl => match us, hl with | [_], _ => rfl⟩,
    d_law := ⟨f37, _, fun_mk (st := s_law) l37 c37 k37, PySem.W.mg_of X G a37, (fun_mk (st := s_law) l37 c37 k37).binds (ps := ["script"]) fun _ _ _ _ _ _ us hl => match us, hl with | [_], _ => rfl⟩,
    z_ValueError := PySem.W.mg_none_of X G z_ValueError,
    z_abs := PySem.W.mg_none_of X G z_abs,
    z_all := PySem.W.mg_none_of X G z_all,
    z_bool := PySem.W.mg_none_of X G z_bool,
    z_int := PySem.W.mg_none_of X G z_int,
    z_isinstance := PySem.W.mg_none_of X G z_isinstance,
    z_len := PySem.W.mg_none_of X G z_len,
    z_list := PySem.W.mg_none_of X G z_list,
    z_max := PySem.W.mg_none_of X G z_max,
    z_range := PySem.W.mg_none_of X G z_range,
    z_repr := PySem.W.mg_none_of X G z_repr,
    z_set := PySem.W.mg_none_of X G z_set,
    z_sorted := PySem.W.mg_none_of X G z_sorted,
    z_str := PySem.W.mg_none_of X G z_str,
    z_sum := PySem.W.mg_none_of X G z_sum,
    z_tuple := PySem.W.mg_none_of X G z_tuple,
    z_zip := PySem.W.mg_none_of X G z_zip,
    t_MOST_DEEP := t_MOST_DEEP,
    k_MOST_DEEP := PySem.W.mg_of X G k_MOST_DEEP,
    t_MOST_INSIDE := t_MOST_INSIDE,
    k_MOST_INSIDE := PySem.W.mg_of X G k_MOST_INSIDE,
    t_MOST_KINDS := t_MOST_KINDS,
    k_MOST_KINDS := PySem.W.mg_of X G k_MOST_KINDS,
    t_MOST_NUMBER := t_MOST_NUMBER,
    k_MOST_NUMBER := PySem.W.mg_of X G k_MOST_NUMBER,
    t_MOST_WEIGHT := t_MOST_WEIGHT,
    k_MOST_WEIGHT := PySem.W.mg_of X G k_MOST_WEIGHT,
    p_FEWEST_INSIDE := p_FEWEST_INSIDE,
    g_FEWEST_INSIDE := PySem.W.mg_of X G g_FEWEST_INSIDE,
    kd_FEWEST_INSIDE := ⟨⟨es_FEWEST_INSIDE, n_FEWEST_INSIDE, ld_FEWEST_INSIDE, kl_FEWEST_INSIDE⟩, fun q hq => by
        simp only [tab_FEWEST_INSIDE, List.mem_cons, List.not_mem_nil, or_false] at hq
        rcases hq with rfl | rfl
        · exact ⟨_, e_FEWEST_INSIDE_record⟩
        · exact ⟨_, e_FEWEST_INSIDE_choice⟩⟩,
    p_VALUE_PARTS := p_VALUE_PARTS,
    g_VALUE_PARTS := PySem.W.mg_of X G g_VALUE_PARTS,
    fd_VALUE_PARTS := ⟨⟨es_VALUE_PARTS, n_VALUE_PARTS, ld_VALUE_PARTS, kl_VALUE_PARTS⟩, fun q hq => by
        simp only [List.mem_cons, List.not_mem_nil, or_false] at hq
        rcases hq with rfl | rfl | rfl | rfl | rfl | rfl
        · exact e_VALUE_PARTS_record
        · exact e_VALUE_PARTS_choice
        · exact e_VALUE_PARTS_row
        · exact e_VALUE_PARTS_set
        · exact e_VALUE_PARTS_bag
        · exact e_VALUE_PARTS_table⟩,
    cl := fun c => match c with
      | .kind => C_kind
      | .value => C_value
      | .patch => C_patch
      | .unfit => C_unfit
      | .base => C_base,
    e_BadKind := ⟨xC_kind, kC_kind, sC_kind, tC_kind⟩,
    g_BadKind := PySem.W.mg_of X G aC_kind,
    e_BadValue := ⟨xC_value, kC_value, sC_value, tC_value⟩,
    g_BadValue := PySem.W.mg_of X G aC_value,
    e_BadPatch := ⟨xC_patch, kC_patch, sC_patch, tC_patch⟩,
    g_BadPatch := PySem.W.mg_of X G aC_patch,
    e_Unfit := ⟨xC_unfit, kC_unfit, sC_unfit, tC_unfit⟩,
    g_Unfit := PySem.W.mg_of X G aC_unfit,
    e_CorrigendaError := ⟨xC_base, kC_base, sC_base, tC_base⟩,
    g_CorrigendaError := PySem.W.mg_of X G aC_base,
    isE := fun c => match c with
      | .kind => ⟨hg_kind, hk_kind, sC_kind, hd_kind, ha_kind, hn, htk, hm_kind⟩
      | .value => ⟨hg_value, hk_value, sC_value, hd_value, ha_value, hn, htk, hm_value⟩
      | .patch => ⟨hg_patch, hk_patch, sC_patch, hd_patch, ha_patch, hn, htk, hm_patch⟩
      | .unfit => ⟨hg_unfit, hk_unfit, sC_unfit, hd_unfit, ha_unfit, hn, htk, hm_unfit⟩
      | .base => ⟨hg_base, hk_base, sC_base, hd_base, ha_base, hn, htk, hm_base⟩,
    strE := fun c => match c with
      | .kind => st_kind
      | .value => st_value
      | .patch => st_patch
      | .unfit => st_unfit
      | .base => st_base,
    kVE := fun c => match c with
      | .kind => kit_typ (by decide +kernel) kv_kind
      | .value => kit_typ (by decide +kernel) kv_value
      | .patch => kit_typ (by decide +kernel) kv_patch
      | .unfit => kit_typ (by decide +kernel) kv_unfit
      | .base => kit_typ (by decide +kernel) kv_base,
    exm := fun c => match c with
      | .kind => PySem.W.exm_ref sC_base hd_base tC_base sb_kind_base
      | .value => PySem.W.exm_ref sC_base hd_base tC_base sb_value_base
      | .patch => PySem.W.exm_ref sC_base hd_base tC_base sb_patch_base
      | .unfit => PySem.W.exm_ref sC_base hd_base tC_base sb_unfit_base
      | .base => PySem.W.exm_ref sC_base hd_base tC_base sb_base_base,
    kOne := fun c d => match c, d with
      | .kind, .kind => kit_ref ic_kind tC_kind sb_kind_kind sb_kind_kind
      | .kind, .value => kit_ref ic_value tC_value sb_kind_value sb_value_value
      | .kind, .patch => kit_ref ic_patch tC_patch sb_kind_patch sb_patch_patch
      | .kind, .unfit => kit_ref ic_unfit tC_unfit sb_kind_unfit sb_unfit_unfit
      | .kind, .base => kit_ref ic_base tC_base sb_kind_base sb_base_base
      | .value, .kind => kit_ref ic_kind tC_kind sb_value_kind sb_kind_kind
      | .value, .value => kit_ref ic_value tC_value sb_value_value sb_value_value
      | .value, .patch => kit_ref ic_patch tC_patch sb_value_patch sb_patch_patch
      | .value, .unfit => kit_ref ic_unfit tC_unfit sb_value_unfit sb_unfit_unfit
      | .value, .base => kit_ref ic_base tC_base sb_value_base sb_base_base
      | .patch, .kind => kit_ref ic_kind tC_kind sb_patch_kind sb_kind_kind
      | .patch, .value => kit_ref ic_value tC_value sb_patch_value sb_value_value
      | .patch, .patch => kit_ref ic_patch tC_patch sb_patch_patch sb_patch_patch
      | .patch, .unfit => kit_ref ic_unfit tC_unfit sb_patch_unfit sb_unfit_unfit
      | .patch, .base => kit_ref ic_base tC_base sb_patch_base sb_base_base
      | .unfit, .kind => kit_ref ic_kind tC_kind sb_unfit_kind sb_kind_kind
      | .unfit, .value => kit_ref ic_value tC_value sb_unfit_value sb_value_value
      | .unfit, .patch => kit_ref ic_patch tC_patch sb_unfit_patch sb_patch_patch
      | .unfit, .unfit => kit_ref ic_unfit tC_unfit sb_unfit_unfit sb_unfit_unfit
      | .unfit, .base => kit_ref ic_base tC_base sb_unfit_base sb_base_base
      | .base, .kind => kit_ref ic_kind tC_kind sb_base_kind sb_kind_kind
      | .base, .value => kit_ref ic_value tC_value sb_base_value sb_value_value
      | .base, .patch => kit_ref ic_patch tC_patch sb_base_patch sb_patch_patch
      | .base, .unfit => kit_ref ic_unfit tC_unfit sb_base_unfit sb_unfit_unfit
      | .base, .base => kit_ref ic_base tC_base sb_base_base sb_base_base }
  obtain rfl : fa = f37 := by
    have e := hfa.symm.trans (PySem.W.mg_of X G a37)
    cases e
    rfl
  refine ⟨_, fun s v => .of_eq rfl, fun base _ _ => FnOk.imp (ok_law (P := l.prog) (w := w) (base := base) T) fun vs H Q E hs => ?_⟩
  obtain ⟨a, ns, rfl, hS, h63, q⟩ := hs
  refine ⟨[.list (ns.map PyData.int)], H, .cons (.lst hS (by rw [List.length_map, sizeLine_eq]; omega) (RpAll.ofInts ns)) .nil, rfl, Ex.refl H, Tr.wp_mono (fun d hd v G' H' g e rv => ?_) (fun _ z => z) (law_true ns h63)⟩
  subst hd
  cases rv
  exact q H'
end K02
open PySem PySem.W PyProof.Rows
set_option maxRecDepth 100000 in
set_option maxHeartbeats 0 in
theorem PySem.Challenge.cw_corrigenda_k02_values_and_weights_holds : PySem.Challenge.rw_corrigenda_k02_values_and_weights.Holds := by
  w_on; o_law; k_head; (case hw => w_witness2)
  k_fill
  refine L2.walk_of (l := PySem.Challenge.rw_corrigenda_k02_values_and_weights) (n := 63) (k := 32) (x := "script") (CX := fun _ => L2.CX0) (sp := fun w => K02.spLaw _) rfl (by decide) rfl ⟨rfl, by decide, by decide⟩ (fun w h Y => PySem.W.kIn_of Y) ?F (fun _ _ a ns hl _ hS => ⟨a, ns, rfl, hS, hl, fun _ => rfl⟩) (fun _ _ _ _ _ h => h)
  case F =>
    intro w mg fa h KX G hmg
    refine' K02.all_mk KX G hmg ?a1 ?l1 ?c1 ?k1 ?a2 ?l2 ?c2 ?k2 ?a3 ?l3 ?c3 ?k3 ?a4 ?l4 ?c4 ?k4 ?a5 ?l5 ?c5 ?k5 ?a6 ?l6 ?c6 ?k6 ?a7 ?l7 ?c7 ?k7 ?a8 ?l8 ?c8 ?k8 ?a9 ?l9 ?c9 ?k9 ?a10 ?l10 ?c10 ?k10 ?a11 ?l11 ?c11 ?k11 ?a12 ?l12 ?c12 ?k12 ?a13 ?l13 ?c13 ?k13 ?a14 ?l14 ?c14 ?k14 ?a15 ?l15 ?c15 ?k15 ?a16 ?l16 ?c16 ?k16 ?a17 ?l17 ?c17 ?k17 ?a18 ?l18 ?c18 ?k18 ?a19 ?l19 ?c19 ?k19 ?a20 ?l20 ?c20 ?k20 ?a21 ?l21 ?c21 ?k21 ?a22 ?l22 ?c22 ?k22 ?a23 ?l23 ?c23 ?k23 ?a24 ?l24 ?c24 ?k24 ?a25 ?l25 ?c25 ?k25 ?a26 ?l26 ?c26 ?k26 ?a27 ?l27 ?c27 ?k27 ?a28 ?l28 ?c28 ?k28 ?a29 ?l29 ?c29 ?k29 ?a30 ?l30 ?c30 ?k30 ?a31 ?l31 ?c31 ?k31 ?a32 ?l32 ?c32 ?k32 ?a33 ?l33 ?c33 ?k33 ?a34 ?l34 ?c34 ?k34 ?a35 ?l35 ?c35 ?k35 ?a36 ?l36 ?c36 ?k36 ?a37 ?l37 ?c37 ?k37 ?z_ValueError ?z_abs ?z_all ?z_bool ?z_int ?z_isinstance ?z_len ?z_list ?z_max ?z_range ?z_repr ?z_set ?z_sorted ?z_str ?z_sum ?z_tuple ?z_zip ?k_MOST_DEEP ?k_MOST_INSIDE ?k_MOST_KINDS ?k_MOST_NUMBER ?k_MOST_WEIGHT ?g_FEWEST_INSIDE ?ld_FEWEST_INSIDE ?kl_FEWEST_INSIDE ?e_FEWEST_INSIDE_record ?e_FEWEST_INSIDE_choice ?g_VALUE_PARTS ?ld_VALUE_PARTS ?kl_VALUE_PARTS ?e_VALUE_PARTS_record ?e_VALUE_PARTS_choice ?e_VALUE_PARTS_row ?e_VALUE_PARTS_set ?e_VALUE_PARTS_bag ?e_VALUE_PARTS_table ?aC_kind ?xC_kind ?kC_kind ?sC_kind ?tC_kind ?aC_value ?xC_value ?kC_value ?sC_value ?tC_value ?aC_patch ?xC_patch ?kC_patch ?sC_patch ?tC_patch ?aC_unfit ?xC_unfit ?kC_unfit ?sC_unfit ?tC_unfit ?aC_base ?xC_base ?kC_base ?sC_base ?tC_base ?hg_kind ?hk_kind ?hd_kind ?ha_kind ?hm_kind ?st_kind ?kv_kind ?ic_kind ?sb_kind_kind ?sb_kind_value ?sb_kind_patch ?sb_kind_unfit ?sb_kind_base ?hg_value ?hk_value ?hd_value ?ha_value ?hm_value ?st_value ?kv_value ?ic_value ?sb_value_kind ?sb_value_value ?sb_value_patch ?sb_value_unfit ?sb_value_base ?hg_patch ?hk_patch ?hd_patch ?ha_patch ?hm_patch ?st_patch ?kv_patch ?ic_patch ?sb_patch_kind ?sb_patch_value ?sb_patch_patch ?sb_patch_unfit ?sb_patch_base ?hg_unfit ?hk_unfit ?hd_unfit ?ha_unfit ?hm_unfit ?st_unfit ?kv_unfit ?ic_unfit ?sb_unfit_kind ?sb_unfit_value ?sb_unfit_patch ?sb_unfit_unfit ?sb_unfit_base ?hg_base ?hk_base ?hd_base ?ha_base ?hm_base ?st_base ?kv_base ?ic_base ?sb_base_kind ?sb_base_value ?sb_base_patch ?sb_base_unfit ?sb_base_base ?hn ?htk K02.law_true
    (case a1 => k_is)
    (case l1 => k_is)
    (case c1 => k_is)
    (case k1 => k_is)
    (case a2 => k_is)
    (case l2 => k_is)
    (case c2 => k_is)
    (case k2 => k_is)
    (case a3 => k_is)
    (case l3 => k_is)
    (case c3 => k_is)
    (case k3 => k_is)
    (case a4 => k_is)
    (case l4 => k_is)
    (case c4 => k_is)
    (case k4 => k_is)
    (case a5 => k_is)
    (case l5 => k_is)
    (case c5 => k_is)
    (case k5 => k_is)
    (case a6 => k_is)
    (case l6 => k_is)
    (case c6 => k_is)
    (case k6 => k_is)
    (case a7 => k_is)
    (case l7 => k_is)
    (case c7 => k_is)
    (case k7 => k_is)
    (case a8 => k_is)
    (case l8 => k_is)
    (case c8 => k_is)
    (case k8 => k_is)
    (case a9 => k_is)
    (case l9 => k_is)
    (case c9 => k_is)
    (case k9 => k_is)
    (case a10 => k_is)
    (case l10 => k_is)
    (case c10 => k_is)
    (case k10 => k_is)
    (case a11 => k_is)
    (case l11 => k_is)
    (case c11 => k_is)
    (case k11 => k_is)
    (case a12 => k_is)
    (case l12 => k_is)
    (case c12 => k_is)
    (case k12 => k_is)
    (case a13 => k_is)
    (case l13 => k_is)
    (case c13 => k_is)
    (case k13 => k_is)
    (case a14 => k_is)
    (case l14 => k_is)
    (case c14 => k_is)
    (case k14 => k_is)
    (case a15 => k_is)
    (case l15 => k_is)
    (case c15 => k_is)
    (case k15 => k_is)
    (case a16 => k_is)
    (case l16 => k_is)
    (case c16 => k_is)
    (case k16 => k_is)
    (case a17 => k_is)
    (case l17 => k_is)
    (case c17 => k_is)
    (case k17 => k_is)
    (case a18 => k_is)
    (case l18 => k_is)
    (case c18 => k_is)
    (case k18 => k_is)
    (case a19 => k_is)
    (case l19 => k_is)
    (case c19 => k_is)
    (case k19 => k_is)
    (case a20 => k_is)
    (case l20 => k_is)
    (case c20 => k_is)
    (case k20 => k_is)
    (case a21 => k_is)
    (case l21 => k_is)
    (case c21 => k_is)
    (case k21 => k_is)
    (case a22 => k_is)
    (case l22 => k_is)
    (case c22 => k_is)
    (case k22 => k_is)
    (case a23 => k_is)
    (case l23 => k_is)
    (case c23 => k_is)
    (case k23 => k_is)
    (case a24 => k_is)
    (case l24 => k_is)
    (case c24 => k_is)
    (case k24 => k_is)
    (case a25 => k_is)
    (case l25 => k_is)
    (case c25 => k_is)
    (case k25 => k_is)
    (case a26 => k_is)
    (case l26 => k_is)
    (case c26 => k_is)
    (case k26 => k_is)
    (case a27 => k_is)
    (case l27 => k_is)
    (case c27 => k_is)
    (case k27 => k_is)
    (case a28 => k_is)
    (case l28 => k_is)
    (case c28 => k_is)
    (case k28 => k_is)
    (case a29 => k_is)
    (case l29 => k_is)
    (case c29 => k_is)
    (case k29 => k_is)
    (case a30 => k_is)
    (case l30 => k_is)
    (case c30 => k_is)
    (case k30 => k_is)
    (case a31 => k_is)
    (case l31 => k_is)
    (case c31 => k_is)
    (case k31 => k_is)
    (case a32 => k_is)
    (case l32 => k_is)
    (case c32 => k_is)
    (case k32 => k_is)
    (case a33 => k_is)
    (case l33 => k_is)
    (case c33 => k_is)
    (case k33 => k_is)
    (case a34 => k_is)
    (case l34 => k_is)
    (case c34 => k_is)
    (case k34 => k_is)
    (case a35 => k_is)
    (case l35 => k_is)
    (case c35 => k_is)
    (case k35 => k_is)
    (case a36 => k_is)
    (case l36 => k_is)
    (case c36 => k_is)
    (case k36 => k_is)
    (case a37 => k_is)
    (case l37 => k_is)
    (case c37 => k_is)
    (case k37 => k_is)
    (case z_ValueError => k_is)
    (case z_abs => k_is)
    (case z_all => k_is)
    (case z_bool => k_is)
    (case z_int => k_is)
    (case z_isinstance => k_is)
    (case z_len => k_is)
    (case z_list => k_is)
    (case z_max => k_is)
    (case z_range => k_is)
    (case z_repr => k_is)
    (case z_set => k_is)
    (case z_sorted => k_is)
    (case z_str => k_is)
    (case z_sum => k_is)
    (case z_tuple => k_is)
    (case z_zip => k_is)
    (case k_MOST_DEEP => k_is)
    (case k_MOST_INSIDE => k_is)
    (case k_MOST_KINDS => k_is)
    (case k_MOST_NUMBER => k_is)
    (case k_MOST_WEIGHT => k_is)
    (case g_FEWEST_INSIDE => k_is)
    (case ld_FEWEST_INSIDE => k_is)
    (case kl_FEWEST_INSIDE => k_keys)
    (case e_FEWEST_INSIDE_record => k_is)
    (case e_FEWEST_INSIDE_choice => k_is)
    (case g_VALUE_PARTS => k_is)
    (case ld_VALUE_PARTS => k_is)
    (case kl_VALUE_PARTS => k_keys)
    (case e_VALUE_PARTS_record => k_is)
    (case e_VALUE_PARTS_choice => k_is)
    (case e_VALUE_PARTS_row => k_is)
    (case e_VALUE_PARTS_set => k_is)
    (case e_VALUE_PARTS_bag => k_is)
    (case e_VALUE_PARTS_table => k_is)
    (case aC_kind => k_is)
    (case xC_kind => k_exc)
    (case kC_kind => k_is)
    (case sC_kind => k_is)
    (case tC_kind => k_is)
    (case aC_value => k_is)
    (case xC_value => k_exc)
    (case kC_value => k_is)
    (case sC_value => k_is)
    (case tC_value => k_is)
    (case aC_patch => k_is)
    (case xC_patch => k_exc)
    (case kC_patch => k_is)
    (case sC_patch => k_is)
    (case tC_patch => k_is)
    (case aC_unfit => k_is)
    (case xC_unfit => k_exc)
    (case kC_unfit => k_is)
    (case sC_unfit => k_is)
    (case tC_unfit => k_is)
    (case aC_base => k_is)
    (case xC_base => k_exc)
    (case kC_base => k_is)
    (case sC_base => k_is)
    (case tC_base => k_is)
    (case hg_kind => k_is)
    (case hk_kind => k_is)
    (case hd_kind => k_is)
    (case ha_kind => k_is)
    (case hm_kind => k_is)
    (case st_kind => k_is)
    (case kv_kind => k_is)
    (case ic_kind => k_is)
    (case sb_kind_kind => first | rfl | k_is)
    (case sb_kind_value => first | rfl | k_is)
    (case sb_kind_patch => first | rfl | k_is)
    (case sb_kind_unfit => first | rfl | k_is)
    (case sb_kind_base => first | rfl | k_is)
    (case hg_value => k_is)
    (case hk_value => k_is)
    (case hd_value => k_is)
    (case ha_value => k_is)
    (case hm_value => k_is)
    (case st_value => k_is)
    (case kv_value => k_is)
    (case ic_value => k_is)
    (case sb_value_kind => first | rfl | k_is)
    (case sb_value_value => first | rfl | k_is)
    (case sb_value_patch => first | rfl | k_is)
    (case sb_value_unfit => first | rfl | k_is)
    (case sb_value_base => first | rfl | k_is)
    (case hg_patch => k_is)
    (case hk_patch => k_is)
    (case hd_patch => k_is)
    (case ha_patch => k_is)
    (case hm_patch => k_is)
    (case st_patch => k_is)
    (case kv_patch => k_is)
    (case ic_patch => k_is)
    (case sb_patch_kind => first | rfl | k_is)
    (case sb_patch_value => first | rfl | k_is)
    (case sb_patch_patch => first | rfl | k_is)
    (case sb_patch_unfit => first | rfl | k_is)
    (case sb_patch_base => first | rfl | k_is)
    (case hg_unfit => k_is)
    (case hk_unfit => k_is)
    (case hd_unfit => k_is)
    (case ha_unfit => k_is)
    (case hm_unfit => k_is)
    (case st_unfit => k_is)
    (case kv_unfit => k_is)
    (case ic_unfit => k_is)
    (case sb_unfit_kind => first | rfl | k_is)
    (case sb_unfit_value => first | rfl | k_is)
    (case sb_unfit_patch => first | rfl | k_is)
    (case sb_unfit_unfit => first | rfl | k_is)
    (case sb_unfit_base => first | rfl | k_is)
    (case hg_base => k_is)
    (case hk_base => k_is)
    (case hd_base => k_is)
    (case ha_base => k_is)
    (case hm_base => k_is)
    (case st_base => k_is)
    (case kv_base => k_is)
    (case ic_base => k_is)
    (case sb_base_kind => first | rfl | k_is)
    (case sb_base_value => first | rfl | k_is)
    (case sb_base_patch => first | rfl | k_is)
    (case sb_base_unfit => first | rfl | k_is)
    (case sb_base_base => first | rfl | k_is)
    (case hn => k_is)
    (case htk => k_is)
