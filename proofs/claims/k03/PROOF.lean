import PyProof.Rows.All
import Wide.All
import OpenK.AllK
import Wide.FinOn
import KE.DataEq
import HandS.ForExc
import HandS.ForMost
import HandS.IsInst
import HandS.TupAny
import HandS.TupMul
import KE.KExcStr
import HandS.ExcCtx
import HandS.HotCalls
import HandS.ExcIs
import HandS.ExcValue
import HandS.SetFor
import HandS.RaiseMore
import PySem.Challenge.RW_corrigenda_k03_how_many_values
set_option Elab.async false
set_option linter.all false
set_option maxRecDepth 100000
/-! Cg: what a def does, told as a tree of draws over plain data. -/
namespace Cg
open PySem L2

/-- the four errors, and the one above them -/
inductive Ek where | kind | value | patch | unfit | base
  deriving DecidableEq

/-- what a run comes to: an answer, an error, nothing that is told, or a number below n that is drawn -/
inductive Tr (α : Type) where
  | ret (a : α)
  | exc (c : Ek)
  | bad
  | draw (n : Nat) (k : Nat → Tr α)
namespace Tr
variable {α β γ : Type}
def bind : Tr α → (α → Tr β) → Tr β
  | .ret a, f => f a
  | .exc c, _ => .exc c
  | .bad, _ => .bad
  | .draw n k, f => .draw n fun i => (k i).bind f
def wp (Q : α → Prop) (E : Ek → Prop) : Tr α → Prop
  | .ret a => Q a
  | .exc c => E c
  | .bad => False
  | .draw n k => ∀ i, i < n → (k i).wp Q E
theorem wp_bind {f : α → Tr β} {Q : β → Prop} {E : Ek → Prop} : ∀ {t : Tr α}, (t.bind f).wp Q E ↔ t.wp (fun a => (f a).wp Q E) E
  | .ret _ => Iff.rfl
  | .exc _ => Iff.rfl
  | .bad => Iff.rfl
  | .draw n k => by
    show (∀ i, i < n → ((k i).bind f).wp Q E) ↔ ∀ i, i < n → (k i).wp (fun a => (f a).wp Q E) E
    exact ⟨fun h i hi => wp_bind.mp (h i hi), fun h i hi => wp_bind.mpr (h i hi)⟩
theorem wp_mono {Q Q' : α → Prop} {E E' : Ek → Prop} (hq : ∀ a, Q a → Q' a) (he : ∀ c, E c → E' c) : ∀ {t : Tr α}, t.wp Q E → t.wp Q' E'
  | .ret a, h => hq a h
  | .exc c, h => he c h
  | .bad, h => h.elim
  | .draw n k, h => fun i hi => wp_mono hq he (h i hi)
@[simp] theorem ret_bind (a : α) (f : α → Tr β) : (Tr.ret a).bind f = f a := rfl
@[simp] theorem exc_bind (c : Ek) (f : α → Tr β) : (Tr.exc c : Tr α).bind f = .exc c := rfl
@[simp] theorem bad_bind (f : α → Tr β) : (Tr.bad : Tr α).bind f = .bad := rfl
@[simp] theorem draw_bind (n : Nat) (k : Nat → Tr α) (f : α → Tr β) : (Tr.draw n k).bind f = .draw n fun i => (k i).bind f := rfl
@[simp] theorem bind_ret : ∀ t : Tr α, t.bind Tr.ret = t
  | .ret _ => rfl
  | .exc _ => rfl
  | .bad => rfl
  | .draw n k => by
    show Tr.draw n (fun i => (k i).bind Tr.ret) = _
    congr
    funext i
    exact bind_ret (k i)
theorem bind_assoc (f : α → Tr β) (g : β → Tr γ) : ∀ t : Tr α, (t.bind f).bind g = t.bind fun a => (f a).bind g
  | .ret _ => rfl
  | .exc _ => rfl
  | .bad => rfl
  | .draw n k => by
    show Tr.draw n (fun i => ((k i).bind f).bind g) = Tr.draw n fun i => (k i).bind fun a => (f a).bind g
    congr
    funext i
    exact bind_assoc f g (k i)
end Tr

/-! ### heaps -/
def Ex (H H' : Hp) : Prop := ∀ a o, H a = some o → H' a = some o
theorem Ex.refl (H : Hp) : Ex H H := fun _ _ h => h
theorem Ex.trans {H H1 H2 : Hp} (a : Ex H H1) (b : Ex H1 H2) : Ex H H2 := fun x o h => b x o (a x o h)
theorem Ex.new {H : Hp} {p : Addr} {o : HO} (h : H p = none) : Ex H (upd H p o) := fun a u e => by
  rw [upd_ne (ne_of_none e h)]
  exact e
theorem Ex.rd {H H' : Hp} {a : Addr} {u : HO} (e : Ex H H') (h : Rd H a u) : Rd H' a u := by
  rcases h with h | ⟨o, h⟩
  · exact Or.inl (e a _ h)
  · exact Or.inr ⟨o, e a _ h⟩
theorem Ex.l {K : PySem.W.Frag} {H H' : Hp} {a : Addr} {xs : List V} (e : Ex H H') (h : SqL K H a xs) : SqL K H' a xs := by
  rcases h with h | h
  · exact Or.inl (e.rd h)
  · exact Or.inr h
theorem Ex.t {K : PySem.W.Frag} {H H' : Hp} {a : Addr} {xs : List V} (e : Ex H H') (h : SqT K H a xs) : SqT K H' a xs := by
  rcases h with h | h
  · exact Or.inl (e.rd h)
  · exact Or.inr h
theorem Ex.back {H H' : Hp} {p : Addr} (e : Ex H H') (h : H' p = none) : H p = none := by
  cases h1 : H p with
  | none => rfl
  | some o =>
    rw [e p o h1] at h
    cases h

/-! ### values that stand for data -/
mutual
inductive Rp (K : PySem.W.Frag) (G : Hp) : V → PyData → Prop
  | non : Rp K G .non .none
  | bl (b : Bool) : Rp K G (.bl b) (.bool b)
  | int (i : Int) : Rp K G (.int i) (.int i)
  | str (x : Str) : Rp K G (.str x) (.str x)
  | lst {a : Addr} {xs : List V} {ds : List PyData} : SqL K G a xs → ds.length ≤ sizeLine → RpAll K G xs ds → Rp K G (.ref a) (.list ds)
  | tup {a : Addr} {xs : List V} {ds : List PyData} : SqT K G a xs → ds.length ≤ sizeLine → RpAll K G xs ds → Rp K G (.ref a) (.tuple ds)
inductive RpAll (K : PySem.W.Frag) (G : Hp) : List V → List PyData → Prop
  | nil : RpAll K G [] []
  | cons {v : V} {vs : List V} {d : PyData} {ds : List PyData} : Rp K G v d → RpAll K G vs ds → RpAll K G (v :: vs) (d :: ds)
end
section
variable {K : PySem.W.Frag} {G G' : Hp}
mutual
theorem Rp.mono (e : Ex G G') : ∀ {v : V} {d : PyData}, Rp K G v d → Rp K G' v d
  | _, _, .non => .non
  | _, _, .bl b => .bl b
  | _, _, .int i => .int i
  | _, _, .str x => .str x
  | _, _, .lst h l a => .lst (e.l h) l (RpAll.mono e a)
  | _, _, .tup h l a => .tup (e.t h) l (RpAll.mono e a)
theorem RpAll.mono (e : Ex G G') : ∀ {vs : List V} {ds : List PyData}, RpAll K G vs ds → RpAll K G' vs ds
  | _, _, .nil => .nil
  | _, _, .cons h t => .cons (Rp.mono e h) (RpAll.mono e t)
end
mutual
theorem Rp.dp : ∀ {v : V} {d : PyData}, Rp K G v d → Dp K G v d
  | _, _, .non => .non
  | _, _, .bl b => .bl b
  | _, _, .int i => .int i
  | _, _, .str x => .str x
  | _, _, .lst h l a => .lst h (RpAll.dp a)
  | _, _, .tup h l a => .tup h (RpAll.dp a)
theorem RpAll.dp : ∀ {vs : List V} {ds : List PyData}, RpAll K G vs ds → DpAll K G vs ds
  | _, _, .nil => .nil
  | _, _, .cons h t => .cons (Rp.dp h) (RpAll.dp t)
end
mutual
theorem Rp.plain : ∀ {v : V} {d : PyData}, Rp K G v d → d.plain = true
  | _, _, .non => rfl
  | _, _, .bl b => rfl
  | _, _, .int i => rfl
  | _, _, .str x => rfl
  | _, .list ds, .lst h l a => by
    show PyData.plainAll ds = true
    exact RpAll.plain a
  | _, .tuple ds, .tup h l a => by
    show PyData.plainAll ds = true
    exact RpAll.plain a
theorem RpAll.plain : ∀ {vs : List V} {ds : List PyData}, RpAll K G vs ds → PyData.plainAll ds = true
  | _, _, .nil => rfl
  | _, d :: ds, .cons h t => by
    show (PyData.plain d && PyData.plainAll ds) = true
    rw [Rp.plain h, RpAll.plain t]
    rfl
end
theorem RpAll.len : ∀ {vs : List V} {ds : List PyData}, RpAll K G vs ds → vs.length = ds.length
  | _, _, .nil => rfl
  | _, _, .cons h t => congrArg (· + 1) (RpAll.len t)
theorem RpAll.get : ∀ {vs : List V} {ds : List PyData} {i : Nat} {d : PyData}, RpAll K G vs ds → ds[i]? = some d → ∃ v, vs[i]? = some v ∧ Rp K G v d
  | _, _, _, _, .nil, e => by simp at e
  | _, _, 0, _, .cons h _, e => by
    simp at e
    subst e
    exact ⟨_, rfl, h⟩
  | _, _, i + 1, d, .cons _ t, e => by
    obtain ⟨v, h1, h2⟩ := RpAll.get (i := i) (d := d) t (by simpa using e)
    exact ⟨v, by simpa using h1, h2⟩
theorem RpAll.getV : ∀ {vs : List V} {ds : List PyData} {i : Nat} {v : V}, RpAll K G vs ds → vs[i]? = some v → ∃ d, ds[i]? = some d ∧ Rp K G v d
  | _, _, _, _, .nil, e => by simp at e
  | _, _, 0, _, .cons h _, e => by
    simp at e
    subst e
    exact ⟨_, rfl, h⟩
  | _, _, i + 1, v, .cons _ t, e => by
    obtain ⟨d, h1, h2⟩ := RpAll.getV (i := i) (v := v) t (by simpa using e)
    exact ⟨d, by simpa using h1, h2⟩
theorem RpAll.append : ∀ {vs : List V} {ds : List PyData} {ws : List V} {es : List PyData}, RpAll K G vs ds → RpAll K G ws es → RpAll K G (vs ++ ws) (ds ++ es)
  | _, _, _, _, .nil, s => s
  | _, _, _, _, .cons h t, s => .cons h (RpAll.append t s)
theorem RpAll.take : ∀ {vs : List V} {ds : List PyData} (n : Nat), RpAll K G vs ds → RpAll K G (vs.take n) (ds.take n)
  | _, _, 0, _ => .nil
  | _, _, _ + 1, .nil => .nil
  | _, _, n + 1, .cons h t => .cons h (RpAll.take n t)
theorem RpAll.drop : ∀ {vs : List V} {ds : List PyData} (n : Nat), RpAll K G vs ds → RpAll K G (vs.drop n) (ds.drop n)
  | _, _, 0, r => r
  | _, _, _ + 1, .nil => .nil
  | _, _, n + 1, .cons _ t => RpAll.drop n t
theorem RpAll.ints : ∀ {vs : List V} {ns : List Int}, RpAll K G vs (ns.map PyData.int) → vs = ns.map V.int
  | _, [], .nil => rfl
  | _, n :: ns, .cons h t => by
    cases h
    rw [RpAll.ints t]
    rfl
theorem RpAll.ofInts : ∀ (ns : List Int), RpAll K G (ns.map V.int) (ns.map PyData.int)
  | [] => .nil
  | n :: ns => .cons (.int n) (RpAll.ofInts ns)
theorem RpAll.rep : ∀ {vs : List V} {ds : List PyData} (n : Nat), RpAll K G vs ds → RpAll K G (List.replicate n vs).flatten (List.replicate n ds).flatten
  | _, _, 0, _ => .nil
  | vs, ds, n + 1, h => by
    rw [List.replicate_succ, List.replicate_succ, List.flatten_cons, List.flatten_cons]
    exact RpAll.append h (RpAll.rep n h)
end

/-! ### slots, what is owned -/
/-- what a slot holds: data; a list of the def's own; the box; a value as it is; anything -/
inductive Sl where
  | dat (d : PyData)
  | acc (ds : List PyData)
  | box
  | val (v : V)
  | any
/-- the box that is drawn from: a cell, a count, a place, the script -/
def BoxOk (K : PySem.W.Frag) (G H : Hp) (b : Addr) : Prop :=
  G b = none ∧ ∃ (cell k at' : Int) (c : Addr) (ns : List Int), H b = some (.lst [.int cell, .int k, .int at', .ref c]) ∧ SqL K G c (ns.map V.int) ∧ 0 ≤ at'
def owning : Sl → Bool
  | .acc _ => true
  | .box => true
  | _ => false
def SlOk (K : PySem.W.Frag) (G H : Hp) : Sl → Option V → Prop
  | .dat d, o => ∃ v, o = some v ∧ Rp K G v d
  | .acc ds, o => ∃ a xs, o = some (.ref a) ∧ H a = some (.lst xs) ∧ ds.length ≤ sizeLine ∧ RpAll K G xs ds ∧ G a = none
  | .box, o => ∃ a, o = some (.ref a) ∧ BoxOk K G H a
  | .val v, o => o = some v
  | .any, _ => True
structure Sta (K : PySem.W.Frag) (G H : Hp) (ρ : List Sl) (σ : L2.St) : Prop where
  len : ρ.length = σ.length
  sub : Ex G H
  ok : ∀ (i : Nat) (s : Sl) (o : Option V), ρ[i]? = some s → σ[i]? = some o → SlOk K G H s o
  dis : ∀ (i j : Nat) (si sj : Sl) (a : Addr), ρ[i]? = some si → ρ[j]? = some sj → owning si = true → owning sj = true → σ[i]? = some (some (.ref a)) → σ[j]? = some (some (.ref a)) → i = j
def Owns (ρ : List Sl) (σ : L2.St) (a : Addr) : Prop := ∃ (i : Nat) (s : Sl), ρ[i]? = some s ∧ owning s = true ∧ σ[i]? = some (some (V.ref a))
/-- how the heap grows while O is ours -/
structure Gr (O : Addr → Prop) (G H G' H' : Hp) : Prop where
  ex : Ex G G'
  new : ∀ a, ¬ O a → H a ≠ none → G a = none → G' a = none
  fr : ∀ a o, ¬ O a → H a = some o → H' a = some o
  keep : ∀ a, H a ≠ none → H' a ≠ none
section
variable {K : PySem.W.Frag} {O O' : Addr → Prop} {G H G1 H1 G2 H2 : Hp}
theorem Gr.refl : Gr O G H G H := ⟨Ex.refl G, fun _ _ _ h => h, fun _ _ _ h => h, fun _ h => h⟩
/-- what is ours later was ours or is new -/
theorem Gr.trans (a : Gr O G H G1 H1) (b : Gr O' G1 H1 G2 H2) (s : ∀ x, O' x → O x ∨ H x = none) : Gr O G H G2 H2 := by
  have no : ∀ x, ¬ O x → H x ≠ none → ¬ O' x := fun x hx hn ho => by
    rcases s x ho with z | z
    · exact hx z
    · exact hn z
  refine ⟨a.ex.trans b.ex, fun x hx hn hg => ?_, fun x o hx ho => ?_, fun x hn => b.keep x (a.keep x hn)⟩
  · exact b.new x (no x hx hn) (a.keep x hn) (a.new x hx hn hg)
  · exact b.fr x o (no x hx (by rw [ho]; exact fun z => nomatch z)) (a.fr x o hx ho)
theorem Gr.trans' (a : Gr O G H G1 H1) (b : Gr O G1 H1 G2 H2) : Gr O G H G2 H2 := a.trans b fun _ h => .inl h
theorem Gr.less (a : Gr O G H G1 H1) (s : ∀ x, O x → O' x) : Gr O' G H G1 H1 :=
  ⟨a.ex, fun x hx => a.new x fun z => hx (s x z), fun x o hx => a.fr x o fun z => hx (s x z), a.keep⟩
/-- a new thing that never changes -/
theorem Gr.lay {p : Addr} {o : HO} (h : H p = none) (e : Ex G H) : Gr O G H (upd G p o) (upd H p o) := by
  refine ⟨Ex.new (e.back h), fun a _ hn hg => ?_, fun a u _ ha => ?_, fun a hn => ?_⟩
  · rw [upd_ne (fun z => hn (by rw [z]; exact h))]
    exact hg
  · rw [upd_ne (ne_of_none ha h)]
    exact ha
  · rw [upd_ne (fun z => hn (by rw [z]; exact h))]
    exact hn
theorem BoxOk.grow {b : Addr} (h : BoxOk K G H b) (e : Ex G G1) (n : G1 b = none) (k : ∀ o, H b = some o → H1 b = some o) : BoxOk K G1 H1 b := by
  obtain ⟨_, cell, q, at', c, ns, h1, h2, r⟩ := h
  exact ⟨n, cell, q, at', c, ns, k _ h1, e.l h2, r⟩
theorem BoxOk.there {b : Addr} (h : BoxOk K G H b) : H b ≠ none := by
  obtain ⟨_, cell, q, at', c, ns, h1, r⟩ := h
  rw [h1]
  exact fun z => nomatch z
/-- a slot's word stays while the heap grows by things that are not ours -/
theorem SlOk.grow {s : Sl} {o : Option V} (h : SlOk K G H s o) (e : Ex G G1) (n : ∀ a, owning s = true → o = some (.ref a) → G a = none → H a ≠ none → G1 a = none) (k : ∀ a u, owning s = true → o = some (.ref a) → H a = some u → H1 a = some u) : SlOk K G1 H1 s o := by
  cases s with
  | dat d =>
    obtain ⟨v, ev, r⟩ := h
    exact ⟨v, ev, r.mono e⟩
  | acc ds =>
    obtain ⟨a, xs, ev, ha, hl, r, hg⟩ := h
    exact ⟨a, xs, ev, k a _ rfl ev ha, hl, r.mono e, n a rfl ev hg (by rw [ha]; exact fun z => nomatch z)⟩
  | box =>
    obtain ⟨a, ev, b⟩ := h
    exact ⟨a, ev, b.grow e (n a rfl ev b.1 b.there) fun u q => k a u rfl ev q⟩
  | val v => exact h
  | any => trivial
variable {ρ : List Sl} {σ : L2.St}
theorem Sta.own (S : Sta K G H ρ σ) {a : Addr} (h : Owns ρ σ a) : G a = none ∧ H a ≠ none := by
  obtain ⟨i, s, h1, h2, h3⟩ := h
  have q := S.ok i s _ h1 h3
  cases s with
  | acc ds =>
    obtain ⟨b, xs, ev, hb, _, _, hg⟩ := q
    cases ev
    exact ⟨hg, by rw [hb]; exact fun z => nomatch z⟩
  | box =>
    obtain ⟨b, ev, hb⟩ := q
    cases ev
    exact ⟨hb.1, hb.there⟩
  | dat _ => cases h2
  | val _ => cases h2
  | any => cases h2
/-- nothing of ours is touched -/
theorem Sta.grow (S : Sta K G H ρ σ) (g : Gr (fun _ => False) G H G1 H1) (e : Ex G1 H1) : Sta K G1 H1 ρ σ :=
  ⟨S.len, e, fun i s o h1 h2 => (S.ok i s o h1 h2).grow g.ex (fun a _ _ hg hn => g.new a id hn hg) fun a u _ _ h => g.fr a u id h, S.dis⟩
theorem Ex.lay {p : Addr} {o : HO} (e : Ex G H) (h : H p = none) : Ex (upd G p o) (upd H p o) := fun a u q => by
  by_cases z : a = p
  · rw [z, upd_same] at q
    rw [z, upd_same]
    exact q
  · rw [upd_ne z] at q
    rw [upd_ne z]
    exact e a u q
theorem Sta.lay (S : Sta K G H ρ σ) {p : Addr} {o : HO} (h : H p = none) : Sta K (upd G p o) (upd H p o) ρ σ := S.grow (Gr.lay h S.sub) (S.sub.lay h)
end

/-! ### what a reading does -/
variable {W α β : Type}
/-- what is wanted of an answer -/
def Po (K : PySem.W.Frag) (ρ : List Sl) (σ : L2.St) (Rel : Hp → W → α → Prop) (G H : Hp) (Q : W → Hp → Prop) (d : α) : Prop :=
  ∀ v G' H', Gr (Owns ρ σ) G H G' H' → Sta K G' H' ρ σ → Rel G' v d → Q v H'
/-- what is wanted of an error -/
def Xo (cl : Ek → Addr) (E : Option XK) (O : Addr → Prop) (H : Hp) (c : Ek) : Prop := match E with
  | none => False
  | some E => ∀ H', (∀ a o, ¬ O a → H a = some o → H' a = some o) → ∀ t, H' t = some (.tup []) → E (.ref (cl c)) (some t) H'
def EvG (K : PySem.W.Frag) (cl : Ek → Addr) (E : L2.St → Option XK) (Rel : Hp → W → α → Prop) (te : L2.St → Hp → (W → Hp → Prop) → Prop) (ρ : List Sl) (t : Tr α) : Prop :=
  ∀ G H σ, Sta K G H ρ σ → ∀ Q, t.wp (Po K ρ σ Rel G H Q) (Xo cl (E σ) (Owns ρ σ) H) → te σ H Q
abbrev Ev (K : PySem.W.Frag) (cl : Ek → Addr) (E : L2.St → Option XK) (te : TE) (ρ : List Sl) (t : Tr PyData) : Prop := EvG K cl E (Rp K) te ρ t
abbrev EvT (K : PySem.W.Frag) (cl : Ek → Addr) (E : L2.St → Option XK) (te : TT) (ρ : List Sl) (t : Tr Bool) : Prop := EvG K cl E (fun _ v d => v = d) te ρ t
section
variable {W' : Type} {K : PySem.W.Frag} {cl : Ek → Addr} {E : L2.St → Option XK} {ρ : List Sl} {σ : L2.St} {G H G1 H1 : Hp} {Rel : Hp → W → α → Prop} {Rel' : Hp → W' → β → Prop}
theorem Po.up (g : Gr (Owns ρ σ) G H G1 H1) {Q : W → Hp → Prop} {d : α} (h : Po K ρ σ Rel G H Q d) : Po K ρ σ Rel G1 H1 Q d := fun v G' H' g' => h v G' H' (g.trans' g')
theorem Xo.up {O : Addr → Prop} {E : Option XK} (g : Gr O G H G1 H1) {c : Ek} (h : Xo cl E O H c) : Xo cl E O H1 c := by
  cases E with
  | none => exact h
  | some E => exact fun H' k => h H' fun a o hn ha => k a o hn (g.fr a o hn ha)
theorem up (g : Gr (Owns ρ σ) G H G1 H1) {Q : W → Hp → Prop} {t : Tr α} (h : t.wp (Po K ρ σ Rel G H Q) (Xo cl (E σ) (Owns ρ σ) H)) : t.wp (Po K ρ σ Rel G1 H1 Q) (Xo cl (E σ) (Owns ρ σ) H1) :=
  Tr.wp_mono (fun _ => Po.up g) (fun _ => Xo.up g) h
/-- one after another -/
theorem EvG.seq {te : L2.St → Hp → (W → Hp → Prop) → Prop} {t : Tr α} {f : α → Tr β} (h : EvG K cl E Rel te ρ t) (S : Sta K G H ρ σ) {Q : W' → Hp → Prop} {R : W → Hp → Prop}
    (hw : (t.bind f).wp (Po K ρ σ Rel' G H Q) (Xo cl (E σ) (Owns ρ σ) H))
    (k : ∀ d v G1 H1, Gr (Owns ρ σ) G H G1 H1 → Sta K G1 H1 ρ σ → Rel G1 v d → (f d).wp (Po K ρ σ Rel' G1 H1 Q) (Xo cl (E σ) (Owns ρ σ) H1) → R v H1) : te σ H R :=
  h G H σ S R (Tr.wp_mono (fun d hd v G' H' g S' r => k d v G' H' g S' r (up g hd)) (fun _ x => x) (Tr.wp_bind.mp hw))
theorem Po.now {Q : W → Hp → Prop} {d : α} {v : W} (h : Po K ρ σ Rel G H Q d) (S : Sta K G H ρ σ) (r : Rel G v d) : Q v H := h v G H Gr.refl S r
theorem Po.lay {Q : V → Hp → Prop} {d : PyData} {p : Addr} {o : HO} (h : Po K ρ σ (Rp K) G H Q d) (S : Sta K G H ρ σ) (hp : H p = none) (r : Rp K (upd G p o) (.ref p) d) : Q (.ref p) (upd H p o) :=
  h (.ref p) _ _ (Gr.lay hp S.sub) (S.lay hp) r
end
end Cg
namespace Cg
open PySem L2

/-! ### data -/
def asB : PyData → Tr Bool
  | .bool b => .ret b
  | _ => .bad
def asI : PyData → Tr Int
  | .int i => .ret i
  | _ => .bad
@[simp] theorem asB_bool (b : Bool) : asB (.bool b) = .ret b := rfl
@[simp] theorem asI_int (i : Int) : asI (.int i) = .ret i := rfl
/-- tests by words of the language -/
def isTup : PyData → Bool
  | .tuple _ => true
  | _ => false
def isLst : PyData → Bool
  | .list _ => true
  | _ => false
def isInt : PyData → Bool
  | .int _ => true
  | .bool _ => true
  | _ => false
def isBool : PyData → Bool
  | .bool _ => true
  | _ => false
def isStr : PyData → Bool
  | .str _ => true
  | _ => false
def isNon : PyData → Bool
  | .none => true
  | _ => false
def cEq (a b : PyData) : Tr Bool := if min a.depth b.depth ≤ 64 then .ret (PyData.eqv a b) else .bad
def cNe (a b : PyData) : Tr Bool := if min a.depth b.depth ≤ 64 then .ret (!PyData.eqv a b) else .bad
def memD (a : PyData) (xs : List PyData) : Bool := xs.any fun y => PyData.eqv y a
def cIn (a b : PyData) : Tr Bool := match b with
  | .tuple xs => if min (PyData.depthAll xs) a.depth ≤ 64 then .ret (memD a xs) else .bad
  | .list xs => if min (PyData.depthAll xs) a.depth ≤ 64 then .ret (memD a xs) else .bad
  | _ => .bad
def cNotIn (a b : PyData) : Tr Bool := (cIn a b).bind fun k => .ret (!k)
def cLt : PyData → PyData → Tr Bool
  | .int i, .int j => .ret (decide (i < j))
  | _, _ => .bad
def cLe : PyData → PyData → Tr Bool
  | .int i, .int j => .ret (decide (i ≤ j))
  | _, _ => .bad
def cGt : PyData → PyData → Tr Bool
  | .int i, .int j => .ret (decide (j < i))
  | _, _ => .bad
def cGe : PyData → PyData → Tr Bool
  | .int i, .int j => .ret (decide (j ≤ i))
  | _, _ => .bad
def cIsN (a _b : PyData) : Tr Bool := .ret (isNon a)
def cNotN (a _b : PyData) : Tr Bool := .ret (!isNon a)
def dAdd : PyData → PyData → Tr PyData
  | .int i, .int j => .ret (.int (i + j))
  | .tuple xs, .tuple ys => if xs.length + ys.length ≤ 1000000 then .ret (.tuple (xs ++ ys)) else .bad
  | .list xs, .list ys => if xs.length + ys.length ≤ 1000000 then .ret (.list (xs ++ ys)) else .bad
  | _, _ => .bad
def dSub : PyData → PyData → Tr PyData
  | .int i, .int j => .ret (.int (i - j))
  | _, _ => .bad
def dMul : PyData → PyData → Tr PyData
  | .int i, .int j => if (-(2 ^ 64) < i ∧ i < 2 ^ 64) ∨ (-(2 ^ 64) < j ∧ j < 2 ^ 64) then .ret (.int (i * j)) else .bad
  | .tuple xs, .int k => if 0 < xs.length ∧ xs.length ≤ 1000 ∧ 1 ≤ k ∧ k ≤ 1000 then .ret (.tuple (List.replicate k.toNat xs).flatten) else .bad
  | .list xs, .int k => if xs.length ≤ 100 ∧ -10000 ≤ k ∧ k ≤ 10000 then .ret (.list (List.replicate k.toNat xs).flatten) else .bad
  | _, _ => .bad
def dIx : PyData → PyData → Tr PyData
  | .tuple xs, .int i => match atI xs i with
    | some d => .ret d
    | none => .bad
  | .list xs, .int i => match atI xs i with
    | some d => .ret d
    | none => .bad
  | _, _ => .bad
def dLen : PyData → Tr PyData
  | .tuple xs => .ret (.int xs.length)
  | .list xs => .ret (.int xs.length)
  | _ => .bad
def cutD (xs : List PyData) (lo hi : Option Int) : List PyData := (xs.drop (HT.sIx xs.length 0 lo)).take (HT.sIx xs.length xs.length hi - HT.sIx xs.length 0 lo)
def dSl (a : PyData) (lo hi : Option Int) : Tr PyData := match a with
  | .tuple xs => .ret (.tuple (cutD xs lo hi))
  | .list xs => .ret (.list (cutD xs lo hi))
  | _ => .bad
def items : PyData → Tr (List PyData)
  | .tuple xs => .ret xs
  | .list xs => .ret xs
  | _ => .bad
def dTuple : PyData → Tr PyData
  | .tuple xs => .ret (.tuple xs)
  | .list xs => .ret (.tuple xs)
  | _ => .bad
def dList : PyData → Tr PyData
  | .tuple xs => .ret (.list xs)
  | .list xs => .ret (.list xs)
  | _ => .bad
def asInts : List PyData → Option (List Int)
  | [] => some []
  | .int i :: r => (asInts r).map (i :: ·)
  | _ => none
def dSum : PyData → Tr PyData
  | .list xs => match asInts xs with
    | some ns => .ret (.int ns.sum)
    | none => .bad
  | _ => .bad
def dAbs : PyData → Tr PyData
  | .int i => .ret (.int (if i < 0 then -i else i))
  | _ => .bad

section
variable {K : PySem.W.Frag} {cl : Ek → Addr} {E : L2.St → Option XK} {ρ : List Sl}

/-! ### names, constants -/
theorem Sta.var {G H : Hp} {σ : L2.St} (S : Sta K G H ρ σ) {i : Nat} {s : Sl} (h : ρ[i]? = some s) : ∃ o, σ[i]? = some o ∧ SlOk K G H s o := by
  have hi : i < σ.length := by
    rw [← S.len]
    exact (List.getElem?_eq_some_iff.mp h).1
  exact ⟨σ[i], List.getElem?_eq_getElem hi, S.ok i s _ h (List.getElem?_eq_getElem hi)⟩
theorem ev_var {i : Nat} {d : PyData} (h : ρ[i]? = some (.dat d)) : Ev K cl E (tVar i) ρ (.ret d) := fun G H σ S Q q => by
  obtain ⟨o, h1, v, e, r⟩ := S.var h
  rw [e] at h1
  exact ⟨v, h1, Po.now q S r⟩
theorem ev_int {i : Int} : Ev K cl E (tC (.int i)) ρ (.ret (.int i)) := fun G H σ S Q q => Po.now q S (.int i)
theorem ev_bl {b : Bool} : Ev K cl E (tC (.bl b)) ρ (.ret (.bool b)) := fun G H σ S Q q => Po.now q S (.bl b)
theorem ev_str {x : Str} : Ev K cl E (tC (.str x)) ρ (.ret (.str x)) := fun G H σ S Q q => Po.now q S (.str x)
theorem ev_non : Ev K cl E (tC .non) ρ (.ret .none) := fun G H σ S Q q => Po.now q S .non

/-! ### operators -/
def RR (K : PySem.W.Frag) (r : R2) (f : PyData → PyData → Tr PyData) : Prop :=
  ∀ (cl : Ek → Addr) (E : L2.St → Option XK) (ρ : List Sl) (σ : L2.St) (G H : Hp) (x y : V) (a b : PyData), Sta K G H ρ σ → Rp K G x a → Rp K G y b → ∀ Q : VK, (f a b).wp (Po K ρ σ (Rp K) G H Q) (Xo cl (E σ) (Owns ρ σ) H) → r x y H Q
def RC (K : PySem.W.Frag) (r : R2) (c : PyData → PyData → Tr Bool) : Prop :=
  ∀ (G H : Hp) (x y : V) (a b : PyData) (E : Ek → Prop), Ex G H → Rp K G x a → Rp K G y b → ∀ Q : VK, (c a b).wp (fun k => Q (.bl k) H) E → r x y H Q
theorem ev_op {r : R2} {f : PyData → PyData → Tr PyData} {ta tb : TE} {fa fb : Tr PyData} (hr : RR K r f) (ha : Ev K cl E ta ρ fa) (hb : Ev K cl E tb ρ fb) : Ev K cl E (tOp r ta tb) ρ (fa.bind fun a => fb.bind fun b => f a b) :=
  fun G H σ S Q h => ha.seq S h fun a x G1 H1 g1 S1 rx h1 => hb.seq S1 h1 fun b y G2 H2 g2 S2 ry h2 => hr cl E ρ σ G2 H2 x y a b S2 (rx.mono g2.ex) ry Q h2
theorem ev_cmp {r : R2} {c : PyData → PyData → Tr Bool} {ta tb : TE} {fa fb : Tr PyData} (hr : RC K r c) (ha : Ev K cl E ta ρ fa) (hb : Ev K cl E tb ρ fb) : Ev K cl E (tOp r ta tb) ρ (fa.bind fun a => fb.bind fun b => (c a b).bind fun k => .ret (.bool k)) :=
  fun G H σ S Q h => ha.seq S h fun a x G1 H1 g1 S1 rx h1 => hb.seq S1 h1 fun b y G2 H2 g2 S2 ry h2 => by
    refine hr G2 H2 x y a b _ S2.sub (rx.mono g2.ex) ry Q (Tr.wp_mono (fun k hk => ?_) (fun _ z => z) (Tr.wp_bind.mp h2))
    exact Po.now hk S2 (.bl k)
theorem et_cmp {r : R2} {c : PyData → PyData → Tr Bool} {ta tb : TE} {fa fb : Tr PyData} (hr : RC K r c) (ha : Ev K cl E ta ρ fa) (hb : Ev K cl E tb ρ fb) : EvT K cl E (tTest (tOp r ta tb)) ρ (fa.bind fun a => fb.bind fun b => c a b) :=
  fun G H σ S Q h => ha.seq S h fun a x G1 H1 g1 S1 rx h1 => hb.seq S1 h1 fun b y G2 H2 g2 S2 ry h2 => by
    refine hr G2 H2 x y a b _ S2.sub (rx.mono g2.ex) ry _ (Tr.wp_mono (fun k hk => ?_) (fun _ z => z) h2)
    exact ⟨k, rfl, Po.now hk S2 rfl⟩
/-- a chained comparison -/
theorem et_chain {r r' : R2} {c c' : PyData → PyData → Tr Bool} {ta tb tc : TE} {fa fb fc : Tr PyData} (hr : RC K r c) (hr' : RC K r' c') (ha : Ev K cl E ta ρ fa) (hb : Ev K cl E tb ρ fb) (hc : Ev K cl E tc ρ fc) :
    EvT K cl E (tTest (tChain r r' ta tb tc)) ρ (fa.bind fun a => fb.bind fun b => (c a b).bind fun k => if k then fc.bind fun z => c' b z else .ret false) :=
  fun G H σ S Q h => ha.seq S h fun a x G1 H1 g1 S1 rx h1 => hb.seq S1 h1 fun b y G2 H2 g2 S2 ry h2 => by
    refine hr G2 H2 x y a b _ S2.sub (rx.mono g2.ex) ry _ (Tr.wp_mono (fun k hk => ?_) (fun _ z => z) (Tr.wp_bind.mp h2))
    refine ⟨k, rfl, ?_⟩
    cases k with
    | true =>
      refine hc.seq (f := fun z => c' b z) (Rel' := fun _ (v : Bool) d => v = d) S2 hk fun z w G3 H3 g3 S3 rz h3 => ?_
      refine hr' G3 H3 y w b z _ S3.sub (ry.mono g3.ex) rz _ (Tr.wp_mono (fun k hk => ?_) (fun _ z => z) h3)
      exact ⟨k, rfl, Po.now hk S3 rfl⟩
    | false => exact ⟨false, rfl, Po.now hk S2 rfl⟩
theorem ev_chain {r r' : R2} {c c' : PyData → PyData → Tr Bool} {ta tb tc : TE} {fa fb fc : Tr PyData} (hr : RC K r c) (hr' : RC K r' c') (ha : Ev K cl E ta ρ fa) (hb : Ev K cl E tb ρ fb) (hc : Ev K cl E tc ρ fc) :
    Ev K cl E (tChain r r' ta tb tc) ρ (fa.bind fun a => fb.bind fun b => (c a b).bind fun k => if k then fc.bind fun z => (c' b z).bind fun k => .ret (.bool k) else .ret (.bool false)) :=
  fun G H σ S Q h => ha.seq S h fun a x G1 H1 g1 S1 rx h1 => hb.seq S1 h1 fun b y G2 H2 g2 S2 ry h2 => by
    refine hr G2 H2 x y a b _ S2.sub (rx.mono g2.ex) ry _ (Tr.wp_mono (fun k hk => ?_) (fun _ z => z) (Tr.wp_bind.mp h2))
    refine ⟨k, rfl, ?_⟩
    cases k with
    | true =>
      refine hc.seq (f := fun z => (c' b z).bind fun k => .ret (.bool k)) (Rel' := Rp K) S2 hk fun z w G3 H3 g3 S3 rz h3 => ?_
      refine hr' G3 H3 y w b z _ S3.sub (ry.mono g3.ex) rz _ (Tr.wp_mono (fun k hk => ?_) (fun _ z => z) (Tr.wp_bind.mp h3))
      exact Po.now hk S3 (.bl k)
    | false => exact Po.now hk S2 (.bl false)

/-! ### tests -/
theorem et_B {te : TE} {f : Tr PyData} (h : Ev K cl E te ρ f) : EvT K cl E (tB te) ρ (f.bind asB) := fun G H σ S Q q => h.seq S q fun a x G1 H1 g1 S1 rx h1 => by
  cases rx with
  | bl b => exact ⟨b, rfl, Po.now h1 S1 rfl⟩
  | _ => exact h1.elim
theorem et_yes : EvT K cl E tYes ρ (.ret true) := fun G H σ S Q q => Po.now q S rfl
theorem et_and {t u : TT} {f g : Tr Bool} (h1 : EvT K cl E t ρ f) (h2 : EvT K cl E u ρ g) : EvT K cl E (tAnd t u) ρ (f.bind fun a => if a then g else .ret false) := fun G H σ S Q q => h1.seq S q fun a x G1 H1 g1 S1 rx q1 => by
  cases rx
  cases a with
  | true => exact h2 G1 H1 σ S1 Q q1
  | false => exact Po.now q1 S1 rfl
theorem et_or {t u : TT} {f g : Tr Bool} (h1 : EvT K cl E t ρ f) (h2 : EvT K cl E u ρ g) : EvT K cl E (tOr t u) ρ (f.bind fun a => if a then .ret true else g) := fun G H σ S Q q => h1.seq S q fun a x G1 H1 g1 S1 rx q1 => by
  cases rx
  cases a with
  | true => exact Po.now q1 S1 rfl
  | false => exact h2 G1 H1 σ S1 Q q1
theorem et_not {t : TT} {f : Tr Bool} (h1 : EvT K cl E t ρ f) : EvT K cl E (tNot t) ρ (f.bind fun a => .ret (!a)) := fun G H σ S Q q => h1.seq S q fun a x G1 H1 g1 S1 rx q1 => by
  cases rx
  exact Po.now q1 S1 rfl
theorem ev_andV {ta tb : TE} {fa fb : Tr PyData} (h1 : Ev K cl E ta ρ fa) (h2 : Ev K cl E tb ρ fb) : Ev K cl E (tAndV ta tb) ρ (fa.bind fun a => (asB a).bind fun c => if c then fb else .ret (.bool false)) := fun G H σ S Q q => h1.seq S q fun a x G1 H1 g1 S1 rx q1 => by
  cases rx with
  | bl b =>
    refine ⟨b, rfl, ?_⟩
    cases b with
    | true => exact h2 G1 H1 σ S1 Q q1
    | false => exact Po.now q1 S1 (.bl false)
  | _ => exact q1.elim
theorem ev_orV {ta tb : TE} {fa fb : Tr PyData} (h1 : Ev K cl E ta ρ fa) (h2 : Ev K cl E tb ρ fb) : Ev K cl E (tOrV ta tb) ρ (fa.bind fun a => (asB a).bind fun c => if c then .ret (.bool true) else fb) := fun G H σ S Q q => h1.seq S q fun a x G1 H1 g1 S1 rx q1 => by
  cases rx with
  | bl b =>
    refine ⟨b, rfl, ?_⟩
    cases b with
    | true => exact Po.now q1 S1 (.bl true)
    | false => exact h2 G1 H1 σ S1 Q q1
  | _ => exact q1.elim
theorem ev_notV {ta : TE} {fa : Tr PyData} (h1 : Ev K cl E ta ρ fa) : Ev K cl E (tNotV ta) ρ (fa.bind fun a => (asB a).bind fun c => .ret (.bool (!c))) := fun G H σ S Q q => h1.seq S q fun a x G1 H1 g1 S1 rx q1 => by
  cases rx with
  | bl b => exact ⟨b, rfl, Po.now q1 S1 (.bl (!b))⟩
  | _ => exact q1.elim
theorem ev_if {t : TT} {ta tb : TE} {ft : Tr Bool} {fa fb : Tr PyData} (h : EvT K cl E t ρ ft) (h1 : Ev K cl E ta ρ fa) (h2 : Ev K cl E tb ρ fb) : Ev K cl E (tIf t ta tb) ρ (ft.bind fun b => if b then fa else fb) := fun G H σ S Q q => h.seq S q fun a x G1 H1 g1 S1 rx q1 => by
  cases rx
  cases a with
  | true => exact h1 G1 H1 σ S1 Q q1
  | false => exact h2 G1 H1 σ S1 Q q1

/-! ### arguments, displays -/
/-- arguments, ahead of anything that goes on with them -/
def EvA (K : PySem.W.Frag) (cl : Ek → Addr) (E : L2.St → Option XK) (te : TA) (ρ : List Sl) (n : Nat) (F : ∀ β : Type, (List PyData → Tr β) → Tr β) : Prop :=
  ∀ (G H : Hp) (σ : L2.St), Sta K G H ρ σ → ∀ {W β : Type} (Rel : Hp → W → β → Prop) (k : List PyData → Tr β) (Q : W → Hp → Prop) (R : List V → Hp → Prop), (F β k).wp (Po K ρ σ Rel G H Q) (Xo cl (E σ) (Owns ρ σ) H) →
    (∀ ds vs G1 H1, Gr (Owns ρ σ) G H G1 H1 → Sta K G1 H1 ρ σ → RpAll K G1 vs ds → ds.length = n → (k ds).wp (Po K ρ σ Rel G1 H1 Q) (Xo cl (E σ) (Owns ρ σ) H1) → R vs H1) → te σ H R
theorem ea_nil : EvA K cl E tNil ρ 0 fun _ k => k [] := fun G H σ S _ _ _ _ _ _ q h => h [] [] G H Gr.refl S .nil rfl q
theorem ea_cons {ta : TE} {tr : TA} {fa : Tr PyData} {n : Nat} {F : ∀ β : Type, (List PyData → Tr β) → Tr β} (h : Ev K cl E ta ρ fa) (hr : EvA K cl E tr ρ n F) : EvA K cl E (tCons ta tr) ρ (n + 1) fun β k => fa.bind fun a => F β fun r => k (a :: r) :=
  fun G H σ S _ _ Rel k Q R q c => h.seq S q fun a x G1 H1 g1 S1 rx q1 => hr G1 H1 σ S1 Rel (fun r => k (a :: r)) Q _ q1 fun ds vs G2 H2 g2 S2 rs hl q2 =>
    c (a :: ds) (x :: vs) G2 H2 (g1.trans' g2) S2 (.cons (rx.mono g2.ex) rs) (congrArg (· + 1) hl) q2
theorem ev_tup {ta : TA} {n : Nat} {F : ∀ β : Type, (List PyData → Tr β) → Tr β} (h : EvA K cl E ta ρ n F) (hn : n ≤ 1000 := by decide) : Ev K cl E (tTup ta) ρ (F _ fun ds => .ret (.tuple ds)) :=
  fun G H σ S Q q => h G H σ S (Rp K) _ Q _ q fun ds vs G1 H1 g1 S1 rs hl q1 => by
    have hs : ds.length ≤ sizeLine := by rw [hl, sizeLine_eq]; omega
    exact ⟨by rw [rs.len]; exact hs, fun p hp => Po.lay q1 S1 hp (.tup (SqT.of upd_same) hs (rs.mono (Ex.new (S1.sub.back hp))))⟩
theorem ev_lst {ta : TA} {n : Nat} {F : ∀ β : Type, (List PyData → Tr β) → Tr β} (h : EvA K cl E ta ρ n F) (hn : n ≤ 1000 := by decide) : Ev K cl E (tLst ta) ρ (F _ fun ds => .ret (.list ds)) :=
  fun G H σ S Q q => h G H σ S (Rp K) _ Q _ q fun ds vs G1 H1 g1 S1 rs hl q1 => by
    have hs : ds.length ≤ sizeLine := by rw [hl, sizeLine_eq]; omega
    exact ⟨by rw [rs.len]; exact hs, fun p hp => Po.lay q1 S1 hp (.lst (SqL.of upd_same) hs (rs.mono (Ex.new (S1.sub.back hp))))⟩

/-! ### calls of built-ins by values -/
def RK (K : PySem.W.Frag) (r : List V → Hp → VK → Prop) (f : List PyData → Tr PyData) : Prop :=
  ∀ (cl : Ek → Addr) (E : L2.St → Option XK) (ρ : List Sl) (σ : L2.St) (G H : Hp) (vs : List V) (ds : List PyData), Sta K G H ρ σ → RpAll K G vs ds → ∀ Q : VK, (f ds).wp (Po K ρ σ (Rp K) G H Q) (Xo cl (E σ) (Owns ρ σ) H) → r vs H Q
theorem ev_cb {r : List V → Hp → VK → Prop} {f : List PyData → Tr PyData} {ta : TA} {n : Nat} {F : ∀ β : Type, (List PyData → Tr β) → Tr β} (hr : RK K r f) (h : EvA K cl E ta ρ n F) : Ev K cl E (tCB r ta) ρ (F _ f) :=
  fun G H σ S Q q => h G H σ S (Rp K) f Q _ q fun ds vs G1 H1 g1 S1 rs hl q1 => hr cl E ρ σ G1 H1 vs ds S1 rs Q q1
/-- of one argument -/
def on1 (f : PyData → Tr PyData) : List PyData → Tr PyData
  | [a] => f a
  | _ => .bad
def on2 (f : PyData → PyData → Tr PyData) : List PyData → Tr PyData
  | [a, b] => f a b
  | _ => .bad
def RK1 (K : PySem.W.Frag) (r : List V → Hp → VK → Prop) (f : PyData → Tr PyData) : Prop :=
  ∀ (cl : Ek → Addr) (E : L2.St → Option XK) (ρ : List Sl) (σ : L2.St) (G H : Hp) (x : V) (a : PyData), Sta K G H ρ σ → Rp K G x a → ∀ Q : VK, (f a).wp (Po K ρ σ (Rp K) G H Q) (Xo cl (E σ) (Owns ρ σ) H) → r [x] H Q
theorem ev_cb1 {r : List V → Hp → VK → Prop} {f : PyData → Tr PyData} {ta : TE} {fa : Tr PyData} (hr : RK1 K r f) (h : Ev K cl E ta ρ fa) : Ev K cl E (tCB r (tCons ta tNil)) ρ (fa.bind f) :=
  fun G H σ S Q q => h.seq S q fun a x G1 H1 g1 S1 rx q1 => hr cl E ρ σ G1 H1 x a S1 rx Q q1

/-! ### subscripts, slices -/
theorem eo_none : EvG K cl E (fun _ (v : Option Int) d => v = d) tNoPart ρ (.ret none) := fun G H σ S Q q => Po.now q S rfl
theorem eo_some {te : TE} {f : Tr PyData} (h : Ev K cl E te ρ f) : EvG K cl E (fun _ (v : Option Int) d => v = d) (tPart te) ρ (f.bind fun a => (asI a).bind fun i => .ret (some i)) := fun G H σ S Q q => h.seq S q fun a x G1 H1 g1 S1 rx q1 => by
  cases rx with
  | int i => exact ⟨i, rfl, Po.now q1 S1 rfl⟩
  | _ => exact q1.elim
def RS (K : PySem.W.Frag) (r : V → Option Int → Option Int → Hp → VK → Prop) : Prop :=
  ∀ (cl : Ek → Addr) (E : L2.St → Option XK) (ρ : List Sl) (σ : L2.St) (G H : Hp) (x : V) (a : PyData) (lo hi : Option Int), Sta K G H ρ σ → Rp K G x a → ∀ Q : VK, (dSl a lo hi).wp (Po K ρ σ (Rp K) G H Q) (Xo cl (E σ) (Owns ρ σ) H) → r x lo hi H Q
theorem ev_sl {r : V → Option Int → Option Int → Hp → VK → Prop} {te : TE} {tl th : TO} {f : Tr PyData} {fl fh : Tr (Option Int)} (hr : RS K r) (h : Ev K cl E te ρ f) (h1 : EvG K cl E (fun _ (v : Option Int) d => v = d) tl ρ fl) (h2 : EvG K cl E (fun _ (v : Option Int) d => v = d) th ρ fh) :
    Ev K cl E (tSl r te tl th) ρ (f.bind fun a => fl.bind fun lo => fh.bind fun hi => dSl a lo hi) :=
  fun G H σ S Q q => h.seq S q fun a x G1 H1 g1 S1 rx q1 => h1.seq S1 q1 fun lo lo' G2 H2 g2 S2 e2 q2 => h2.seq S2 q2 fun hi hi' G3 H3 g3 S3 e3 q3 => by
    cases e2
    cases e3
    exact hr cl E ρ σ G3 H3 x a lo hi S3 (rx.mono (g2.ex.trans g3.ex)) Q q3
end
end Cg
namespace L2
open PySem PySem.Spec PyProof.Rows
section
variable {X : Cx}
/-! ### ==, !=, in, not in of data without dicts, one side of which is not deep -/
def rEqP (K : PySem.W.Frag) : R2 := fun x y H Q => ∃ d e, Dp K H x d ∧ Dp K H y e ∧ d.plain = true ∧ e.plain = true ∧ min d.depth e.depth ≤ 64 ∧ Q (.bl (PyData.eqv d e)) H
def rNeP (K : PySem.W.Frag) : R2 := fun x y H Q => ∃ d e, Dp K H x d ∧ Dp K H y e ∧ d.plain = true ∧ e.plain = true ∧ min d.depth e.depth ≤ 64 ∧ Q (.bl (!PyData.eqv d e)) H
theorem op_eqP (hu : X.A.units + 64 < cLine) : OpR X (compareOp .Eq) (rEqP X.K) := by
  intro pins s σ H x y v u Q I rx ry h
  obtain ⟨d, e, hd, he, sd, se, hm, q⟩ := h
  obtain ⟨as, r1⟩ := Dp.reads I d x v hd rx
  obtain ⟨bs, r2⟩ := Dp.reads I e y u he ry
  exact SeqAt.eq_plain r1 r2 sd se (by omega) ⟨.bl _, H, I, rfl, q⟩
theorem op_neP (hu : X.A.units + 64 < cLine) : OpR X (compareOp .NotEq) (rNeP X.K) := by
  intro pins s σ H x y v u Q I rx ry h
  obtain ⟨d, e, hd, he, sd, se, hm, q⟩ := h
  obtain ⟨as, r1⟩ := Dp.reads I d x v hd rx
  obtain ⟨bs, r2⟩ := Dp.reads I e y u he ry
  exact SeqAt.ne_plain r1 r2 sd se (by omega) ⟨.bl _, H, I, rfl, q⟩
def rInP (K : PySem.W.Frag) : R2 := fun x y H Q => ∃ d es, Dp K H x d ∧ (Dp K H y (.tuple es) ∨ Dp K H y (.list es)) ∧ d.plain = true ∧ PyData.plainAll es = true ∧ min (PyData.depthAll es) d.depth ≤ 64 ∧ Q (.bl (es.any fun z => PyData.eqv z d)) H
def rNotInP (K : PySem.W.Frag) : R2 := fun x y H Q => ∃ d es, Dp K H x d ∧ (Dp K H y (.tuple es) ∨ Dp K H y (.list es)) ∧ d.plain = true ∧ PyData.plainAll es = true ∧ min (PyData.depthAll es) d.depth ≤ 64 ∧ Q (.bl (!es.any fun z => PyData.eqv z d)) H
theorem op_inP (hu : X.A.units + 65 < cLine) : OpR X (compareOp .In) (rInP X.K) := by
  intro pins s σ H x y v u Q I rx ry h
  obtain ⟨d, es, hd, he, sd, se, hm, q⟩ := h
  obtain ⟨as, r1⟩ := Dp.reads I d x v hd rx
  rcases he with he | he
  · obtain ⟨bs, r2⟩ := Dp.reads I (.tuple es) y u he ry
    exact SeqAt.in_tuple_data r2 r1 se sd (by omega) ⟨.bl _, H, I, rfl, q⟩
  · obtain ⟨bs, r2⟩ := Dp.reads I (.list es) y u he ry
    exact SeqAt.in_list_data r2 r1 se sd (by omega) ⟨.bl _, H, I, rfl, q⟩
theorem op_notInP (hu : X.A.units + 65 < cLine) : OpR X (compareOp .NotIn) (rNotInP X.K) := by
  intro pins s σ H x y v u Q I rx ry h
  obtain ⟨d, es, hd, he, sd, se, hm, q⟩ := h
  obtain ⟨as, r1⟩ := Dp.reads I d x v hd rx
  rcases he with he | he
  · obtain ⟨bs, r2⟩ := Dp.reads I (.tuple es) y u he ry
    exact SeqAt.notIn_tuple_data r2 r1 se sd (by omega) ⟨.bl _, H, I, rfl, q⟩
  · obtain ⟨bs, r2⟩ := Dp.reads I (.list es) y u he ry
    exact SeqAt.notIn_list_data r2 r1 se sd (by omega) ⟨.bl _, H, I, rfl, q⟩
/-! ### tuple * 1 is the tuple -/
theorem tuple_mul1 (l : Addr) (items : Array Value) (n : Nat) (dd : Option Addr) (sl : Array (Option Value)) (u : Tok) :
    Meets (Builtin.«tuple.__mul__» ⟨[.ref l, .int 1 u], []⟩) (fun _ R s => s.heap.get? l = some { cls := .type "tuple", dict := dd, data := .seq items n, slots := sl } ∧ R (.ok (.ret (Value.ref l))) s) :=
  .of_wp fun prog w A R s h => by
    obtain ⟨hp, g, d, tk, os⟩ := s
    obtain ⟨hl, h⟩ := h
    have f1 := AutoSeq1.idx_int
    have c0 : (decide ((1 : Int) < -(2 ^ 63)) || decide ((1 : Int) ≥ 2 ^ 63)) = false := by decide
    have c1 : (items.isEmpty || (1 : Int) == 1) = true := by rw [show ((1 : Int) == 1) = true from rfl, Bool.or_true]
    wp_walk using wpAny_loadPart' hl
    repeat (first
      | (refine wpAny_ite_false (decide_eq_false (by rw [c0]; exact Bool.false_ne_true)) ?_; wp_walk using wpAny_loadPart' hl)
      | (refine wpAny_ite_true (decide_eq_true c1) ?_; wp_walk using wpAny_loadPart' hl))
    all_goals first
      | exact ⟨_, rfl, h⟩
      | skip
def rRepT1 (K : PySem.W.Frag) : R2 := fun x y H Q => ∃ l xs, x = .ref l ∧ y = .int 1 ∧ SqT K H l xs ∧ Q (.ref l) H
theorem op_repT1 : OpR X (binaryOp .Mult) (rRepT1 X.K) := by
  intro pins s σ H x y v u Q I rx ry h
  obtain ⟨l, xs, rfl, rfl, hT, q⟩ := h
  cases rx
  obtain ⟨t, rfl⟩ := ry
  obtain ⟨its, r, ⟨⟨cls, dd, data, sl⟩, ho, hc, n, hd⟩, hs⟩ := I.tuple hT
  simp only at hc hd
  subst hc hd
  refine wpAny_binaryOp_repeat_ref (T := "tuple") (U := "int") (by decide) ⟨_, ho, rfl⟩ (fun s' => typeIs_int s' 1 t) noFill_tuple_mul F.fills_int_mul F.slot_int_rmul repeat_tuple F.slot_int_index.lookup
    (call_meets F.slot_int_rmul (typeIs_int s 1 t) F.entry_int_rmul (F.args_int_rmul_2 _ _) (int_rmul_tuple 1 t l its.toArray n dd sl)
      ⟨ho, rfl, ⟨_, ho, rfl⟩, call_meets F.slot_tuple_mul ⟨_, ho, rfl⟩ F.entry_tuple_mul (F.args_tuple_mul_2 _ _) (tuple_mul1 l its.toArray n dd sl t) ⟨ho, ?_⟩⟩)
  exact ⟨.ref l, H, I, rfl, q⟩
end
end L2
namespace Cg
open PySem L2
section
variable {K : PySem.W.Frag}

/-! ### comparisons -/
theorem rc_eq : RC K (rEqP K) cEq := fun G H x y a b Er e rx ry Q h => by
  unfold cEq at h
  split at h
  · exact ⟨a, b, (rx.mono e).dp, (ry.mono e).dp, rx.plain, ry.plain, by assumption, h⟩
  · exact h.elim
theorem rc_ne : RC K (rNeP K) cNe := fun G H x y a b Er e rx ry Q h => by
  unfold cNe at h
  split at h
  · exact ⟨a, b, (rx.mono e).dp, (ry.mono e).dp, rx.plain, ry.plain, by assumption, h⟩
  · exact h.elim
theorem rc_in : RC K (rInP K) cIn := fun G H x y a b Er e rx ry Q h => by
  cases ry with
  | @tup t xs es hs hl ha =>
    have h' : (if min (PyData.depthAll es) a.depth ≤ 64 then Tr.ret (memD a es) else .bad).wp (fun k => Q (.bl k) H) Er := h
    split at h'
    · exact ⟨a, es, (rx.mono e).dp, .inl ((Rp.tup hs hl ha).mono e).dp, rx.plain, ha.plain, by assumption, h'⟩
    · exact h'.elim
  | @lst t xs es hs hl ha =>
    have h' : (if min (PyData.depthAll es) a.depth ≤ 64 then Tr.ret (memD a es) else .bad).wp (fun k => Q (.bl k) H) Er := h
    split at h'
    · exact ⟨a, es, (rx.mono e).dp, .inr ((Rp.lst hs hl ha).mono e).dp, rx.plain, ha.plain, by assumption, h'⟩
    · exact h'.elim
  | _ => exact h.elim
theorem rc_notIn : RC K (rNotInP K) cNotIn := fun G H x y a b Er e rx ry Q h => by
  cases ry with
  | @tup t xs es hs hl ha =>
    have h' : ((if min (PyData.depthAll es) a.depth ≤ 64 then Tr.ret (memD a es) else .bad).bind fun k => Tr.ret (!k)).wp (fun k => Q (.bl k) H) Er := h
    split at h'
    · exact ⟨a, es, (rx.mono e).dp, .inl ((Rp.tup hs hl ha).mono e).dp, rx.plain, ha.plain, by assumption, h'⟩
    · exact h'.elim
  | @lst t xs es hs hl ha =>
    have h' : ((if min (PyData.depthAll es) a.depth ≤ 64 then Tr.ret (memD a es) else .bad).bind fun k => Tr.ret (!k)).wp (fun k => Q (.bl k) H) Er := h
    split at h'
    · exact ⟨a, es, (rx.mono e).dp, .inr ((Rp.lst hs hl ha).mono e).dp, rx.plain, ha.plain, by assumption, h'⟩
    · exact h'.elim
  | _ => exact h.elim
theorem rc_lt : RC K (rI0 fun i j => .bl (decide (i < j))) cLt := fun G H x y a b Er e rx ry Q h => by
  cases rx <;> cases ry <;> first
    | exact ⟨_, _, rfl, rfl, h⟩
    | exact h.elim
theorem rc_le : RC K (rI0 fun i j => .bl (decide (i ≤ j))) cLe := fun G H x y a b Er e rx ry Q h => by
  cases rx <;> cases ry <;> first
    | exact ⟨_, _, rfl, rfl, h⟩
    | exact h.elim
theorem rc_gt : RC K (rI0 fun i j => .bl (decide (j < i))) cGt := fun G H x y a b Er e rx ry Q h => by
  cases rx <;> cases ry <;> first
    | exact ⟨_, _, rfl, rfl, h⟩
    | exact h.elim
theorem rc_ge : RC K (rI0 fun i j => .bl (decide (j ≤ i))) cGe := fun G H x y a b Er e rx ry Q h => by
  cases rx <;> cases ry <;> first
    | exact ⟨_, _, rfl, rfl, h⟩
    | exact h.elim
theorem isNon_rp {G : Hp} {x : V} {a : PyData} (r : Rp K G x a) : decide (x = .non) = isNon a := by
  cases r <;> first
    | rfl
    | exact decide_eq_false (fun z => nomatch z)
/-- x is None -/
theorem ev_isN {cl : Ek → Addr} {E : L2.St → Option XK} {ρ : List Sl} {ta : TE} {fa : Tr PyData} (ha : Ev K cl E ta ρ fa) : Ev K cl E (tOp (fun x y H Q => y = .non ∧ Q (.bl (decide (x = .non))) H) ta (tC .non)) ρ (fa.bind fun a => .ret (.bool (isNon a))) :=
  fun G H σ S Q h => ha.seq S h fun a x G1 H1 g1 S1 rx h1 => ⟨rfl, by
    rw [isNon_rp rx]
    exact Po.now h1 S1 (.bl _)⟩
theorem et_isN {cl : Ek → Addr} {E : L2.St → Option XK} {ρ : List Sl} {ta : TE} {fa : Tr PyData} (ha : Ev K cl E ta ρ fa) : EvT K cl E (tTest (tOp (fun x y H Q => y = .non ∧ Q (.bl (decide (x = .non))) H) ta (tC .non))) ρ (fa.bind fun a => .ret (isNon a)) :=
  fun G H σ S Q h => ha.seq S h fun a x G1 H1 g1 S1 rx h1 => ⟨rfl, isNon a, by rw [isNon_rp rx], Po.now h1 S1 rfl⟩
theorem ev_notN {cl : Ek → Addr} {E : L2.St → Option XK} {ρ : List Sl} {ta : TE} {fa : Tr PyData} (ha : Ev K cl E ta ρ fa) : Ev K cl E (tOp (fun x y H Q => y = .non ∧ Q (.bl (!decide (x = .non))) H) ta (tC .non)) ρ (fa.bind fun a => .ret (.bool (!isNon a))) :=
  fun G H σ S Q h => ha.seq S h fun a x G1 H1 g1 S1 rx h1 => ⟨rfl, by
    rw [isNon_rp rx]
    exact Po.now h1 S1 (.bl _)⟩
theorem et_notN {cl : Ek → Addr} {E : L2.St → Option XK} {ρ : List Sl} {ta : TE} {fa : Tr PyData} (ha : Ev K cl E ta ρ fa) : EvT K cl E (tTest (tOp (fun x y H Q => y = .non ∧ Q (.bl (!decide (x = .non))) H) ta (tC .non))) ρ (fa.bind fun a => .ret (!isNon a)) :=
  fun G H σ S Q h => ha.seq S h fun a x G1 H1 g1 S1 rx h1 => ⟨rfl, !isNon a, by rw [isNon_rp rx], Po.now h1 S1 rfl⟩

/-! ### operators -/
theorem add_any (l : Addr) (us : Array Value) (n : Nat) (sl : Array (Option Value)) (b : Addr) (vs : Array Value) (m : Nat) (sk : Array (Option Value)) (hz : us.size + vs.size ≤ sizeLine) :
    Meets (Builtin.«list.__add__» ⟨[.ref l, .ref b], []⟩) (fun _ R s => s.heap.get? l = some ⟨.type "list", none, .seq us n, sl⟩ ∧ s.heap.get? b = some ⟨.type "list", none, .seq vs m, sk⟩ ∧
      R (.ok (.ret (Value.ref s.heap.objs.size))) { s with heap := s.heap.push { cls := Value.type "list", data := Data.seq (us ++ vs) }, toks := s.toks }) := by
  refine .of_wp fun prog w A R s h => ?_
  obtain ⟨hp, g, d, tk, os⟩ := s
  obtain ⟨h1, h2, h⟩ := h
  have q1 := AutoSeq1.idx_int
  have q2 := AutoSeq1.sub_list_list
  have q3 := AutoSeq1.sub_list_tuple
  have q4 := AutoSeq1.sub_tuple_list
  have q5 := AutoSeq1.sub_tuple_tuple
  wp_walk using AutoSeq1.wpAny_loadPart' h1, AutoSeq1.wpAny_loadPart' h2
  exact ⟨_, rfl, h⟩
theorem mul_any (l : Addr) (us : Array Value) (n : Nat) (sl : Array (Option Value)) (x : Int) (u : Tok) (hc0 : ¬(!Builtin.List.listFitsIndex x) = true) (hc1 : ¬us.size * x.toNat > (2 ^ 63 - 1) / 8) (hc2 : ¬Builtin.List.listTooLong (us.size * x.toNat) = true) :
    Meets (Builtin.«list.__mul__» ⟨[.ref l, .int x u], []⟩) (fun _ R s => s.heap.get? l = some ⟨.type "list", none, .seq us n, sl⟩ ∧
      R (.ok (.ret (Value.ref s.heap.objs.size))) { s with heap := s.heap.push { cls := Value.type "list", data := Data.seq (List.foldl (fun x1 x2 => x1 ++ x2) #[] (List.replicate (if us.isEmpty = true then 0 else x.toNat) us)) }, toks := s.toks }) := by
  refine .of_wp fun prog w A R s h => ?_
  obtain ⟨hp, g, d, tk, os⟩ := s
  obtain ⟨hl, h⟩ := h
  have hz := AutoListH.joined_fits hc2
  wp_walk
  refine wpAny_ite_false (decide_eq_false (Nat.not_lt.mpr hz)) ?_
  wp_walk
  exact ⟨_, rfl, h⟩
theorem rmul_any (a : Int) (t : Tok) (l : Addr) (us : Array Value) (n : Nat) (sl : Array (Option Value)) :
    Meets (Builtin.«int.__rmul__» ⟨[.int a t, .ref l], []⟩) (fun _ R s => s.heap.get? l = some ⟨.type "list", none, .seq us n, sl⟩ ∧ R (.ok (.ret Value.notImplemented)) s) := by
  refine .of_wp fun prog w A R s h => ?_
  obtain ⟨hp, g, d, tk, os⟩ := s
  obtain ⟨hl, h⟩ := h
  wp_walk
  exact ⟨_, rfl, h⟩
/-- lists, also such as were there before -/
def rCatL (K : PySem.W.Frag) : R2 := fun x y H Q => ∃ a b xs ys, x = .ref a ∧ y = .ref b ∧ SqL K H a xs ∧ SqL K H b ys ∧ xs.length + ys.length ≤ sizeLine ∧ ∀ p, H p = none → Q (.ref p) (upd H p (.lst (xs ++ ys)))
theorem op_catL {X : Cx} : OpR X (binaryOp .Add) (rCatL X.K) := by
  intro pins s σ H x y v u Q I rx ry h
  obtain ⟨a, b, xs, ys, rfl, rfl, ha, hb, hz, q⟩ := h
  cases rx
  cases ry
  obtain ⟨its, r, ⟨⟨cls, dd, data, sl⟩, n, e, h1, h2, h3⟩, z⟩ := I.list ha
  obtain ⟨its2, r2, ⟨⟨cls2, dd2, data2, sl2⟩, n2, e2, h1', h2', h3'⟩, z2⟩ := I.list hb
  simp only at h1 h2 h3 h1' h2' h3'
  subst h1 h2 h3 h1' h2' h3'
  have l1 := r.length
  have l2 := r2.length
  refine PySem.concat_meets ⟨_, e, rfl⟩ ⟨_, e2, rfl⟩ PySem.noFill_list_add PySem.seq_list_add F.slot_list_add F.entry_list_add (F.args_list_add_2 _ _) (add_any a its.toArray n sl b its2.toArray n2 sl2 (by rw [List.size_toArray, List.size_toArray]; omega)) ⟨e, e2, ?_⟩
  have ea : its.toArray ++ its2.toArray = (its ++ its2).toArray := by simp
  rw [ea]
  exact ⟨.ref _, _, I.lnew (t' := s.toks) (r.append r2) (by rw [List.length_append]; omega), rfl, q _ I.fresh⟩
def rRepL (K : PySem.W.Frag) : R2 := fun x y H Q => ∃ l k xs, x = .ref l ∧ y = .int k ∧ SqL K H l xs ∧ -(2 ^ 63) ≤ k ∧ k < 2 ^ 63 ∧ xs.length * k.toNat ≤ sizeLine ∧ ∀ p, H p = none → Q (.ref p) (upd H p (.lst (List.replicate k.toNat xs).flatten))
theorem op_repL {X : Cx} : OpR X (binaryOp .Mult) (rRepL X.K) := by
  intro pins s σ H x y v u Q I rx ry h
  obtain ⟨l, k, xs, rfl, rfl, hH, h1, h2, hz, q⟩ := h
  cases rx
  obtain ⟨t, rfl⟩ := ry
  obtain ⟨its, r, ⟨⟨cls, dd, data, sl⟩, n, e, g1, g2, g3⟩, z⟩ := I.list hH
  simp only at g1 g2 g3
  subst g1 g2 g3
  have l1 := r.length
  have hlen : its.toArray.size * k.toNat ≤ sizeLine := by rw [List.size_toArray, ← l1]; exact hz
  have hcap : ¬ its.toArray.size * k.toNat > (2 ^ 63 - 1) / 8 := by
    have : (sizeLine : Nat) ≤ (2 ^ 63 - 1) / 8 := by decide
    omega
  have hfit : ¬ (!Builtin.List.listFitsIndex k) = true := by
    rw [fitsIndex_both h1 h2]
    exact Bool.false_ne_true
  have hlong : ¬ Builtin.List.listTooLong (its.toArray.size * k.toNat) = true := by
    rw [notLongL hlen]
    exact Bool.false_ne_true
  have hnew : List.foldl (fun x1 x2 => x1 ++ x2) #[] (List.replicate (if its.toArray.isEmpty = true then 0 else k.toNat) its.toArray) = (List.replicate k.toNat its).flatten.toArray := by
    have f0 : ∀ m : Nat, List.foldl (fun x1 x2 => x1 ++ x2) #[] (List.replicate m its.toArray) = (List.replicate m its).flatten.toArray := fun m => size_rep its m
    rw [f0]
    cases its with
    | nil => simp
    | cons a r' => rw [if_neg (by simp)]
  refine wpAny_binaryOp_repeat_ref (T := "list") (U := "int") (by decide) ⟨_, e, rfl⟩ (fun s' => typeIs_int s' k t) PySem.noFill_list_mul F.fills_int_mul F.slot_int_rmul PySem.repeat_list F.slot_int_index.lookup
    (PySem.call_meets F.slot_int_rmul (typeIs_int s k t) F.entry_int_rmul (F.args_int_rmul_2 _ _) (rmul_any k t l its.toArray n sl)
      ⟨e, rfl, ⟨_, e, rfl⟩, PySem.call_meets F.slot_list_mul ⟨_, e, rfl⟩ F.entry_list_mul (F.args_list_mul_2 _ _) (mul_any l its.toArray n sl k t hfit hcap hlong) ⟨e, ?_⟩⟩)
  rw [hnew]
  exact ⟨.ref _, _, I.lnew (t' := s.toks) (r.rep k.toNat) (by rw [PyProof.Rows.lm_len_rep_flat, Nat.mul_comm]; exact hz), rfl, q _ I.fresh⟩
def rAddA (K : PySem.W.Frag) : R2 := fun x y H Q => rI0 (fun i j => .int (i + j)) x y H Q ∨ rCatA K x y H Q ∨ rCatL K x y H Q
theorem op_addA {X : Cx} : OpR X (binaryOp .Add) (rAddA X.K) := op_add.or (op_catA.or op_catL)
theorem rr_add : RR K (rAddA K) dAdd := fun cl E ρ σ G H x y a b S rx ry Q h => by
  cases rx with
  | int i =>
    cases ry with
    | int j => exact .inl ⟨i, j, rfl, rfl, Po.now h S (.int _)⟩
    | _ => exact h.elim
  | @tup p xs ds hs hl ha =>
    cases ry with
    | @tup q ys es hs' hl' ha' =>
      have h' : (if ds.length + es.length ≤ 1000000 then Tr.ret (PyData.tuple (ds ++ es)) else .bad).wp (Po K ρ σ (Rp K) G H Q) (Xo cl (E σ) (Owns ρ σ) H) := h
      split at h'
      · rename_i hz
        have hz' : (ds ++ es).length ≤ sizeLine := by rw [List.length_append, sizeLine_eq]; omega
        refine .inr (.inl ⟨p, q, xs, ys, rfl, rfl, S.sub.t hs, S.sub.t hs', by rw [ha.len, ha'.len]; rw [List.length_append] at hz'; exact hz', fun e => ?_, fun e1 e2 => ?_, fun e1 e2 t ht => ?_⟩)
        · subst e
          cases ha
          exact Po.now h' S (.tup hs' hl' ha')
        · subst e2
          cases ha'
          rw [List.append_nil] at h'
          exact Po.now h' S (.tup hs hl ha)
        · exact Po.lay h' S ht (.tup (SqT.of upd_same) hz' ((ha.append ha').mono (Ex.new (S.sub.back ht))))
      · exact h'.elim
    | _ => exact h.elim
  | @lst p xs ds hs hl ha =>
    cases ry with
    | @lst q ys es hs' hl' ha' =>
      have h' : (if ds.length + es.length ≤ 1000000 then Tr.ret (PyData.list (ds ++ es)) else .bad).wp (Po K ρ σ (Rp K) G H Q) (Xo cl (E σ) (Owns ρ σ) H) := h
      split at h'
      · rename_i hz
        have hz' : (ds ++ es).length ≤ sizeLine := by rw [List.length_append, sizeLine_eq]; omega
        refine .inr (.inr ⟨p, q, xs, ys, rfl, rfl, S.sub.l hs, S.sub.l hs', by rw [ha.len, ha'.len]; rw [List.length_append] at hz'; exact hz', fun t ht => ?_⟩)
        exact Po.lay h' S ht (.lst (SqL.of upd_same) hz' ((ha.append ha').mono (Ex.new (S.sub.back ht))))
      · exact h'.elim
    | _ => exact h.elim
  | _ => exact h.elim
theorem rr_sub : RR K (rI0 fun i j => .int (i - j)) dSub := fun cl E ρ σ G H x y a b S rx ry Q h => by
  cases rx with
  | int i =>
    cases ry with
    | int j => exact ⟨i, j, rfl, rfl, Po.now h S (.int _)⟩
    | _ => exact h.elim
  | _ => exact h.elim
def rMulA (K : PySem.W.Frag) : R2 := fun x y H Q => rI CMul (fun i j => .int (i * j)) x y H Q ∨ rRepT K x y H Q ∨ rRepT1 K x y H Q ∨ rRepL K x y H Q
theorem op_mulA {X : Cx} : OpR X (binaryOp .Mult) (rMulA X.K) := op_mul.or (op_repT.or (op_repT1.or op_repL))
theorem rr_mul : RR K (rMulA K) dMul := fun cl E ρ σ G H x y a b S rx ry Q h => by
  cases rx with
  | int i =>
    cases ry with
    | int j =>
      have h' : (if (-(2 ^ 64) < i ∧ i < 2 ^ 64) ∨ (-(2 ^ 64) < j ∧ j < 2 ^ 64) then Tr.ret (PyData.int (i * j)) else .bad).wp (Po K ρ σ (Rp K) G H Q) (Xo cl (E σ) (Owns ρ σ) H) := h
      split at h'
      · exact .inl ⟨i, j, rfl, rfl, by assumption, Po.now h' S (.int _)⟩
      · exact h'.elim
    | _ => exact h.elim
  | @tup p xs ds hs hl ha =>
    cases ry with
    | int k =>
      have h' : (if 0 < ds.length ∧ ds.length ≤ 1000 ∧ 1 ≤ k ∧ k ≤ 1000 then Tr.ret (PyData.tuple (List.replicate k.toNat ds).flatten) else .bad).wp (Po K ρ σ (Rp K) G H Q) (Xo cl (E σ) (Owns ρ σ) H) := h
      split at h'
      · rename_i hz
        by_cases h1 : k = 1
        · subst h1
          refine .inr (.inr (.inl ⟨p, xs, rfl, rfl, S.sub.t hs, ?_⟩))
          have e1 : (List.replicate (1 : Int).toNat ds).flatten = ds := by
            show (List.replicate 1 ds).flatten = ds
            simp
          rw [e1] at h'
          exact Po.now h' S (.tup hs hl ha)
        · refine .inr (.inl ⟨p, k, xs, rfl, rfl, S.sub.t hs, fun z => ?_, by omega, by omega, by rw [ha.len]; omega, fun t ht => ?_⟩)
          · have e := ha.len
            rw [z] at e
            have : ds.length = 0 := e.symm
            omega
          · refine Po.lay h' S ht (.tup (SqT.of upd_same) ?_ ((ha.rep k.toNat).mono (Ex.new (S.sub.back ht))))
            rw [PyProof.Rows.lm_len_rep_flat, sizeLine_eq]
            have a1 : k.toNat * ds.length ≤ 1000 * 1000 := Nat.mul_le_mul (by omega) (by omega)
            omega
      · exact h'.elim
    | _ => exact h.elim
  | @lst p xs ds hs hl ha =>
    cases ry with
    | int k =>
      have h' : (if ds.length ≤ 100 ∧ -10000 ≤ k ∧ k ≤ 10000 then Tr.ret (PyData.list (List.replicate k.toNat ds).flatten) else .bad).wp (Po K ρ σ (Rp K) G H Q) (Xo cl (E σ) (Owns ρ σ) H) := h
      split at h'
      · rename_i hz
        have a1 : k.toNat * ds.length ≤ 10000 * 100 := Nat.mul_le_mul (by omega) (by omega)
        have a2 : ds.length * k.toNat ≤ 1000000 := by
          rw [Nat.mul_comm]
          exact a1
        refine .inr (.inr (.inr ⟨p, k, xs, rfl, rfl, S.sub.l hs, by omega, by omega, by rw [ha.len, sizeLine_eq]; omega, fun t ht => ?_⟩))
        refine Po.lay h' S ht (.lst (SqL.of upd_same) ?_ ((ha.rep k.toNat).mono (Ex.new (S.sub.back ht))))
        rw [PyProof.Rows.lm_len_rep_flat, sizeLine_eq]
        omega
      · exact h'.elim
    | _ => exact h.elim
  | _ => exact h.elim

/-! ### items, slices -/
theorem ixN_len {α β : Type} {xs : List α} {ys : List β} (h : xs.length = ys.length) {i : Int} {v : β} (e : atI ys i = some v) : ∃ j : Nat, ys[j]? = some v ∧ ∀ x, xs[j]? = some x → atI xs i = some x := by
  unfold atI at e ⊢
  rw [h]
  cases hi : ixN ys.length i with
  | none =>
    rw [hi] at e
    cases e
  | some j =>
    rw [hi] at e
    exact ⟨j, e, fun x hx => hx⟩
theorem rr_ix : RR K (rIx K) dIx := fun cl E ρ σ G H x y a b S rx ry Q h => by
  cases rx with
  | @tup p xs ds hs hl ha =>
    cases ry with
    | int i =>
      have h' : (match atI ds i with | some d => Tr.ret d | none => .bad).wp (Po K ρ σ (Rp K) G H Q) (Xo cl (E σ) (Owns ρ σ) H) := h
      cases hd : atI ds i with
      | none =>
        rw [hd] at h'
        exact h'.elim
      | some d =>
        rw [hd] at h'
        obtain ⟨j, e1, e2⟩ := ixN_len ha.len hd
        obtain ⟨v, hv, rv⟩ := ha.get e1
        exact .inr (.inl ⟨p, xs, i, v, rfl, rfl, S.sub.t hs, e2 v hv, Po.now h' S rv⟩)
    | _ => exact h.elim
  | @lst p xs ds hs hl ha =>
    cases ry with
    | int i =>
      have h' : (match atI ds i with | some d => Tr.ret d | none => .bad).wp (Po K ρ σ (Rp K) G H Q) (Xo cl (E σ) (Owns ρ σ) H) := h
      cases hd : atI ds i with
      | none =>
        rw [hd] at h'
        exact h'.elim
      | some d =>
        rw [hd] at h'
        obtain ⟨j, e1, e2⟩ := ixN_len ha.len hd
        obtain ⟨v, hv, rv⟩ := ha.get e1
        exact .inl ⟨p, xs, i, v, rfl, rfl, S.sub.l hs, e2 v hv, Po.now h' S rv⟩
    | _ => exact h.elim
  | _ => exact h.elim
def rSlP (K : PySem.W.Frag) : V → Option Int → Option Int → Hp → VK → Prop := fun x lo hi H Q => rSlA K x lo hi H Q ∨ rSlL K x lo hi H Q
theorem sl_P {X : Cx} : SlR X (rSlP X.K) := sl_tupA.or sl_list
theorem RpAll.cut {G : Hp} {xs : List V} {ds : List PyData} (h : RpAll K G xs ds) (lo hi : Option Int) : RpAll K G (cutV xs lo hi) (cutD ds lo hi) := by
  unfold cutV cutD
  rw [h.len]
  exact (h.drop _).take _
theorem cutD_len (ds : List PyData) (lo hi : Option Int) : (cutD ds lo hi).length ≤ ds.length := by
  unfold cutD
  rw [List.length_take, List.length_drop]
  omega
theorem rs_P : RS K (rSlP K) := fun cl E ρ σ G H x a lo hi S rx Q h => by
  cases rx with
  | @tup p xs ds hs hl ha =>
    have hz : (cutD ds lo hi).length ≤ sizeLine := Nat.le_trans (cutD_len ds lo hi) hl
    refine .inl ⟨p, xs, rfl, S.sub.t hs, fun ⟨e1, e2⟩ => ?_, fun _ t ht => ?_⟩
    · rw [ha.len] at e1 e2
      have e3 : cutD ds lo hi = ds := by
        unfold cutD
        rw [e1, e2, List.drop_zero, Nat.sub_zero, List.take_length]
      have h' : (Tr.ret (PyData.tuple (cutD ds lo hi))).wp (Po K ρ σ (Rp K) G H Q) (Xo cl (E σ) (Owns ρ σ) H) := h
      rw [e3] at h'
      exact Po.now h' S (.tup hs hl ha)
    · exact Po.lay h S ht (.tup (SqT.of upd_same) hz ((ha.cut lo hi).mono (Ex.new (S.sub.back ht))))
  | @lst p xs ds hs hl ha =>
    have hz : (cutD ds lo hi).length ≤ sizeLine := Nat.le_trans (cutD_len ds lo hi) hl
    exact .inr ⟨p, xs, rfl, S.sub.l hs, fun t ht => Po.lay h S ht (.lst (SqL.of upd_same) hz ((ha.cut lo hi).mono (Ex.new (S.sub.back ht))))⟩
  | _ => exact h.elim

/-! ### built-ins -/
theorem rk_len : RK1 K (fun xs H Q => ∃ p ys, xs = [.ref p] ∧ (SqL K H p ys ∨ SqT K H p ys) ∧ Q (.int ys.length) H) dLen := fun cl E ρ σ G H x a S rx Q h => by
  cases rx with
  | @tup p xs ds hs hl ha =>
    refine ⟨p, xs, rfl, .inr (S.sub.t hs), ?_⟩
    rw [ha.len]
    exact Po.now h S (.int _)
  | @lst p xs ds hs hl ha =>
    refine ⟨p, xs, rfl, .inl (S.sub.l hs), ?_⟩
    rw [ha.len]
    exact Po.now h S (.int _)
  | _ => exact h.elim
theorem rk_tuple : RK1 K (fun xs H Q => ∃ p ys, xs = [.ref p] ∧ ((SqL K H p ys ∧ ∀ l, H l = none → Q (.ref l) (upd H l (.tup ys))) ∨ (SqT K H p ys ∧ Q (.ref p) H))) dTuple := fun cl E ρ σ G H x a S rx Q h => by
  cases rx with
  | @tup p xs ds hs hl ha => exact ⟨p, xs, rfl, .inr ⟨S.sub.t hs, Po.now h S (.tup hs hl ha)⟩⟩
  | @lst p xs ds hs hl ha => exact ⟨p, xs, rfl, .inl ⟨S.sub.l hs, fun t ht => Po.lay h S ht (.tup (SqT.of upd_same) hl (ha.mono (Ex.new (S.sub.back ht))))⟩⟩
  | _ => exact h.elim
theorem rk_list : RK1 K (fun xs H Q => ∃ p ys, xs = [.ref p] ∧ (SqL K H p ys ∨ SqT K H p ys) ∧ ∀ l, H l = none → Q (.ref l) (upd H l (.lst ys))) dList := fun cl E ρ σ G H x a S rx Q h => by
  cases rx with
  | @tup p xs ds hs hl ha => exact ⟨p, xs, rfl, .inr (S.sub.t hs), fun t ht => Po.lay h S ht (.lst (SqL.of upd_same) hl (ha.mono (Ex.new (S.sub.back ht))))⟩
  | @lst p xs ds hs hl ha => exact ⟨p, xs, rfl, .inl (S.sub.l hs), fun t ht => Po.lay h S ht (.lst (SqL.of upd_same) hl (ha.mono (Ex.new (S.sub.back ht))))⟩
  | _ => exact h.elim
theorem asInts_map : ∀ {ds : List PyData} {ns : List Int}, asInts ds = some ns → ds = ns.map PyData.int
  | [], ns, h => by
    cases h
    rfl
  | .int i :: r, ns, h => by
    unfold asInts at h
    cases e : asInts r with
    | none =>
      rw [e] at h
      cases h
    | some ms =>
      rw [e] at h
      cases h
      rw [asInts_map e]
      rfl
  | .none :: _, _, h => nomatch h
  | .bool _ :: _, _, h => nomatch h
  | .str _ :: _, _, h => nomatch h
  | .list _ :: _, _, h => nomatch h
  | .tuple _ :: _, _, h => nomatch h
  | .dict _ :: _, _, h => nomatch h
theorem rk_sum : RK1 K (rSum K) dSum := fun cl E ρ σ G H x a S rx Q h => by
  cases rx with
  | @lst p xs ds hs hl ha =>
    have h' : (match asInts ds with | some ns => Tr.ret (PyData.int ns.sum) | none => .bad).wp (Po K ρ σ (Rp K) G H Q) (Xo cl (E σ) (Owns ρ σ) H) := h
    cases hd : asInts ds with
    | none =>
      rw [hd] at h'
      exact h'.elim
    | some ns =>
      rw [hd] at h'
      have e := asInts_map hd
      subst e
      have e2 := ha.ints
      subst e2
      exact ⟨p, ns, rfl, S.sub.l hs, Po.now h' S (.int _)⟩
  | _ => exact h.elim
theorem rk_abs : RK1 K (fun xs H Q => ∃ i, xs = [.int i] ∧ Q (.int (if i < 0 then -i else i)) H) dAbs := fun cl E ρ σ G H x a S rx Q h => by
  cases rx with
  | int i => exact ⟨i, rfl, Po.now h S (.int _)⟩
  | _ => exact h.elim

/-! ### isinstance(x, T) -/
def tyN : PyData → String
  | .none => "NoneType"
  | .bool _ => "bool"
  | .int _ => "int"
  | .str _ => "str"
  | .list _ => "list"
  | .tuple _ => "tuple"
  | .dict _ => "dict"
theorem rd_tyT {G : Hp} {p : Addr} {xs : List V} (h : SqT K G p xs) : TyX K G (.ref p) (.type "tuple") := by
  rcases h with (h | ⟨o, h⟩) | ⟨o, its, n, h, c, _⟩
  · exact .base (.tup h)
  · exact .fTuple h
  · exact .kTuple h c
theorem rd_tyL {G : Hp} {p : Addr} {xs : List V} (h : SqL K G p xs) : TyX K G (.ref p) (.type "list") := by
  rcases h with (h | ⟨o, h⟩) | ⟨o, its, n, h, c, _⟩
  · exact .base (.lst h)
  · exact .base (.frz h)
  · exact .kList h c
theorem rp_ty {G H : Hp} (e : Ex G H) {x : V} {a : PyData} (r : Rp K G x a) : TyX K H x (.type (tyN a)) := by
  cases r with
  | non => exact .base .non
  | bl b => exact .base (.bl b)
  | int i => exact .base (.int i)
  | str z => exact .base (.str z)
  | lst h l ha => exact rd_tyL (e.l h)
  | tup h l ha => exact rd_tyT (e.t h)
def isTy (T : String) (f : PyData → Bool) : Prop := ∀ a : PyData, a.plain = true → kitB (tyN a) T = some (f a)
theorem isTy_tuple : isTy "tuple" isTup := fun a h => by
  cases a with
  | none => exact (show kitB "NoneType" "tuple" = some false by decide +kernel)
  | bool _ => exact (show kitB "bool" "tuple" = some false by decide +kernel)
  | int _ => exact (show kitB "int" "tuple" = some false by decide +kernel)
  | str _ => exact (show kitB "str" "tuple" = some false by decide +kernel)
  | list _ => exact (show kitB "list" "tuple" = some false by decide +kernel)
  | tuple _ => exact (show kitB "tuple" "tuple" = some true by decide +kernel)
  | dict _ => exact nomatch h
theorem isTy_list : isTy "list" isLst := fun a h => by
  cases a with
  | none => exact (show kitB "NoneType" "list" = some false by decide +kernel)
  | bool _ => exact (show kitB "bool" "list" = some false by decide +kernel)
  | int _ => exact (show kitB "int" "list" = some false by decide +kernel)
  | str _ => exact (show kitB "str" "list" = some false by decide +kernel)
  | list _ => exact (show kitB "list" "list" = some true by decide +kernel)
  | tuple _ => exact (show kitB "tuple" "list" = some false by decide +kernel)
  | dict _ => exact nomatch h
theorem isTy_int : isTy "int" isInt := fun a h => by
  cases a with
  | none => exact (show kitB "NoneType" "int" = some false by decide +kernel)
  | bool _ => exact (show kitB "bool" "int" = some true by decide +kernel)
  | int _ => exact (show kitB "int" "int" = some true by decide +kernel)
  | str _ => exact (show kitB "str" "int" = some false by decide +kernel)
  | list _ => exact (show kitB "list" "int" = some false by decide +kernel)
  | tuple _ => exact (show kitB "tuple" "int" = some false by decide +kernel)
  | dict _ => exact nomatch h
theorem isTy_bool : isTy "bool" isBool := fun a h => by
  cases a with
  | none => exact (show kitB "NoneType" "bool" = some false by decide +kernel)
  | bool _ => exact (show kitB "bool" "bool" = some true by decide +kernel)
  | int _ => exact (show kitB "int" "bool" = some false by decide +kernel)
  | str _ => exact (show kitB "str" "bool" = some false by decide +kernel)
  | list _ => exact (show kitB "list" "bool" = some false by decide +kernel)
  | tuple _ => exact (show kitB "tuple" "bool" = some false by decide +kernel)
  | dict _ => exact nomatch h
theorem isTy_str : isTy "str" isStr := fun a h => by
  cases a with
  | none => exact (show kitB "NoneType" "str" = some false by decide +kernel)
  | bool _ => exact (show kitB "bool" "str" = some false by decide +kernel)
  | int _ => exact (show kitB "int" "str" = some false by decide +kernel)
  | str _ => exact (show kitB "str" "str" = some true by decide +kernel)
  | list _ => exact (show kitB "list" "str" = some false by decide +kernel)
  | tuple _ => exact (show kitB "tuple" "str" = some false by decide +kernel)
  | dict _ => exact nomatch h
theorem ev_isi {T : String} {f : PyData → Bool} (hT : isTy T f) {cl : Ek → Addr} {E : L2.St → Option XK} {ρ : List Sl} {ta : TE} {fa : Tr PyData} (ha : Ev K cl E ta ρ fa) : Ev K cl E (tCB (rIsi K) (tCons ta (tCons (tC (.ty T)) tNil))) ρ (fa.bind fun a => .ret (.bool (f a))) :=
  fun G H σ S Q h => ha.seq S h fun a x G1 H1 g1 S1 rx h1 =>
    ⟨x, .ty T, .type (tyN a), .type T, f a, rfl, .ty T, rp_ty S1.sub rx, kit_ty (hT a rx.plain), Po.now h1 S1 (.bl _)⟩
end
end Cg
namespace L2
open PySem PySem.Spec PyProof.Rows
/-! ### a walk over a list or a tuple -/
section
variable {X : Cx} {tg : Expr}
def iSeq (K : PySem.W.Frag) (tl : TE) : TI := fun σ H R => tl σ H fun x H1 => ∃ a, x = .ref a ∧ (((∃ xs, SqL K H1 a xs) ∧ R (Itl K a) H1) ∨ ((∃ xs, SqT K H1 a xs) ∧ R (Itt K a) H1))
theorem pi_seq {l : Expr} {tl : TE} (hl : PE X l tl) : PI X tg l (iSeq X.K tl) := by
  refine ⟨fun pins s σ H R I h => ?_⟩
  refine thn (hl.run pins s σ H _ I h) fun v s1 ⟨x, H1, I1, r1, q1⟩ => ?_
  obtain ⟨a, e, q1⟩ := q1
  subst e
  cases r1
  rcases q1 with ⟨⟨xs, hq⟩, q⟩ | ⟨⟨xs, hq⟩, q⟩
  · obtain ⟨its, rv, p, hz⟩ := I1.list hq
    refine wpAny_pyIter_list p.isList ?_
    refine ⟨s1.heap.objs.size, [s1.heap.objs.size], _, _, H1, rfl, I1.kept (t' := s1.toks) fun b o e => Heap.get?_push_of_some _ e, turn_list a _, ⟨_, Heap.get?_push_size _ rfl, rfl, rfl⟩, fun b hb => ?_, q⟩
    have e : b = s1.heap.objs.size := by simpa using hb
    subst e
    exact I1.fpOk (Nat.le_refl _) (I1.hok.fresh (Nat.le_refl _))
  · obtain ⟨its, rv, p, hz⟩ := I1.tuple hq
    refine wpAny_pyIter_tuple (show s1.heap.IsTuple a its.toArray from p) ?_
    refine ⟨s1.heap.objs.size, [s1.heap.objs.size], _, _, H1, rfl, I1.kept (t' := s1.toks) fun b o e => Heap.get?_push_of_some _ e, turn_tuple a _, ⟨_, Heap.get?_push_size _ rfl, rfl, rfl⟩, fun b hb => ?_, q⟩
    have e : b = s1.heap.objs.size := by simpa using hb
    subst e
    exact I1.fpOk (Nat.le_refl _) (I1.hok.fresh (Nat.le_refl _))
end
end L2
namespace Cg
open PySem L2

/-! ### what a def promises -/
/-- on data; nothing of the caller's is touched -/
def SpP (K : PySem.W.Frag) (cl : Ek → Addr) (n : Nat) (m : List PyData → Tr PyData) : Sp := fun vs H Q E => ∃ (ds : List PyData) (G : Hp), RpAll K G vs ds ∧ ds.length = n ∧ Ex G H ∧
  (m ds).wp (fun d => ∀ v G' H', Gr (fun _ => False) G H G' H' → Ex G' H' → Rp K G' v d → Q v H') (Xo cl (some E) (fun _ => False) H)
/-- where nothing is raised -/
def SpN (K : PySem.W.Frag) (n : Nat) (m : List PyData → Tr PyData) : Sp := fun vs H Q _ => ∃ (ds : List PyData) (G : Hp), RpAll K G vs ds ∧ ds.length = n ∧ Ex G H ∧
  (m ds).wp (fun d => ∀ v G' H', Gr (fun _ => False) G H G' H' → Ex G' H' → Rp K G' v d → Q v H') (fun _ => False)
/-- with the box ahead -/
def SpB (K : PySem.W.Frag) (n : Nat) (m : List PyData → Tr PyData) : Sp := fun ws H Q _ => ∃ (b : Addr) (vs : List V) (ds : List PyData) (G : Hp), ws = .ref b :: vs ∧ BoxOk K G H b ∧ RpAll K G vs ds ∧ ds.length = n ∧ Ex G H ∧
  (m ds).wp (fun d => ∀ v G' H', Gr (fun a => a = b) G H G' H' → Ex G' H' → BoxOk K G' H' b → Rp K G' v d → Q v H') (fun _ => False)
/-- an error that may not be -/
def Tr.noX {α : Type} : Tr α → Tr α
  | .ret a => .ret a
  | .exc _ => .bad
  | .bad => .bad
  | .draw n k => .draw n fun i => (k i).noX
@[simp] theorem Tr.noX_ret {α : Type} (a : α) : (Tr.ret a).noX = .ret a := rfl
theorem Tr.wp_noX {α : Type} {Q : α → Prop} {E E' : Ek → Prop} : ∀ {t : Tr α}, t.noX.wp Q E → t.wp Q E'
  | .ret _, h => h
  | .exc _, h => h.elim
  | .bad, h => h.elim
  | .draw n k, h => fun i hi => Tr.wp_noX (h i hi)
section
variable {K : PySem.W.Frag} {cl : Ek → Addr} {E : L2.St → Option XK} {ρ : List Sl} {σ : L2.St} {G H G1 H1 : Hp}
theorem Sta.box (S : Sta K G H ρ σ) {i : Nat} (h : ρ[i]? = some .box) : ∃ b, σ[i]? = some (some (.ref b)) ∧ BoxOk K G H b ∧ Owns ρ σ b := by
  obtain ⟨o, h1, b, e, hb⟩ := S.var h
  subst e
  exact ⟨b, h1, hb, i, .box, h, rfl, h1⟩
/-- behind a callee that had the box at b -/
theorem Sta.boxed (S : Sta K G H ρ σ) {b : Addr} (ob : ∀ (i : Nat) (s : Sl), ρ[i]? = some s → owning s = true → σ[i]? = some (some (.ref b)) → s = .box) (g : Gr (fun a => a = b) G H G1 H1) (e : Ex G1 H1) (hb : BoxOk K G1 H1 b) : Sta K G1 H1 ρ σ := by
  refine ⟨S.len, e, fun i s o h1 h2 => ?_, S.dis⟩
  by_cases hs : owning s = true ∧ o = some (.ref b)
  · obtain ⟨hs, rfl⟩ := hs
    have z := ob i s h1 hs h2
    subst z
    exact ⟨b, rfl, hb⟩
  · refine (S.ok i s o h1 h2).grow g.ex (fun a ho ha hg hn => g.new a (fun z => ?_) hn hg) fun a u ho ha h => g.fr a u (fun z => ?_) h
    · subst z
      exact hs ⟨ho, ha⟩
    · subst z
      exact hs ⟨ho, ha⟩
theorem Sta.onlyBox (S : Sta K G H ρ σ) {i : Nat} {b : Addr} (h : ρ[i]? = some .box) (hb : σ[i]? = some (some (.ref b))) (j : Nat) (s : Sl) (h1 : ρ[j]? = some s) (h2 : owning s = true) (h3 : σ[j]? = some (some (.ref b))) : s = .box := by
  have e := S.dis i j .box s b h h1 rfl h2 hb h3
  subst e
  rw [h] at h1
  exact (Option.some.inj h1).symm

/-! ### calls of defs -/
theorem call_core {m : Tr PyData} {X : Ek → Prop} {G1 H1 : Hp} {Q : VK} (S : Sta K G1 H1 ρ σ) (h : m.wp (Po K ρ σ (Rp K) G1 H1 Q) X) :
    m.wp (fun d => ∀ v G' H', Gr (fun _ => False) G1 H1 G' H' → Ex G' H' → Rp K G' v d → Q v H') X :=
  Tr.wp_mono (fun d hd v G' H' g e r => hd v G' H' (g.less fun _ z => z.elim) (S.grow g e) r) (fun _ z => z) h
theorem xo_all {E : XK} {O : Addr → Prop} {c : Ek} (h : Xo cl (some E) O H c) : Xo cl (some E) (fun _ => False) H c := fun H' k => h H' fun a o _ ha => k a o id ha
theorem ev_call {E : XK} {ta : TA} {n : Nat} {F : ∀ β : Type, (List PyData → Tr β) → Tr β} {m : List PyData → Tr PyData} (ha : EvA K cl (fun _ => some E) ta ρ n F) : Ev K cl (fun _ => some E) (tCall (SpP K cl n m) [] E ta) ρ (F _ m) :=
  fun G H σ S Q h => ha G H σ S (Rp K) m Q _ h fun ds vs G1 H1 g1 S1 rs hl h1 => ⟨ds, G1, by rw [List.append_nil]; exact rs, hl, S1.sub, call_core S1 (Tr.wp_mono (fun _ z => z) (fun _ => xo_all) h1)⟩
theorem ev_callS {E : L2.St → XK} {ta : TA} {n : Nat} {F : ∀ β : Type, (List PyData → Tr β) → Tr β} {m : List PyData → Tr PyData} (ha : EvA K cl (fun σ => some (E σ)) ta ρ n F) : Ev K cl (fun σ => some (E σ)) (tCallS (SpP K cl n m) E ta) ρ (F _ m) :=
  fun G H σ S Q h => ha G H σ S (Rp K) m Q _ h fun ds vs G1 H1 g1 S1 rs hl h1 => ⟨ds, G1, rs, hl, S1.sub, call_core S1 (Tr.wp_mono (fun _ z => z) (fun _ => xo_all) h1)⟩
/-- of a def that may raise, where nothing may be raised -/
theorem ev_callP {ta : TA} {n : Nat} {F : ∀ β : Type, (List PyData → Tr β) → Tr β} {m : List PyData → Tr PyData} (ha : EvA K cl E ta ρ n F) : Ev K cl E (tCall (SpP K cl n m) [] E0 ta) ρ (F _ fun ds => (m ds).noX) :=
  fun G H σ S Q h => ha G H σ S (Rp K) (fun ds => (m ds).noX) Q _ h fun ds vs G1 H1 g1 S1 rs hl h1 => ⟨ds, G1, by rw [List.append_nil]; exact rs, hl, S1.sub, call_core S1 (Tr.wp_noX h1)⟩
/-- of a def that raises nothing -/
theorem ev_callN {ta : TA} {n : Nat} {F : ∀ β : Type, (List PyData → Tr β) → Tr β} {m : List PyData → Tr PyData} (ha : EvA K cl (fun _ => none) ta ρ n F) : Ev K cl (fun _ => none) (tCall (SpN K n m) [] E0 ta) ρ (F _ m) :=
  fun G H σ S Q h => ha G H σ S (Rp K) m Q _ h fun ds vs G1 H1 g1 S1 rs hl h1 => ⟨ds, G1, by rw [List.append_nil]; exact rs, hl, S1.sub, call_core S1 h1⟩
/-- .. where something may be raised -/
theorem ev_callX {ta : TA} {n : Nat} {F : ∀ β : Type, (List PyData → Tr β) → Tr β} {m : List PyData → Tr PyData} (ha : EvA K cl E ta ρ n F) : Ev K cl E (tCall (SpN K n m) [] E0 ta) ρ (F _ fun ds => (m ds).noX) :=
  fun G H σ S Q h => ha G H σ S (Rp K) (fun ds => (m ds).noX) Q _ h fun ds vs G1 H1 g1 S1 rs hl h1 => ⟨ds, G1, by rw [List.append_nil]; exact rs, hl, S1.sub, call_core S1 (Tr.wp_noX h1)⟩
theorem ev_callB {ta : TA} {n i : Nat} {F : ∀ β : Type, (List PyData → Tr β) → Tr β} {m : List PyData → Tr PyData} (hi : ρ[i]? = some .box) (ha : EvA K cl (fun _ => none) ta ρ n F) : Ev K cl (fun _ => none) (tCall (SpB K n m) [] E0 (tCons (tVar i) ta)) ρ (F _ m) :=
  fun G H σ S Q h => by
    obtain ⟨b, e, _, ow⟩ := S.box hi
    refine ⟨.ref b, e, ha G H σ S (Rp K) m Q _ h fun ds vs G1 H1 g1 S1 rs hl h1 => ?_⟩
    obtain ⟨b', e', hb, _⟩ := S1.box hi
    obtain rfl : b = b' := V.ref.inj (Option.some.inj (Option.some.inj (e.symm.trans e')))
    exact ⟨b, vs, ds, G1, by rw [List.append_nil], hb, rs, hl, S1.sub, Tr.wp_mono (fun d hd v G' H' g e2 hb' r => hd v G' H' (g.less fun x z => by rw [z]; exact ow) (S1.boxed (S1.onlyBox hi e) g e2 hb') r) (fun _ z => z) h1⟩

/-! ### comprehensions -/
def mapT {α β : Type} (f : α → Tr β) : List α → Tr (List β)
  | [] => .ret []
  | x :: xs => (f x).bind fun y => (mapT f xs).bind fun ys => .ret (y :: ys)
def mapIf {α β : Type} (c : α → Tr Bool) (f : α → Tr β) : List α → Tr (List β)
  | [] => .ret []
  | x :: xs => (c x).bind fun b => if b then (f x).bind fun y => (mapIf c f xs).bind fun ys => .ret (y :: ys) else mapIf c f xs
/-- what comes of the rest of the turns, behind acc -/
def lcT (c : PyData → Tr Bool) (f : PyData → Tr PyData) : List PyData → List PyData → Tr (List PyData)
  | acc, [] => .ret acc
  | acc, x :: xs => (c x).bind fun b => if b then (f x).bind fun y => lcT c f (acc ++ [y]) xs else lcT c f acc xs
theorem lcT_if (c : PyData → Tr Bool) (f : PyData → Tr PyData) : ∀ (xs acc : List PyData), lcT c f acc xs = (mapIf c f xs).bind fun ys => .ret (acc ++ ys)
  | [], acc => by
    show Tr.ret acc = Tr.ret (acc ++ [])
    rw [List.append_nil]
  | x :: xs, acc => by
    show ((c x).bind fun b => if b then (f x).bind fun y => lcT c f (acc ++ [y]) xs else lcT c f acc xs) = ((c x).bind fun b => if b then (f x).bind fun y => (mapIf c f xs).bind fun ys => .ret (y :: ys) else mapIf c f xs).bind fun ys => .ret (acc ++ ys)
    rw [Tr.bind_assoc]
    congr
    funext b
    cases b with
    | true =>
      show ((f x).bind fun y => lcT c f (acc ++ [y]) xs) = ((f x).bind fun y => (mapIf c f xs).bind fun ys => .ret (y :: ys)).bind fun ys => .ret (acc ++ ys)
      rw [Tr.bind_assoc]
      congr
      funext y
      rw [lcT_if c f xs, Tr.bind_assoc]
      congr
      funext ys
      show Tr.ret (acc ++ [y] ++ ys) = Tr.ret (acc ++ (y :: ys))
      rw [List.append_assoc]
      rfl
    | false => exact lcT_if c f xs acc
theorem mapIf_true {f : PyData → Tr PyData} : ∀ xs : List PyData, mapIf (fun _ => .ret true) f xs = mapT f xs
  | [] => rfl
  | x :: xs => by
    show ((f x).bind fun y => (mapIf (fun _ => .ret true) f xs).bind fun ys => .ret (y :: ys)) = (f x).bind fun y => (mapT f xs).bind fun ys => .ret (y :: ys)
    rw [mapIf_true xs]
/-- the new list at Dl, behind some turns -/
structure Lc (K : PySem.W.Frag) (ρ : List Sl) (σ : L2.St) (G H : Hp) (Dl : Addr) (acc : List PyData) (n : Nat) (G' H' : Hp) : Prop where
  gr : Gr (Owns ρ σ) G H G' H'
  st : Sta K G' H' ρ σ
  old : H Dl = none
  out : G' Dl = none
  at' : ∃ xs, H' Dl = some (.lst xs) ∧ RpAll K G' xs acc
  len : acc.length ≤ n
theorem Lc.own {Dl : Addr} {acc : List PyData} {n : Nat} {G' H' : Hp} (L : Lc K ρ σ G H Dl acc n G' H') (S : Sta K G H ρ σ) : ¬ Owns ρ σ Dl := fun z => (S.own z).2 L.old
theorem lc_start {Dl : Addr} (S : Sta K G H ρ σ) (hD : H Dl = none) : Lc K ρ σ G H Dl [] 0 G (upd H Dl (.lst [])) := by
  have g : Gr (Owns ρ σ) G H G (upd H Dl (.lst [])) := ⟨Ex.refl G, fun _ _ _ h => h, fun a o _ ha => by rw [upd_ne (ne_of_none ha hD)]; exact ha, fun a hn => by rw [upd_ne (fun z => hn (by rw [z]; exact hD))]; exact hn⟩
  refine ⟨g, ?_, hD, S.sub.back hD, ⟨[], upd_same, .nil⟩, Nat.le_refl _⟩
  refine ⟨S.len, fun a o ha => by rw [upd_ne (ne_of_none (S.sub a o ha) hD)]; exact S.sub a o ha, fun i s o h1 h2 => ?_, S.dis⟩
  exact (S.ok i s o h1 h2).grow (Ex.refl G) (fun _ _ _ hg _ => hg) fun a u _ _ ha => by rw [upd_ne (ne_of_none ha hD)]; exact ha
/-- one more item -/
theorem Lc.add {Dl : Addr} {acc : List PyData} {n : Nat} {G1 H1 : Hp} (L : Lc K ρ σ G H Dl acc n G1 H1) (S : Sta K G H ρ σ) {v : V} {d : PyData} (r : Rp K G1 v d) {xs : List V} (hx : H1 Dl = some (.lst xs)) (ha : RpAll K G1 xs acc) :
    Lc K ρ σ G H Dl (acc ++ [d]) (n + 1) G1 (upd H1 Dl (.lst (xs ++ [v]))) := by
  have no := L.own S
  have e : Ex G1 (upd H1 Dl (.lst (xs ++ [v]))) := fun a o h => by rw [upd_ne (ne_of_none h L.out)]; exact L.st.sub a o h
  refine ⟨⟨L.gr.ex, L.gr.new, fun a o hn h => ?_, fun a hn => ?_⟩, ⟨L.st.len, e, fun i s o h1 h2 => ?_, L.st.dis⟩, L.old, L.out, ⟨_, upd_same, ha.append (.cons r .nil)⟩, ?_⟩
  · rw [upd_ne (ne_of_none h L.old)]
    exact L.gr.fr a o hn h
  · by_cases z : a = Dl
    · rw [z, upd_same]
      exact fun q => nomatch q
    · rw [upd_ne z]
      exact L.gr.keep a hn
  · refine (L.st.ok i s o h1 h2).grow (Ex.refl G1) (fun _ _ _ hg _ => hg) fun a u ho hv h => ?_
    rw [upd_ne (fun z => no ?_)]
    · exact h
    · subst z
      subst hv
      exact ⟨i, s, h1, ho, h2⟩
  · rw [List.length_append]
    have := L.len
    show acc.length + 1 ≤ n + 1
    omega
/-- the list is handed out -/
theorem Lc.done {Dl : Addr} {acc : List PyData} {n : Nat} {G1 H1 : Hp} (L : Lc K ρ σ G H Dl acc n G1 H1) (S : Sta K G H ρ σ) (hn : n ≤ sizeLine) : ∃ G2, Gr (Owns ρ σ) G H G2 H1 ∧ Sta K G2 H1 ρ σ ∧ Rp K G2 (.ref Dl) (.list acc) := by
  obtain ⟨xs, hx, ha⟩ := L.at'
  have no := L.own S
  have e1 : Ex G1 (upd G1 Dl (.lst xs)) := Ex.new L.out
  refine ⟨upd G1 Dl (.lst xs), ⟨L.gr.ex.trans e1, fun a h1 h2 h3 => ?_, L.gr.fr, L.gr.keep⟩, ⟨L.st.len, fun a o h => ?_, fun i s o h1 h2 => ?_, L.st.dis⟩, .lst (SqL.of upd_same) (Nat.le_trans L.len hn) (ha.mono e1)⟩
  · rw [upd_ne (fun z => h2 (by rw [z]; exact L.old))]
    exact L.gr.new a h1 h2 h3
  · by_cases z : a = Dl
    · rw [z, upd_same] at h
      rw [z, hx, ← h]
    · rw [upd_ne z] at h
      exact L.st.sub a o h
  · refine (L.st.ok i s o h1 h2).grow e1 (fun a ho hv hg _ => ?_) fun _ _ _ _ h => h
    rw [upd_ne (fun z => no ?_)]
    · exact hg
    · subst z
      subst hv
      exact ⟨i, s, h1, ho, h2⟩
/-- what is ours under (ρ, σ) is ours under (ρ2, σ2), at its place -/
structure Kp (ρ : List Sl) (σ : L2.St) (ρ2 : List Sl) (σ2 : L2.St) : Prop where
  fwd : ∀ (i : Nat) (s : Sl), ρ[i]? = some s → owning s = true → ρ2[i]? = some s ∧ σ2[i]? = σ[i]?
  bwd : ∀ a, Owns ρ2 σ2 a → Owns ρ σ a
theorem Kp.refl : Kp ρ σ ρ σ := ⟨fun _ _ h _ => ⟨h, rfl⟩, fun _ h => h⟩
theorem Kp.trans {ρ1 ρ2 : List Sl} {σ1 σ2 : L2.St} (a : Kp ρ σ ρ1 σ1) (b : Kp ρ1 σ1 ρ2 σ2) : Kp ρ σ ρ2 σ2 :=
  ⟨fun i s h o => ⟨(b.fwd i s (a.fwd i s h o).1 o).1, (b.fwd i s (a.fwd i s h o).1 o).2.trans (a.fwd i s h o).2⟩, fun x h => a.bwd x (b.bwd x h)⟩
theorem Kp.own {ρ2 : List Sl} {σ2 : L2.St} (k : Kp ρ σ ρ2 σ2) {a : Addr} (h : Owns ρ σ a) : Owns ρ2 σ2 a := by
  obtain ⟨i, s, h1, h2, h3⟩ := h
  obtain ⟨q1, q2⟩ := k.fwd i s h1 h2
  exact ⟨i, s, q1, h2, q2.trans h3⟩
theorem Sta.back {ρ2 : List Sl} {σ2 : L2.St} (S : Sta K G H ρ σ) (k : Kp ρ σ ρ2 σ2) (e : Ex G G1) (S2 : Sta K G1 H1 ρ2 σ2) : Sta K G1 H1 ρ σ := by
  refine ⟨S.len, S2.sub, fun i s o h1 h2 => ?_, S.dis⟩
  by_cases ho : owning s = true
  · obtain ⟨q1, q2⟩ := k.fwd i s h1 ho
    exact S2.ok i s o q1 (q2.trans h2)
  · have q := S.ok i s o h1 h2
    cases s with
    | dat d =>
      obtain ⟨v, ev, r⟩ := q
      exact ⟨v, ev, r.mono e⟩
    | acc ds => exact absurd rfl ho
    | box => exact absurd rfl ho
    | val v => exact q
    | any => trivial
theorem wipe_get {σ : L2.St} : ∀ (vs : List Nat) (k : Nat), (wipe σ vs)[k]? = if k ∈ vs ∧ k < σ.length then some none else σ[k]?
  | [], k => by
    rw [if_neg (fun z => nomatch z.1)]
    rfl
  | v :: vs, k => by
    show ((wipe σ vs).set v none)[k]? = _
    by_cases z : v = k
    · subst z
      by_cases hl : v < σ.length
      · rw [List.getElem?_set_self (by rw [wipe_length]; exact hl), if_pos ⟨List.mem_cons_self, hl⟩]
      · rw [if_neg (fun q => hl q.2), List.getElem?_eq_none_iff.mpr (by rw [List.length_set, wipe_length]; omega), List.getElem?_eq_none_iff.mpr (by omega)]
    · rw [List.getElem?_set_ne z, wipe_get vs k]
      by_cases hk : k ∈ vs ∧ k < σ.length
      · rw [if_pos hk, if_pos ⟨List.mem_cons_of_mem _ hk.1, hk.2⟩]
      · rw [if_neg hk, if_neg]
        rintro ⟨q1, q2⟩
        rcases List.mem_cons.mp q1 with q | q
        · exact z q.symm
        · exact hk ⟨q, q2⟩
theorem wipe_set {σ : L2.St} {i : Nat} {x : Option V} {vs : List Nat} (h : i ∈ vs) : wipe (σ.set i x) vs = wipe σ vs := by
  apply List.ext_getElem?
  intro k
  rw [wipe_get, wipe_get, List.length_set]
  by_cases hk : k ∈ vs ∧ k < σ.length
  · rw [if_pos hk, if_pos hk]
  · rw [if_neg hk, if_neg hk]
    by_cases z : i = k
    · subst z
      have hl : ¬ i < σ.length := fun q => hk ⟨h, q⟩
      rw [List.getElem?_eq_none_iff.mpr (by rw [List.length_set]; omega), List.getElem?_eq_none_iff.mpr (by omega)]
    · rw [List.getElem?_set_ne z]
theorem wipe_wipe {σ : L2.St} {vs : List Nat} : wipe (wipe σ vs) vs = wipe σ vs := by
  apply List.ext_getElem?
  intro k
  rw [wipe_get, wipe_length]
  by_cases hk : k ∈ vs ∧ k < σ.length
  · rw [if_pos hk, wipe_get, if_pos hk]
  · rw [if_neg hk]
theorem Sta.wiped (S : Sta K G H ρ σ) {vs : List Nat} (h : ∀ i ∈ vs, ρ[i]? = some .any) : Sta K G H ρ (wipe σ vs) ∧ Kp ρ σ ρ (wipe σ vs) := by
  have oth : ∀ (i : Nat) (s : Sl), ρ[i]? = some s → owning s = true → (wipe σ vs)[i]? = σ[i]? := fun i s h1 h2 => by
    rw [wipe_get, if_neg]
    rintro ⟨q, _⟩
    rw [h i q] at h1
    cases h1
    cases h2
  refine ⟨⟨by rw [wipe_length]; exact S.len, S.sub, fun i s o h1 h2 => ?_, fun i j si sj a h1 h2 h3 h4 h5 h6 => ?_⟩, ⟨fun i s h1 h2 => ⟨h1, oth i s h1 h2⟩, fun a q => ?_⟩⟩
  · rw [wipe_get] at h2
    by_cases hk : i ∈ vs ∧ i < σ.length
    · rw [h i hk.1] at h1
      cases h1
      trivial
    · rw [if_neg hk] at h2
      exact S.ok i s o h1 h2
  · rw [oth i si h1 h3] at h5
    rw [oth j sj h2 h4] at h6
    exact S.dis i j si sj a h1 h2 h3 h4 h5 h6
  · obtain ⟨i, s, h1, h2, h3⟩ := q
    rw [oth i s h1 h2] at h3
    exact ⟨i, s, h1, h2, h3⟩
/-- a slot that owns nothing takes data -/
theorem Sta.put (S : Sta K G H ρ σ) {i : Nat} {v : V} {d : PyData} (r : Rp K G v d) : Sta K G H (ρ.set i (.dat d)) (σ.set i (some v)) := by
  refine ⟨by rw [List.length_set, List.length_set]; exact S.len, S.sub, fun j s o h1 h2 => ?_, fun j k sj sk a h1 h2 h3 h4 h5 h6 => ?_⟩
  · by_cases z : i = j
    · subst z
      have hl : i < σ.length := by
        have := (List.getElem?_eq_some_iff.mp h2).1
        rwa [List.length_set] at this
      rw [List.getElem?_set_self (by rw [S.len]; exact hl)] at h1
      rw [List.getElem?_set_self hl] at h2
      cases h1
      cases h2
      exact ⟨v, rfl, r⟩
    · rw [List.getElem?_set_ne z] at h1 h2
      exact S.ok j s o h1 h2
  · have ne : ∀ (m : Nat) (t : Sl), (ρ.set i (.dat d))[m]? = some t → owning t = true → i ≠ m := fun m t q1 q2 z => by
      subst z
      have hl : i < ρ.length := by
        have := (List.getElem?_eq_some_iff.mp q1).1
        rwa [List.length_set] at this
      rw [List.getElem?_set_self hl] at q1
      cases q1
      cases q2
    have n1 := ne j sj h1 h3
    have n2 := ne k sk h2 h4
    rw [List.getElem?_set_ne n1] at h1 h5
    rw [List.getElem?_set_ne n2] at h2 h6
    exact S.dis j k sj sk a h1 h2 h3 h4 h5 h6
theorem owns_put {i : Nat} {v : V} {d : PyData} {a : Addr} (h : Owns (ρ.set i (.dat d)) (σ.set i (some v)) a) : Owns ρ σ a := by
  obtain ⟨j, s, h1, h2, h3⟩ := h
  by_cases z : i = j
  · subst z
    have hl : i < ρ.length := by
      have := (List.getElem?_eq_some_iff.mp h1).1
      rwa [List.length_set] at this
    rw [List.getElem?_set_self hl] at h1
    cases h1
    cases h2
  · rw [List.getElem?_set_ne z] at h1 h3
    exact ⟨j, s, h1, h2, h3⟩
theorem owns_put' {i : Nat} {v : V} {d : PyData} {a : Addr} (n : ∀ s, ρ[i]? = some s → owning s = false) (h : Owns ρ σ a) : Owns (ρ.set i (.dat d)) (σ.set i (some v)) a := by
  obtain ⟨j, s, h1, h2, h3⟩ := h
  have z : i ≠ j := fun z => by
    subst z
    rw [n s h1] at h2
    cases h2
  exact ⟨j, s, by rw [List.getElem?_set_ne z]; exact h1, h2, by rw [List.getElem?_set_ne z]; exact h3⟩
/-- a slot that owns nothing -/
def nown (ρ : List Sl) (i : Nat) : Bool := match ρ[i]? with
  | some s => !owning s
  | none => true
theorem nown_of {i : Nat} (h : nown ρ i = true) : ∀ s, ρ[i]? = some s → owning s = false := fun s hs => by
  unfold nown at h
  rw [hs] at h
  simpa using h
theorem kp_put {i : Nat} {v : V} {d : PyData} (n : nown ρ i = true) : Kp ρ σ (ρ.set i (.dat d)) (σ.set i (some v)) := by
  refine ⟨fun j s h1 h2 => ?_, fun a => owns_put⟩
  have z : i ≠ j := fun z => by
    subst z
    rw [nown_of n s h1] at h2
    cases h2
  exact ⟨by rw [List.getElem?_set_ne z]; exact h1, List.getElem?_set_ne z⟩
/-- a target that takes data d, from ρ to ρ' d; its slots are vs -/
def Tg (K : PySem.W.Frag) (g : TG) (vs : List Nat) (ρ : List Sl) (ρ' : PyData → List Sl) (ok : PyData → Bool) : Prop :=
  ∀ (G H : Hp) (σ : L2.St) (x : V) (d : PyData) (N : L2.St → Hp → Prop), Sta K G H ρ σ → Rp K G x d → ok d = true → (∀ σ2, Sta K G H (ρ' d) σ2 → Kp ρ σ (ρ' d) σ2 → wipe σ2 vs = wipe σ vs → N σ2 H) → g x σ H N
theorem tg_name {i : Nat} (hi : nown ρ i = true := by rfl) : Tg K (gName i) [i] ρ (fun d => ρ.set i (.dat d)) (fun _ => true) := fun G H σ x d N S r _ k =>
  k _ (S.put r) (kp_put hi) (wipe_set List.mem_cons_self)
def pair? : PyData → Option (PyData × PyData)
  | .tuple [a, b] => some (a, b)
  | _ => none
def trip? : PyData → Option (PyData × PyData × PyData)
  | .tuple [a, b, c] => some (a, b, c)
  | _ => none
theorem tg_tup2 {i j : Nat} (hi : nown ρ i = true := by rfl) (hj : nown ρ j = true := by rfl) (ne : i ≠ j := by decide) {vs : List Nat} (h1 : i ∈ vs := by decide) (h2 : j ∈ vs := by decide) :
    Tg K (gTup K 2 (gCons (gName i) (gCons (gName j) gNil))) vs ρ (fun d => match pair? d with | some (a, b) => (ρ.set i (.dat a)).set j (.dat b) | none => ρ) (fun d => (pair? d).isSome) := fun G H σ x d N S r ok k => by
  cases r with
  | @tup p xs ds hs hl ha =>
    match ds, ok with
    | [a, b], _ =>
      cases ha with
      | cons ra t =>
        cases t with
        | cons rb t =>
          cases t
          have n2 : nown (ρ.set i (.dat a)) j = true := by
            unfold nown
            rw [List.getElem?_set_ne ne]
            exact hj
          exact ⟨p, _, rfl, S.sub.t hs, rfl, _, _, rfl, _, _, rfl, rfl, k _ ((S.put ra).put rb) ((kp_put hi).trans (kp_put n2)) (by rw [wipe_set h2, wipe_set h1])⟩
  | _ => cases ok
theorem tg_tup3 {i j l : Nat} (hi : nown ρ i = true := by rfl) (hj : nown ρ j = true := by rfl) (hk : nown ρ l = true := by rfl) (ne : i ≠ j := by decide) (ne2 : i ≠ l := by decide) (ne3 : j ≠ l := by decide) {vs : List Nat} (h1 : i ∈ vs := by decide) (h2 : j ∈ vs := by decide) (h3 : l ∈ vs := by decide) :
    Tg K (gTup K 3 (gCons (gName i) (gCons (gName j) (gCons (gName l) gNil)))) vs ρ (fun d => match trip? d with | some (a, b, c) => ((ρ.set i (.dat a)).set j (.dat b)).set l (.dat c) | none => ρ) (fun d => (trip? d).isSome) := fun G H σ x d N S r ok k => by
  cases r with
  | @tup p xs ds hs hl ha =>
    match ds, ok with
    | [a, b, c], _ =>
      cases ha with
      | cons ra t =>
        cases t with
        | cons rb t =>
          cases t with
          | cons rc t =>
            cases t
            have n2 : nown (ρ.set i (.dat a)) j = true := by
              unfold nown
              rw [List.getElem?_set_ne ne]
              exact hj
            have n3 : nown ((ρ.set i (.dat a)).set j (.dat b)) l = true := by
              unfold nown
              rw [List.getElem?_set_ne ne3, List.getElem?_set_ne ne2]
              exact hk
            exact ⟨p, _, rfl, S.sub.t hs, rfl, _, _, rfl, _, _, rfl, _, _, rfl, rfl, k _ (((S.put ra).put rb).put rc) (((kp_put hi).trans (kp_put n2)).trans (kp_put n3)) (by rw [wipe_set h3, wipe_set h2, wipe_set h1])⟩
  | _ => cases ok

/-! ### a comprehension's turns -/
theorem lc_turn (hE : ∀ a b, E a = E b) {g : TG} {tt : TT} {te : TE} {vs : List Nat} {ρx : PyData → List Sl} {ok : PyData → Bool} {c : PyData → Tr Bool} {f : PyData → Tr PyData} (hv : ∀ i ∈ vs, ρ[i]? = some .any) (tg : Tg K g vs ρ ρx ok) (hb : ∀ d, ok d = false → c d = .bad)
    (ht : ∀ d, ok d = true → EvT K cl E tt (ρx d) (c d)) (he : ∀ d, ok d = true → Ev K cl E te (ρx d) (f d)) {Q : VK} {Dl : Addr} (S : Sta K G H ρ σ) {acc : List PyData} {n : Nat} {G1 H1 : Hp} (L : Lc K ρ σ G H Dl acc n G1 H1) (hn : n < sizeLine)
    {x : V} {d : PyData} (r : Rp K G1 x d) {ds : List PyData} {N : Hp → Prop} (hN : ∀ acc' G' H', Lc K ρ σ G H Dl acc' (n + 1) G' H' → ((lcT c f acc' ds).bind fun ys => .ret (.list ys)).wp (Po K ρ σ (Rp K) G H Q) (Xo cl (E σ) (Owns ρ σ) H) → N H')
    (h : ((lcT c f acc (d :: ds)).bind fun ys => .ret (.list ys)).wp (Po K ρ σ (Rp K) G H Q) (Xo cl (E σ) (Owns ρ σ) H)) :
    g x (wipe σ vs) H1 fun σ2 H2 => wipe σ2 vs = wipe σ vs ∧ tt σ2 H2 fun b H3 => if b = true then te σ2 H3 fun y H4 => ∃ acc, H4 Dl = some (.lst acc) ∧ acc.length < sizeLine ∧ N (upd H4 Dl (.lst (acc ++ [y]))) else N H3 := by
  have h0 : ((c d).bind fun b => if b then ((f d).bind fun y => (lcT c f (acc ++ [y]) ds).bind fun ys => .ret (.list ys)) else (lcT c f acc ds).bind fun ys => .ret (.list ys)).wp (Po K ρ σ (Rp K) G H Q) (Xo cl (E σ) (Owns ρ σ) H) := by
    have e : ((lcT c f acc (d :: ds)).bind fun ys => Tr.ret (PyData.list ys)) = ((c d).bind fun b => if b then ((f d).bind fun y => (lcT c f (acc ++ [y]) ds).bind fun ys => .ret (.list ys)) else (lcT c f acc ds).bind fun ys => .ret (.list ys)) := by
      show (((c d).bind fun b => if b then (f d).bind fun y => lcT c f (acc ++ [y]) ds else lcT c f acc ds).bind fun ys => Tr.ret (PyData.list ys)) = _
      rw [Tr.bind_assoc]
      congr
      funext b
      cases b with
      | true => exact Tr.bind_assoc _ _ _
      | false => rfl
    rw [← e]
    exact h
  have hok : ok d = true := by
    cases q : ok d with
    | true => rfl
    | false =>
      rw [hb d q] at h0
      exact h0.elim
  obtain ⟨S1, k1⟩ := L.st.wiped hv
  refine tg G1 H1 (wipe σ vs) x d _ S1 r hok fun σ2 S2 k2 ew => ⟨ew.trans wipe_wipe, ?_⟩
  have k : Kp ρ σ (ρx d) σ2 := k1.trans k2
  -- what the base wants of errors, told here
  have xo : ∀ {G3 H3 : Hp}, Gr (Owns ρ σ) G H G3 H3 → ∀ e, Xo cl (E σ) (Owns ρ σ) H e → Xo cl (E σ2) (Owns (ρx d) σ2) H3 e := fun g3 e hx => by
    rw [hE σ2 σ]
    cases q : E σ with
    | none => rw [q] at hx; exact hx
    | some E' =>
      rw [q] at hx
      exact fun H' fr => hx H' fun a o hn ha => fr a o (fun z => hn (k.bwd a z)) (g3.fr a o hn ha)
  have lift : ∀ {G2 H2 : Hp}, Gr (Owns (ρx d) σ2) G1 H1 G2 H2 → Sta K G2 H2 (ρx d) σ2 → Lc K ρ σ G H Dl acc n G2 H2 := fun g2 S3 => by
    have g2' : Gr (Owns ρ σ) G1 H1 _ _ := g2.less k.bwd
    have no := L.own S
    have noD : ¬ Owns (ρx d) σ2 Dl := fun z => no (k.bwd Dl z)
    obtain ⟨xs, hx, ha⟩ := L.at'
    exact ⟨L.gr.trans' g2', L.st.back k g2.ex S3, L.old, g2.new Dl noD (by rw [hx]; exact fun z => nomatch z) L.out, ⟨xs, g2.fr Dl _ noD hx, ha.mono g2.ex⟩, L.len⟩
  refine ht d hok G1 H1 σ2 S2 _ (Tr.wp_mono (fun b hb v G2 H2 g2 S3 ev => ?_) (fun e hx => xo L.gr e hx) (Tr.wp_bind.mp h0))
  cases ev
  have L2 := lift g2 S3
  cases b with
  | true =>
    refine he d hok G2 H2 σ2 S3 _ (Tr.wp_mono (fun y hy w G3 H3 g3 S4 ry => ?_) (fun e hx => xo L2.gr e hx) (Tr.wp_bind.mp hb))
    have L3 := lift (g2.trans' g3) S4
    obtain ⟨xs, hx, ha⟩ := L3.at'
    exact ⟨xs, hx, by rw [ha.len]; exact Nat.lt_of_le_of_lt L3.len hn, hN _ _ _ (L3.add S ry hx ha) hy⟩
  | false => exact hN _ _ _ ⟨L2.gr, L2.st, L2.old, L2.out, L2.at', Nat.le_succ_of_le L2.len⟩ hb
theorem drop_cons {α : Type} {xs : List α} {i : Nat} {x : α} (h : xs[i]? = some x) : xs.drop i = x :: xs.drop (i + 1) := by
  obtain ⟨hi, e⟩ := List.getElem?_eq_some_iff.mp h
  rw [← e]
  exact List.drop_eq_getElem_cons hi
/-- over a list or a tuple -/
theorem ev_lcS (hE : ∀ a b, E a = E b) {tl : TE} {g : TG} {tt : TT} {te : TE} {vs : List Nat} {ρx : PyData → List Sl} {ok : PyData → Bool} {fl : Tr PyData} {c : PyData → Tr Bool} {f : PyData → Tr PyData} (hl : Ev K cl E tl ρ fl) (hv : ∀ i ∈ vs, ρ[i]? = some .any) (tg : Tg K g vs ρ ρx ok) (hb : ∀ d, ok d = false → c d = .bad)
    (ht : ∀ d, ok d = true → EvT K cl E tt (ρx d) (c d)) (he : ∀ d, ok d = true → Ev K cl E te (ρx d) (f d)) : Ev K cl E (tLc (iSeq K tl) g tt te vs) ρ (fl.bind fun l => (items l).bind fun xs => (lcT c f [] xs).bind fun ys => .ret (.list ys)) :=
  fun G H σ S Q h => hl.seq S h fun l x G1 H1 g1 S1 rx h1 => by
    have fin : ∀ {Dl : Addr} {G' H' : Hp} {acc : List PyData} {n : Nat}, n ≤ sizeLine → Lc K ρ σ G1 H1 Dl acc n G' H' → ((lcT c f acc []).bind fun ys => Tr.ret (PyData.list ys)).wp (Po K ρ σ (Rp K) G1 H1 Q) (Xo cl (E σ) (Owns ρ σ) H1) → Q (.ref Dl) H' := fun hn L q => by
      obtain ⟨G2, g2, S2, r2⟩ := L.done S1 hn
      exact q _ G2 _ g2 S2 r2
    cases rx with
    | @lst p xs ds hs hz ha =>
      refine ⟨p, rfl, .inl ⟨⟨xs, S1.sub.l hs⟩, fun Dl hD => lc_list (K := K) (a := p) (xs := xs) (fun i H' => ∃ G' acc, Lc K ρ σ G1 H1 Dl acc i G' H' ∧ ((lcT c f acc (ds.drop i)).bind fun ys => Tr.ret (PyData.list ys)).wp (Po K ρ σ (Rp K) G1 H1 Q) (Xo cl (E σ) (Owns ρ σ) H1))
        ⟨G1, [], lc_start S1 hD, h1⟩ (fun i H' _ ⟨G', acc, L, _⟩ => L.st.sub.l (L.gr.ex.l hs)) (fun i x H' hi ⟨G', acc, L, q⟩ => ?_) fun H' ⟨G', acc, L, q⟩ => ?_⟩⟩
      · obtain ⟨d, hd, r⟩ := ha.getV hi
        have hlt := (List.getElem?_eq_some_iff.mp hd).1
        rw [drop_cons hd] at q
        exact lc_turn hE hv tg hb ht he S1 L (Nat.lt_of_lt_of_le hlt hz) (r.mono L.gr.ex) (fun acc' G'' H'' L' q' => ⟨G'', acc', L', q'⟩) q
      · rw [ha.len, List.drop_length] at q
        exact fin (by rw [ha.len]; exact hz) L q
    | @tup p xs ds hs hz ha =>
      refine ⟨p, rfl, .inr ⟨⟨xs, S1.sub.t hs⟩, fun Dl hD => lc_tup (K := K) (a := p) (xs := xs) (fun i H' => ∃ G' acc, Lc K ρ σ G1 H1 Dl acc i G' H' ∧ ((lcT c f acc (ds.drop i)).bind fun ys => Tr.ret (PyData.list ys)).wp (Po K ρ σ (Rp K) G1 H1 Q) (Xo cl (E σ) (Owns ρ σ) H1))
        ⟨G1, [], lc_start S1 hD, h1⟩ (fun i H' _ ⟨G', acc, L, _⟩ => L.st.sub.t (L.gr.ex.t hs)) (fun i x H' hi ⟨G', acc, L, q⟩ => ?_) fun H' ⟨G', acc, L, q⟩ => ?_⟩⟩
      · obtain ⟨d, hd, r⟩ := ha.getV hi
        have hlt := (List.getElem?_eq_some_iff.mp hd).1
        rw [drop_cons hd] at q
        exact lc_turn hE hv tg hb ht he S1 L (Nat.lt_of_lt_of_le hlt hz) (r.mono L.gr.ex) (fun acc' G'' H'' L' q' => ⟨G'', acc', L', q'⟩) q
      · rw [ha.len, List.drop_length] at q
        exact fin (by rw [ha.len]; exact hz) L q
    | _ => exact h1.elim
/-- the numbers lo, lo + 1, .. , n of them -/
def rng (lo : Int) (n : Nat) : List PyData := (List.range n).map fun (i : Nat) => PyData.int (lo + (i : Int))
theorem rng_get {lo : Int} {n i : Nat} (h : i < n) : (rng lo n)[i]? = some (.int (lo + (i : Int))) := by
  unfold rng
  rw [List.getElem?_map, List.getElem?_range h]
  rfl
theorem rng_len (lo : Int) (n : Nat) : (rng lo n).length = n := by
  unfold rng
  rw [List.length_map, List.length_range]
/-- what a range walks: at most a million turns -/
def rangeT (lo hi : PyData) : Tr (List PyData) := match lo, hi with
  | .int a, .int b => if -(2 ^ 61) ≤ a ∧ a ≤ 2 ^ 61 ∧ -(2 ^ 61) ≤ b ∧ b ≤ 2 ^ 61 ∧ b - a ≤ 1000000 then .ret (rng a (b - a).toNat) else .bad
  | _, _ => .bad
theorem lc_rng (hE : ∀ a b, E a = E b) {g : TG} {tt : TT} {te : TE} {vs : List Nat} {ρx : PyData → List Sl} {ok : PyData → Bool} {c : PyData → Tr Bool} {f : PyData → Tr PyData} (hv : ∀ i ∈ vs, ρ[i]? = some .any) (tg : Tg K g vs ρ ρx ok) (hb : ∀ d, ok d = false → c d = .bad)
    (ht : ∀ d, ok d = true → EvT K cl E tt (ρx d) (c d)) (he : ∀ d, ok d = true → Ev K cl E te (ρx d) (f d)) {Q : VK} {lo : Int} {n : Nat} (hn : n ≤ 1000000) (S1 : Sta K G1 H1 ρ σ)
    (h1 : ((lcT c f [] (rng lo n)).bind fun ys => Tr.ret (PyData.list ys)).wp (Po K ρ σ (Rp K) G1 H1 Q) (Xo cl (E σ) (Owns ρ σ) H1)) {Dl : Addr} (hD : H1 Dl = none) :
    ∃ W : Nat → Nat → Hp → Prop, (∃ m, W 0 m (upd H1 Dl (.lst []))) ∧ ∀ i m H, W i m H →
      ((Itr lo n).stop i H ∧ Q (.ref Dl) H) ∨ ((Itr lo n).go i H ∧ ∃ Nx : Hp → Prop, (∀ H', Nx H' → ∃ m', m' < m ∧ W (i + 1) m' H') ∧ ∀ x H', (Itr lo n).yld i H x H' → g x (wipe σ vs) H' fun σ2 H2 => wipe σ2 vs = wipe σ vs ∧ tt σ2 H2 fun b H3 =>
        if b = true then te σ2 H3 fun y H4 => ∃ acc, H4 Dl = some (.lst acc) ∧ acc.length < sizeLine ∧ Nx (upd H4 Dl (.lst (acc ++ [y]))) else Nx H3) := by
  have hs : n ≤ sizeLine := by rw [sizeLine_eq]; omega
  refine lc_range (lo := lo) (n := n) (Qd := fun H => Q (.ref Dl) H) (fun i H' => ∃ G' acc, Lc K ρ σ G1 H1 Dl acc i G' H' ∧ ((lcT c f acc ((rng lo n).drop i)).bind fun ys => Tr.ret (PyData.list ys)).wp (Po K ρ σ (Rp K) G1 H1 Q) (Xo cl (E σ) (Owns ρ σ) H1))
    ⟨G1, [], lc_start S1 hD, h1⟩ (fun i H' hi ⟨G', acc, L, q⟩ => ?_) fun H' ⟨G', acc, L, q⟩ => ?_
  · rw [drop_cons (rng_get hi)] at q
    exact lc_turn hE hv tg hb ht he S1 L (Nat.lt_of_lt_of_le hi hs) (.int _) (fun acc' G'' H'' L' q' => ⟨G'', acc', L', q'⟩) q
  · have e : (rng lo n).drop n = [] := List.drop_eq_nil_of_le (by rw [rng_len]; exact Nat.le_refl _)
    rw [e] at q
    obtain ⟨G2, g2, S2, r2⟩ := L.done S1 hs
    exact q _ G2 _ g2 S2 r2
theorem ev_lcR1 (hE : ∀ a b, E a = E b) {ta : TE} {g : TG} {tt : TT} {te : TE} {vs : List Nat} {ρx : PyData → List Sl} {ok : PyData → Bool} {fa : Tr PyData} {c : PyData → Tr Bool} {f : PyData → Tr PyData} (ha : Ev K cl E ta ρ fa) (hv : ∀ i ∈ vs, ρ[i]? = some .any) (tg : Tg K g vs ρ ρx ok) (hb : ∀ d, ok d = false → c d = .bad)
    (ht : ∀ d, ok d = true → EvT K cl E tt (ρx d) (c d)) (he : ∀ d, ok d = true → Ev K cl E te (ρx d) (f d)) : Ev K cl E (tLc (iRng1 (tCons ta tNil)) g tt te vs) ρ (fa.bind fun a => (rangeT (.int 0) a).bind fun xs => (lcT c f [] xs).bind fun ys => .ret (.list ys)) :=
  fun G H σ S Q h => ha.seq S h fun a x G1 H1 g1 S1 rx h1 => by
    cases rx with
    | int b =>
      have h2 : ((if -(2 ^ 61) ≤ (0 : Int) ∧ (0 : Int) ≤ 2 ^ 61 ∧ -(2 ^ 61) ≤ b ∧ b ≤ 2 ^ 61 ∧ b - 0 ≤ 1000000 then Tr.ret (rng 0 (b - 0).toNat) else .bad).bind fun xs => (lcT c f [] xs).bind fun ys => Tr.ret (PyData.list ys)).wp (Po K ρ σ (Rp K) G1 H1 Q) (Xo cl (E σ) (Owns ρ σ) H1) := h1
      split at h2
      · rename_i hz
        refine ⟨b, rfl, by omega, by omega, fun Dl hD => ?_⟩
        have e : (b - 0).toNat = b.toNat := by omega
        rw [e] at h2
        exact lc_rng hE hv tg hb ht he (by omega) S1 h2 hD
      · exact h2.elim
    | _ => exact h1.elim
theorem ev_lcR2 (hE : ∀ a b, E a = E b) {ta tb : TE} {g : TG} {tt : TT} {te : TE} {vs : List Nat} {ρx : PyData → List Sl} {ok : PyData → Bool} {fa fb : Tr PyData} {c : PyData → Tr Bool} {f : PyData → Tr PyData} (ha : Ev K cl E ta ρ fa) (hb2 : Ev K cl E tb ρ fb) (hv : ∀ i ∈ vs, ρ[i]? = some .any) (tg : Tg K g vs ρ ρx ok) (hb : ∀ d, ok d = false → c d = .bad)
    (ht : ∀ d, ok d = true → EvT K cl E tt (ρx d) (c d)) (he : ∀ d, ok d = true → Ev K cl E te (ρx d) (f d)) : Ev K cl E (tLc (iRng2 (tCons ta (tCons tb tNil))) g tt te vs) ρ (fa.bind fun a => fb.bind fun b => (rangeT a b).bind fun xs => (lcT c f [] xs).bind fun ys => .ret (.list ys)) :=
  fun G H σ S Q h => ha.seq S h fun a x G1 H1 g1 S1 rx h1 => hb2.seq S1 h1 fun b y G2 H2 g2 S2 ry h2 => by
    cases rx with
    | int a =>
      cases ry with
      | int b =>
        have h3 : ((if -(2 ^ 61) ≤ a ∧ a ≤ 2 ^ 61 ∧ -(2 ^ 61) ≤ b ∧ b ≤ 2 ^ 61 ∧ b - a ≤ 1000000 then Tr.ret (rng a (b - a).toNat) else .bad).bind fun xs => (lcT c f [] xs).bind fun ys => Tr.ret (PyData.list ys)).wp (Po K ρ σ (Rp K) G2 H2 Q) (Xo cl (E σ) (Owns ρ σ) H2) := h2
        split at h3
        · rename_i hz
          exact ⟨a, b, rfl, ⟨by omega, by omega, by omega, by omega⟩, fun Dl hD => lc_rng hE hv tg hb ht he (by omega) S2 h3 hD⟩
        · exact h3.elim
      | _ => exact h2.elim
    | _ =>
      cases ry <;> exact h2.elim
end
end Cg
namespace Cg
open PySem L2

section
variable {K : PySem.W.Frag} {cl : Ek → Addr} {E : L2.St → Option XK} {ρ : List Sl} {σ : L2.St} {G H G1 H1 : Hp}
theorem EvG.eq {W α : Type} {Rel : Hp → W → α → Prop} {te : L2.St → Hp → (W → Hp → Prop) → Prop} {t t' : Tr α} (h : EvG K cl E Rel te ρ t) (e : t = t') : EvG K cl E Rel te ρ t' := by
  rw [← e]
  exact h

/-! ### comprehensions as maps -/
def un2 {α : Type} (f : PyData → PyData → Tr α) (d : PyData) : Tr α := match pair? d with
  | some (a, b) => f a b
  | none => .bad
def un3 {α : Type} (f : PyData → PyData → PyData → Tr α) (d : PyData) : Tr α := match trip? d with
  | some (a, b, c) => f a b c
  | none => .bad
theorem lc_map {f : PyData → Tr PyData} {c : PyData → Tr Bool} (h : ∀ d, c d = .ret true ∨ (c d = .bad ∧ f d = .bad)) (xs : List PyData) : ((lcT c f [] xs).bind fun ys => Tr.ret (PyData.list ys)) = (mapT f xs).bind fun ys => .ret (.list ys) := by
  rw [lcT_if, Tr.bind_assoc]
  have e : mapIf c f xs = mapT f xs := by
    induction xs with
    | nil => rfl
    | cons x xs ih =>
      show ((c x).bind fun b => if b then (f x).bind fun y => (mapIf c f xs).bind fun ys => .ret (y :: ys) else mapIf c f xs) = (f x).bind fun y => (mapT f xs).bind fun ys => .ret (y :: ys)
      rcases h x with h | ⟨h1, h2⟩
      · rw [h, ih]
        rfl
      · rw [h1, h2]
        rfl
  rw [e]
  rfl
theorem lc_mapIf {f : PyData → Tr PyData} {c : PyData → Tr Bool} (xs : List PyData) : ((lcT c f [] xs).bind fun ys => Tr.ret (PyData.list ys)) = (mapIf c f xs).bind fun ys => .ret (.list ys) := by
  rw [lcT_if, Tr.bind_assoc]
  rfl
section
variable {tl ta tb te : TE} {tt : TT} {fl fa fb : Tr PyData} {i j l : Nat}
theorem any_of {vs : List Nat} (h : vs.all (fun i => match ρ[i]? with | some .any => true | _ => false) = true) : ∀ i ∈ vs, ρ[i]? = some .any := fun i hi => by
  have q := List.all_eq_true.mp h i hi
  cases e : ρ[i]? with
  | none =>
    rw [e] at q
    cases q
  | some s =>
    rw [e] at q
    cases s <;> first
      | rfl
      | cases q
/-- [e for x in l] -/
theorem ev_lcS1 (hE : ∀ a b, E a = E b) {f : PyData → Tr PyData} (hl : Ev K cl E tl ρ fl) (hv : ρ[i]? = some .any) (he : ∀ d, Ev K cl E te (ρ.set i (.dat d)) (f d)) :
    Ev K cl E (tLc (iSeq K tl) (gName i) tYes te [i]) ρ (fl.bind fun l => (items l).bind fun xs => (mapT f xs).bind fun ys => .ret (.list ys)) := by
  refine (ev_lcS hE (c := fun _ => .ret true) hl (fun j hj => by cases List.mem_singleton.mp hj; exact hv) (tg_name (by unfold nown; rw [hv]; rfl)) (fun _ q => nomatch q) (fun d _ => et_yes) fun d _ => he d).eq ?_
  congr; funext l; congr; funext xs
  exact lc_map (fun _ => .inl rfl) xs
/-- [e for x in l if c] -/
theorem ev_lcS1i (hE : ∀ a b, E a = E b) {c : PyData → Tr Bool} {f : PyData → Tr PyData} (hl : Ev K cl E tl ρ fl) (hv : ρ[i]? = some .any) (ht : ∀ d, EvT K cl E tt (ρ.set i (.dat d)) (c d)) (he : ∀ d, Ev K cl E te (ρ.set i (.dat d)) (f d)) :
    Ev K cl E (tLc (iSeq K tl) (gName i) tt te [i]) ρ (fl.bind fun l => (items l).bind fun xs => (mapIf c f xs).bind fun ys => .ret (.list ys)) := by
  refine (ev_lcS hE (c := c) hl (fun j hj => by cases List.mem_singleton.mp hj; exact hv) (tg_name (by unfold nown; rw [hv]; rfl)) (fun _ q => nomatch q) (fun d _ => ht d) fun d _ => he d).eq ?_
  congr; funext l; congr; funext xs
  exact lc_mapIf xs
theorem ev_lcR1n (hE : ∀ a b, E a = E b) {f : PyData → Tr PyData} (ha : Ev K cl E ta ρ fa) (hv : ρ[i]? = some .any) (he : ∀ d, Ev K cl E te (ρ.set i (.dat d)) (f d)) :
    Ev K cl E (tLc (iRng1 (tCons ta tNil)) (gName i) tYes te [i]) ρ (fa.bind fun a => (rangeT (.int 0) a).bind fun xs => (mapT f xs).bind fun ys => .ret (.list ys)) := by
  refine (ev_lcR1 hE (c := fun _ => .ret true) ha (fun j hj => by cases List.mem_singleton.mp hj; exact hv) (tg_name (by unfold nown; rw [hv]; rfl)) (fun _ q => nomatch q) (fun d _ => et_yes) fun d _ => he d).eq ?_
  congr; funext l; congr; funext xs
  exact lc_map (fun _ => .inl rfl) xs
theorem ev_lcR1i (hE : ∀ a b, E a = E b) {c : PyData → Tr Bool} {f : PyData → Tr PyData} (ha : Ev K cl E ta ρ fa) (hv : ρ[i]? = some .any) (ht : ∀ d, EvT K cl E tt (ρ.set i (.dat d)) (c d)) (he : ∀ d, Ev K cl E te (ρ.set i (.dat d)) (f d)) :
    Ev K cl E (tLc (iRng1 (tCons ta tNil)) (gName i) tt te [i]) ρ (fa.bind fun a => (rangeT (.int 0) a).bind fun xs => (mapIf c f xs).bind fun ys => .ret (.list ys)) := by
  refine (ev_lcR1 hE (c := c) ha (fun j hj => by cases List.mem_singleton.mp hj; exact hv) (tg_name (by unfold nown; rw [hv]; rfl)) (fun _ q => nomatch q) (fun d _ => ht d) fun d _ => he d).eq ?_
  congr; funext l; congr; funext xs
  exact lc_mapIf xs
theorem ev_lcR2n (hE : ∀ a b, E a = E b) {f : PyData → Tr PyData} (ha : Ev K cl E ta ρ fa) (hb : Ev K cl E tb ρ fb) (hv : ρ[i]? = some .any) (he : ∀ d, Ev K cl E te (ρ.set i (.dat d)) (f d)) :
    Ev K cl E (tLc (iRng2 (tCons ta (tCons tb tNil))) (gName i) tYes te [i]) ρ (fa.bind fun a => fb.bind fun b => (rangeT a b).bind fun xs => (mapT f xs).bind fun ys => .ret (.list ys)) := by
  refine (ev_lcR2 hE (c := fun _ => .ret true) ha hb (fun j hj => by cases List.mem_singleton.mp hj; exact hv) (tg_name (by unfold nown; rw [hv]; rfl)) (fun _ q => nomatch q) (fun d _ => et_yes) fun d _ => he d).eq ?_
  congr; funext a; congr; funext b; congr; funext xs
  exact lc_map (fun _ => .inl rfl) xs
theorem ev_lcR2i (hE : ∀ a b, E a = E b) {c : PyData → Tr Bool} {f : PyData → Tr PyData} (ha : Ev K cl E ta ρ fa) (hb : Ev K cl E tb ρ fb) (hv : ρ[i]? = some .any) (ht : ∀ d, EvT K cl E tt (ρ.set i (.dat d)) (c d)) (he : ∀ d, Ev K cl E te (ρ.set i (.dat d)) (f d)) :
    Ev K cl E (tLc (iRng2 (tCons ta (tCons tb tNil))) (gName i) tt te [i]) ρ (fa.bind fun a => fb.bind fun b => (rangeT a b).bind fun xs => (mapIf c f xs).bind fun ys => .ret (.list ys)) := by
  refine (ev_lcR2 hE (c := c) ha hb (fun j hj => by cases List.mem_singleton.mp hj; exact hv) (tg_name (by unfold nown; rw [hv]; rfl)) (fun _ q => nomatch q) (fun d _ => ht d) fun d _ => he d).eq ?_
  congr; funext a; congr; funext b; congr; funext xs
  exact lc_mapIf xs
/-- [e for a, b in l] -/
theorem ev_lcS2 (hE : ∀ a b, E a = E b) {f : PyData → PyData → Tr PyData} (hl : Ev K cl E tl ρ fl) (hv : ([i, j].all fun i => match ρ[i]? with | some .any => true | _ => false) = true) (he : ∀ a b, Ev K cl E te ((ρ.set i (.dat a)).set j (.dat b)) (f a b)) (hi : nown ρ i = true := by rfl) (hj : nown ρ j = true := by rfl) (ne : i ≠ j := by decide) :
    Ev K cl E (tLc (iSeq K tl) (gTup K 2 (gCons (gName i) (gCons (gName j) gNil))) tYes te [i, j]) ρ (fl.bind fun l => (items l).bind fun xs => (mapT (un2 f) xs).bind fun ys => .ret (.list ys)) := by
  refine (ev_lcS hE (c := un2 fun _ _ => .ret true) (f := un2 f) hl (any_of hv) (tg_tup2 hi hj ne List.mem_cons_self (List.mem_cons_of_mem _ List.mem_cons_self)) (fun d q => ?_) (fun d q => ?_) fun d q => ?_).eq ?_
  · unfold un2
    cases e : pair? d with
    | none => rfl
    | some p => rw [e] at q; cases q
  · unfold un2
    cases e : pair? d with
    | none => rw [e] at q; cases q
    | some p => exact et_yes
  · unfold un2
    cases e : pair? d with
    | none => rw [e] at q; cases q
    | some p => exact he p.1 p.2
  · congr; funext l; congr; funext xs
    refine lc_map (fun d => ?_) xs
    unfold un2
    cases e : pair? d with
    | none => exact .inr ⟨rfl, rfl⟩
    | some p => exact .inl rfl
theorem ev_lcS2i (hE : ∀ a b, E a = E b) {c : PyData → PyData → Tr Bool} {f : PyData → PyData → Tr PyData} (hl : Ev K cl E tl ρ fl) (hv : ([i, j].all fun i => match ρ[i]? with | some .any => true | _ => false) = true) (ht : ∀ a b, EvT K cl E tt ((ρ.set i (.dat a)).set j (.dat b)) (c a b)) (he : ∀ a b, Ev K cl E te ((ρ.set i (.dat a)).set j (.dat b)) (f a b)) (hi : nown ρ i = true := by rfl) (hj : nown ρ j = true := by rfl) (ne : i ≠ j := by decide) :
    Ev K cl E (tLc (iSeq K tl) (gTup K 2 (gCons (gName i) (gCons (gName j) gNil))) tt te [i, j]) ρ (fl.bind fun l => (items l).bind fun xs => (mapIf (un2 c) (un2 f) xs).bind fun ys => .ret (.list ys)) := by
  refine (ev_lcS hE (c := un2 c) (f := un2 f) hl (any_of hv) (tg_tup2 hi hj ne List.mem_cons_self (List.mem_cons_of_mem _ List.mem_cons_self)) (fun d q => ?_) (fun d q => ?_) fun d q => ?_).eq ?_
  · unfold un2
    cases e : pair? d with
    | none => rfl
    | some p => rw [e] at q; cases q
  · unfold un2
    cases e : pair? d with
    | none => rw [e] at q; cases q
    | some p => exact ht p.1 p.2
  · unfold un2
    cases e : pair? d with
    | none => rw [e] at q; cases q
    | some p => exact he p.1 p.2
  · congr; funext l; congr; funext xs
    exact lc_mapIf xs
theorem ev_lcS3 (hE : ∀ a b, E a = E b) {f : PyData → PyData → PyData → Tr PyData} (hl : Ev K cl E tl ρ fl) (hv : ([i, j, l].all fun i => match ρ[i]? with | some .any => true | _ => false) = true) (he : ∀ a b c, Ev K cl E te (((ρ.set i (.dat a)).set j (.dat b)).set l (.dat c)) (f a b c)) (hi : nown ρ i = true := by rfl) (hj : nown ρ j = true := by rfl) (hk : nown ρ l = true := by rfl) (ne : i ≠ j := by decide) (ne2 : i ≠ l := by decide) (ne3 : j ≠ l := by decide) :
    Ev K cl E (tLc (iSeq K tl) (gTup K 3 (gCons (gName i) (gCons (gName j) (gCons (gName l) gNil)))) tYes te [i, j, l]) ρ (fl.bind fun l => (items l).bind fun xs => (mapT (un3 f) xs).bind fun ys => .ret (.list ys)) := by
  refine (ev_lcS hE (c := un3 fun _ _ _ => .ret true) (f := un3 f) hl (any_of hv) (tg_tup3 hi hj hk ne ne2 ne3 List.mem_cons_self (List.mem_cons_of_mem _ List.mem_cons_self) (List.mem_cons_of_mem _ (List.mem_cons_of_mem _ List.mem_cons_self))) (fun d q => ?_) (fun d q => ?_) fun d q => ?_).eq ?_
  · unfold un3
    cases e : trip? d with
    | none => rfl
    | some p => rw [e] at q; cases q
  · unfold un3
    cases e : trip? d with
    | none => rw [e] at q; cases q
    | some p => exact et_yes
  · unfold un3
    cases e : trip? d with
    | none => rw [e] at q; cases q
    | some p => exact he p.1 p.2.1 p.2.2
  · congr; funext l; congr; funext xs
    refine lc_map (fun d => ?_) xs
    unfold un3
    cases e : trip? d with
    | none => exact .inr ⟨rfl, rfl⟩
    | some p => exact .inl rfl
theorem ev_lcS3i (hE : ∀ a b, E a = E b) {c : PyData → PyData → PyData → Tr Bool} {f : PyData → PyData → PyData → Tr PyData} (hl : Ev K cl E tl ρ fl) (hv : ([i, j, l].all fun i => match ρ[i]? with | some .any => true | _ => false) = true) (ht : ∀ a b d, EvT K cl E tt (((ρ.set i (.dat a)).set j (.dat b)).set l (.dat d)) (c a b d)) (he : ∀ a b d, Ev K cl E te (((ρ.set i (.dat a)).set j (.dat b)).set l (.dat d)) (f a b d)) (hi : nown ρ i = true := by rfl) (hj : nown ρ j = true := by rfl) (hk : nown ρ l = true := by rfl) (ne : i ≠ j := by decide) (ne2 : i ≠ l := by decide) (ne3 : j ≠ l := by decide) :
    Ev K cl E (tLc (iSeq K tl) (gTup K 3 (gCons (gName i) (gCons (gName j) (gCons (gName l) gNil)))) tt te [i, j, l]) ρ (fl.bind fun l => (items l).bind fun xs => (mapIf (un3 c) (un3 f) xs).bind fun ys => .ret (.list ys)) := by
  refine (ev_lcS hE (c := un3 c) (f := un3 f) hl (any_of hv) (tg_tup3 hi hj hk ne ne2 ne3 List.mem_cons_self (List.mem_cons_of_mem _ List.mem_cons_self) (List.mem_cons_of_mem _ (List.mem_cons_of_mem _ List.mem_cons_self))) (fun d q => ?_) (fun d q => ?_) fun d q => ?_).eq ?_
  · unfold un3
    cases e : trip? d with
    | none => rfl
    | some p => rw [e] at q; cases q
  · unfold un3
    cases e : trip? d with
    | none => rw [e] at q; cases q
    | some p => exact ht p.1 p.2.1 p.2.2
  · unfold un3
    cases e : trip? d with
    | none => rw [e] at q; cases q
    | some p => exact he p.1 p.2.1 p.2.2
  · congr; funext l; congr; funext xs
    exact lc_mapIf xs
end

/-! ### statements -/
/-- how a block ends: on, with an answer, out of the loop, to the next turn -/
inductive Ct (S : Type) where
  | nx (s : S)
  | rt (d : PyData)
  | bk (s : S)
  | ct (s : S)
/-- the box that was handed in -/
def Box0 (ρ : List Sl) (σ : L2.St) (b : Addr) : Prop := ρ[0]? = some .box ∧ σ[0]? = some (some (V.ref b))
/-- from one place of a body to a later one -/
structure Af (K : PySem.W.Frag) (ρ : List Sl) (σ : L2.St) (G H : Hp) (ρ' : List Sl) (σ' : L2.St) (G' H' : Hp) : Prop where
  gr : Gr (Owns ρ σ) G H G' H'
  st : Sta K G' H' ρ' σ'
  ow : ∀ a, Owns ρ' σ' a → Owns ρ σ a ∨ H a = none
  bx : ∀ b, Box0 ρ σ b → Box0 ρ' σ' b
theorem Af.refl (S : Sta K G H ρ σ) : Af K ρ σ G H ρ σ G H := ⟨Gr.refl, S, fun _ h => .inl h, fun _ h => h⟩
theorem Af.ev (g : Gr (Owns ρ σ) G H G1 H1) (S : Sta K G1 H1 ρ σ) : Af K ρ σ G H ρ σ G1 H1 := ⟨g, S, fun _ h => .inl h, fun _ h => h⟩
theorem Af.trans {ρ1 ρ2 : List Sl} {σ1 σ2 : L2.St} {G2 H2 : Hp} (a : Af K ρ σ G H ρ1 σ1 G1 H1) (b : Af K ρ1 σ1 G1 H1 ρ2 σ2 G2 H2) : Af K ρ σ G H ρ2 σ2 G2 H2 := by
  refine ⟨a.gr.trans b.gr a.ow, b.st, fun x h => ?_, fun x h => b.bx x (a.bx x h)⟩
  rcases b.ow x h with h | h
  · exact a.ow x h
  · cases e : H x with
    | none => exact .inr rfl
    | some o => exact absurd h (a.gr.keep x (by rw [e]; exact fun z => nomatch z))
def OutP {S : Type} (K : PySem.W.Frag) (ρ : List Sl) (σ : L2.St) (G H : Hp) (ρ' : S → List Sl) (D : Ends) : Ct S → Prop
  | .nx s => ∀ σ' G' H', Af K ρ σ G H (ρ' s) σ' G' H' → D.nx σ' H'
  | .rt d => ∀ v G' H', Gr (Owns ρ σ) G H G' H' → Ex G' H' → (∀ b, Box0 ρ σ b → BoxOk K G' H' b) → Rp K G' v d → D.rt v H'
  | .bk s => ∀ σ' G' H', Af K ρ σ G H (ρ' s) σ' G' H' → D.bk σ' H'
  | .ct s => ∀ σ' G' H', Af K ρ σ G H (ρ' s) σ' G' H' → D.ct σ' H'
def StG {S β : Type} (K : PySem.W.Frag) (cl : Ek → Addr) (E : L2.St → Option XK) (oc : β → Ct S) (ρ' : S → List Sl) (ts : TS) (ρ : List Sl) (t : Tr β) : Prop :=
  ∀ G H σ, Sta K G H ρ σ → ∀ D : Ends, t.wp (fun b => OutP K ρ σ G H ρ' D (oc b)) (Xo cl (E σ) (Owns ρ σ) H) → ts D σ H
section
variable {S β : Type} {oc : β → Ct S} {ρ' : S → List Sl} {ρ1 : List Sl} {σ1 : L2.St} {D : Ends}
theorem OutP.up (a : Af K ρ σ G H ρ1 σ1 G1 H1) : ∀ {c : Ct S}, OutP K ρ σ G H ρ' D c → OutP K ρ1 σ1 G1 H1 ρ' D c
  | .nx s, h => fun σ' G' H' b => h σ' G' H' (a.trans b)
  | .rt d, h => fun v G' H' g e hb r => h v G' H' (a.gr.trans g a.ow) e (fun b z => hb b (a.bx b z)) r
  | .bk s, h => fun σ' G' H' b => h σ' G' H' (a.trans b)
  | .ct s, h => fun σ' G' H' b => h σ' G' H' (a.trans b)
theorem Af.xo {E : Option XK} (a : Af K ρ σ G H ρ1 σ1 G1 H1) {c : Ek} (h : Xo cl E (Owns ρ σ) H c) : Xo cl E (Owns ρ1 σ1) H1 c := by
  cases E with
  | none => exact h
  | some E => exact fun H' k => h H' fun x o hn hx => k x o (fun z => by
      rcases a.ow x z with z | z
      · exact hn z
      · rw [hx] at z
        cases z) (a.gr.fr x o hn hx)
theorem upS (hE : ∀ a b, E a = E b) (a : Af K ρ σ G H ρ1 σ1 G1 H1) {t : Tr β} (h : t.wp (fun b => OutP K ρ σ G H ρ' D (oc b)) (Xo cl (E σ) (Owns ρ σ) H)) : t.wp (fun b => OutP K ρ1 σ1 G1 H1 ρ' D (oc b)) (Xo cl (E σ1) (Owns ρ1 σ1) H1) :=
  Tr.wp_mono (fun _ => OutP.up a) (fun _ q => by rw [hE σ1 σ]; exact a.xo q) h
/-- an expression, then what the statement makes of it -/
theorem EvG.then {W α : Type} {Rel : Hp → W → α → Prop} {te : L2.St → Hp → (W → Hp → Prop) → Prop} {f : Tr α} {g : α → Tr β} (h : EvG K cl E Rel te ρ f) (hS : Sta K G H ρ σ) {R : W → Hp → Prop}
    (hw : (f.bind g).wp (fun b => OutP K ρ σ G H ρ' D (oc b)) (Xo cl (E σ) (Owns ρ σ) H))
    (k : ∀ d v G1 H1, Af K ρ σ G H ρ σ G1 H1 → Rel G1 v d → (g d).wp (fun b => OutP K ρ σ G1 H1 ρ' D (oc b)) (Xo cl (E σ) (Owns ρ σ) H1) → R v H1) : te σ H R :=
  h G H σ hS R (Tr.wp_mono (fun d hd v G' H' g' S' r => k d v G' H' (.ev g' S') r (Tr.wp_mono (fun _ => OutP.up (.ev g' S')) (fun _ => (Af.ev g' S').xo) hd)) (fun _ x => x) (Tr.wp_bind.mp hw))
/-- the end of a block -/
inductive Wk : List Sl → List Sl → Prop
  | nil : Wk [] []
  | same (s : Sl) {a b : List Sl} : Wk a b → Wk (s :: a) (s :: b)
  | any {s : Sl} {a b : List Sl} (h : (match s with | .box => false | _ => true) = true) : Wk a b → Wk (s :: a) (.any :: b)
theorem Wk.len : ∀ {a b : List Sl}, Wk a b → a.length = b.length
  | _, _, .nil => rfl
  | _, _, .same _ h => congrArg (· + 1) h.len
  | _, _, .any _ h => congrArg (· + 1) h.len
theorem Wk.at : ∀ {a b : List Sl}, Wk a b → ∀ (i : Nat) (s : Sl), b[i]? = some s → a[i]? = some s ∨ s = .any
  | _, _, .nil, i, s, e => by simp at e
  | _, _, .same t h, 0, s, e => by
    simp at e
    subst e
    exact .inl rfl
  | _, _, .same t h, i + 1, s, e => by
    simpa using h.at i s (by simpa using e)
  | _, _, .any q h, 0, s, e => by
    simp at e
    exact .inr e.symm
  | _, _, .any q h, i + 1, s, e => by
    simpa using h.at i s (by simpa using e)
theorem Wk.box : ∀ {a b : List Sl}, Wk a b → a[0]? = some .box → b[0]? = some .box
  | _, _, .nil, e => by simp at e
  | _, _, .same t h, e => e
  | _, _, .any q h, e => by
    simp at e
    subst e
    cases q
theorem Wk.af {ρ1 : List Sl} (w : Wk ρ ρ1) (hS : Sta K G H ρ σ) : Af K ρ σ G H ρ1 σ G H := by
  refine ⟨Gr.refl, ⟨by rw [← w.len]; exact hS.len, hS.sub, fun i s o h1 h2 => ?_, fun i j si sj a h1 h2 h3 h4 h5 h6 => ?_⟩, fun a h => .inl ?_, fun b h => ⟨w.box h.1, h.2⟩⟩
  · rcases w.at i s h1 with h | h
    · exact hS.ok i s o h h2
    · subst h
      trivial
  · rcases w.at i si h1 with q1 | q1
    · rcases w.at j sj h2 with q2 | q2
      · exact hS.dis i j si sj a q1 q2 h3 h4 h5 h6
      · subst q2
        cases h4
    · subst q1
      cases h3
  · obtain ⟨i, s, h1, h2, h3⟩ := h
    rcases w.at i s h1 with q | q
    · exact ⟨i, s, q, h2, h3⟩
    · subst q
      cases h2
theorem st_nx {b : β} {s : S} (h : oc b = .nx s) (w : Wk ρ (ρ' s)) : StG K cl E oc ρ' tNext ρ (.ret b) := fun G H σ hS D q => by
  have q' : OutP K ρ σ G H ρ' D (oc b) := q
  rw [h] at q'
  exact q' σ G H (w.af hS)
theorem st_ct {b : β} {s : S} {u : TS} (h : oc b = .ct s) (w : Wk ρ (ρ' s)) : StG K cl E oc ρ' (tSeq tCont u) ρ (.ret b) := fun G H σ hS D q => by
  have q' : OutP K ρ σ G H ρ' D (oc b) := q
  rw [h] at q'
  exact q' σ G H (w.af hS)
theorem st_bk {b : β} {s : S} {u : TS} (h : oc b = .bk s) (w : Wk ρ (ρ' s)) : StG K cl E oc ρ' (tSeq tBreak u) ρ (.ret b) := fun G H σ hS D q => by
  have q' : OutP K ρ σ G H ρ' D (oc b) := q
  rw [h] at q'
  exact q' σ G H (w.af hS)
theorem rt_out {r : PyData → β} (hr : ∀ d, oc (r d) = .rt d) {te : TE} {f : Tr PyData} (h : Ev K cl E te ρ f) (hS : Sta K G H ρ σ) (q : (f.bind fun d => Tr.ret (r d)).wp (fun b => OutP K ρ σ G H ρ' D (oc b)) (Xo cl (E σ) (Owns ρ σ) H)) : te σ H D.rt :=
  h.then (g := fun d => Tr.ret (r d)) hS q fun d v G1 H1 a rv w => by
    have w' : OutP K ρ σ G1 H1 ρ' D (oc (r d)) := w
    rw [hr d] at w'
    refine w' v G1 H1 Gr.refl a.st.sub (fun b z => ?_) rv
    obtain ⟨o, h1, b', e, hb⟩ := a.st.var z.1
    rw [z.2] at h1
    cases h1
    cases e
    exact hb
/-- return e: where more may follow in a loop -/
theorem st_rt {r : PyData → β} (hr : ∀ d, oc (r d) = .rt d) {te : TE} {f : Tr PyData} {u : TS} (h : Ev K cl E te ρ f) : StG K cl E oc ρ' (tSeq (tRet te) u) ρ (f.bind fun d => .ret (r d)) := fun G H σ hS D q => rt_out (D := D) hr h hS q
theorem st_rtN {r : PyData → β} (hr : ∀ d, oc (r d) = .rt d) {u : TS} : StG K cl E oc ρ' (tSeq tRetN u) ρ (.ret (r .none)) := fun G H σ hS D q => by
  have q' : OutP K ρ σ G H ρ' D (oc (r .none)) := q
  rw [hr .none] at q'
  refine q' .non G H Gr.refl hS.sub (fun b z => ?_) .non
  obtain ⟨o, h1, b', e, hb⟩ := hS.var z.1
  rw [z.2] at h1
  cases h1
  cases e
  exact hb
/-- name = e -/
theorem st_asg (hE : ∀ a b, E a = E b) {i : Nat} {te : TE} {f : Tr PyData} {g : PyData → Tr β} {u : TS} (h : Ev K cl E te ρ f) (k : ∀ d, StG K cl E oc ρ' u (ρ.set i (.dat d)) (g d)) (n : nown ρ i = true := by rfl) : StG K cl E oc ρ' (tSeq (tAsg te (gName i)) u) ρ (f.bind g) :=
  fun G H σ hS D q => h.then (g := g) hS q fun d v G1 H1 a rv w => by
    have kp := kp_put (σ := σ) (v := v) (d := d) n
    have a2 : Af K ρ σ G1 H1 (ρ.set i (.dat d)) (σ.set i (some v)) G1 H1 := ⟨Gr.refl, a.st.put rv, fun x z => .inl (kp.bwd x z), fun b z => by
      obtain ⟨q1, q2⟩ := kp.fwd 0 .box z.1 rfl
      exact ⟨q1, q2.trans z.2⟩⟩
    exact k d G1 H1 (σ.set i (some v)) (a.st.put rv) D (upS hE a2 w)
/-- if c: (it ends) -/
theorem st_if {tc : TT} {t u : TS} {fc : Tr Bool} {ft fu : Tr β} (hc : EvT K cl E tc ρ fc) (ht : StG K cl E oc ρ' t ρ ft) (hu : StG K cl E oc ρ' u ρ fu) (nn : ∀ (D : Ends) (n : L2.St → Hp → Prop), t { D with nx := n } = t D := by intros; rfl) :
    StG K cl E oc ρ' (tSeq (tIfS tc t tNext) u) ρ (fc.bind fun b => if b then ft else fu) := fun G H σ hS D q => hc.then (g := fun b => if b then ft else fu) hS q fun b b' G1 H1 a e w => by
  cases e
  cases b with
  | true =>
    show t { D with nx := u D } σ H1
    rw [nn]
    exact ht G1 H1 σ a.st D w
  | false => exact hu G1 H1 σ a.st D w
/-- if c: .. else: .., both end -/
theorem st_if2 {tc : TT} {t t2 u : TS} {fc : Tr Bool} {ft fu : Tr β} (hc : EvT K cl E tc ρ fc) (ht : StG K cl E oc ρ' t ρ ft) (hu : StG K cl E oc ρ' t2 ρ fu) (nn : ∀ (D : Ends) (n : L2.St → Hp → Prop), t { D with nx := n } = t D := by intros; rfl) (nn2 : ∀ (D : Ends) (n : L2.St → Hp → Prop), t2 { D with nx := n } = t2 D := by intros; rfl) :
    StG K cl E oc ρ' (tSeq (tIfS tc t t2) u) ρ (fc.bind fun b => if b then ft else fu) := fun G H σ hS D q => hc.then (g := fun b => if b then ft else fu) hS q fun b b' G1 H1 a e w => by
  cases e
  cases b with
  | true =>
    show t { D with nx := u D } σ H1
    rw [nn]
    exact ht G1 H1 σ a.st D w
  | false =>
    show t2 { D with nx := u D } σ H1
    rw [nn2]
    exact hu G1 H1 σ a.st D w
/-- if c: .. else: .., both go on; s is what they leave -/
theorem st_ifj (hE : ∀ a b, E a = E b) {S1 : Type} {ρs : S1 → List Sl} {tc : TT} {t t2 u : TS} {fc : Tr Bool} {ft fu : Tr S1} {k : S1 → Tr β} (hc : EvT K cl E tc ρ fc) (ht : StG K cl E Ct.nx ρs t ρ ft) (hu : StG K cl E Ct.nx ρs t2 ρ fu) (hk : ∀ s, StG K cl E oc ρ' u (ρs s) (k s)) :
    StG K cl E oc ρ' (tSeq (tIfS tc t t2) u) ρ (fc.bind fun b => (if b then ft else fu).bind k) := fun G H σ hS D q => hc.then (g := fun b => (if b then ft else fu).bind k) hS q fun b b' G1 H1 a e w => by
  cases e
  have go : ∀ {t : TS} {f : Tr S1}, StG K cl E Ct.nx ρs t ρ f → (f.bind k).wp (fun b => OutP K ρ σ G1 H1 ρ' D (oc b)) (Xo cl (E σ) (Owns ρ σ) H1) → t { D with nx := u D } σ H1 := fun ht w =>
    ht G1 H1 σ a.st _ (Tr.wp_mono (fun s hs σ' G' H' a2 => hk s G' H' σ' a2.st D (upS hE a2 hs)) (fun _ z => z) (Tr.wp_bind.mp w))
  cases b with
  | true => exact go ht w
  | false => exact go hu w
/-- the same where a branch may also end -/
def andThen {S1 : Type} (r : PyData → β) (f : Tr (Ct S1)) (k : S1 → Tr β) : Tr β := f.bind fun c => match c with
  | .nx s => k s
  | .rt d => .ret (r d)
  | .bk _ => .bad
  | .ct _ => .bad
theorem st_ifc (hE : ∀ a b, E a = E b) {S1 : Type} {ρs : S1 → List Sl} {r : PyData → β} (hr : ∀ d, oc (r d) = .rt d) {tc : TT} {t t2 u : TS} {fc : Tr Bool} {ft fu : Tr (Ct S1)} {k : S1 → Tr β} (hc : EvT K cl E tc ρ fc) (ht : StG K cl E id ρs t ρ ft) (hu : StG K cl E id ρs t2 ρ fu) (hk : ∀ s, StG K cl E oc ρ' u (ρs s) (k s)) :
    StG K cl E oc ρ' (tSeq (tIfS tc t t2) u) ρ (fc.bind fun b => andThen r (if b then ft else fu) k) := fun G H σ hS D q => hc.then (g := fun b => andThen r (if b then ft else fu) k) hS q fun b b' G1 H1 a e w => by
  cases e
  have go : ∀ {t : TS} {f : Tr (Ct S1)}, StG K cl E id ρs t ρ f → (andThen r f k).wp (fun b => OutP K ρ σ G1 H1 ρ' D (oc b)) (Xo cl (E σ) (Owns ρ σ) H1) → t { D with nx := u D } σ H1 := fun ht w =>
    ht G1 H1 σ a.st _ (Tr.wp_mono (fun c hs => by
      cases c with
      | nx s => exact fun σ' G' H' a2 => hk s G' H' σ' a2.st D (upS hE a2 hs)
      | rt d =>
        have hs' : OutP K ρ σ G1 H1 ρ' D (oc (r d)) := hs
        rw [hr d] at hs'
        exact hs'
      | bk _ => exact hs.elim
      | ct _ => exact hs.elim) (fun _ z => z) (Tr.wp_bind.mp w))
  cases b with
  | true => exact go ht w
  | false => exact go hu w
/-- e, its answer dropped -/
theorem st_drop (hE : ∀ a b, E a = E b) {te : TE} {f : Tr PyData} {g : Tr β} {u : TS} (h : Ev K cl E te ρ f) (k : StG K cl E oc ρ' u ρ g) : StG K cl E oc ρ' (tSeq (tDrop te) u) ρ (f.bind fun _ => g) :=
  fun G H σ hS D q => h.then (g := fun _ => g) hS q fun d v G1 H1 a rv w => k G1 H1 σ a.st D w
/-- name op= e, whole numbers -/
theorem st_aug (hE : ∀ a b, E a = E b) {i : Nat} {x : PyData} {op : Int → Int → Int} {te : TE} {f : Tr PyData} {g : PyData → Tr β} {u : TS} (hx : ρ[i]? = some (.dat x)) (h : Ev K cl E te ρ f) (k : ∀ d, StG K cl E oc ρ' u (ρ.set i (.dat d)) (g d)) :
    StG K cl E oc ρ' (tSeq (tAug i te (ipI op)) u) ρ (f.bind fun y => (asI x).bind fun a => (asI y).bind fun b => g (.int (op a b))) := fun G H σ hS D q => by
  obtain ⟨o, h1, vx, e, rx⟩ := hS.var hx
  subst e
  refine ⟨vx, h1, h.then (g := fun y => (asI x).bind fun a => (asI y).bind fun b => g (.int (op a b))) hS q fun d v G1 H1 a rv w => ?_⟩
  cases rx with
  | int m =>
    cases rv with
    | int n =>
      refine ⟨m, n, rfl, rfl, ?_⟩
      have nn : nown ρ i = true := by
        unfold nown
        rw [hx]
        rfl
      have rz : Rp K G1 (.int (op m n)) (.int (op m n)) := .int _
      have kp := kp_put (σ := σ) (v := .int (op m n)) (d := .int (op m n)) nn
      have a2 : Af K ρ σ G1 H1 (ρ.set i (.dat (.int (op m n)))) (σ.set i (some (.int (op m n)))) G1 H1 := ⟨Gr.refl, a.st.put rz, fun x z => .inl (kp.bwd x z), fun b z => by
        obtain ⟨q1, q2⟩ := kp.fwd 0 .box z.1 rfl
        exact ⟨q1, q2.trans z.2⟩⟩
      exact k _ G1 H1 _ (a.st.put rz) D (upS hE a2 w)
    | _ => exact w.elim
  | _ => exact w.elim

/-! ### loops -/
def forC {α S' : Type} (r : PyData → β) (f : α → S' → Tr (Ct S')) (k : S' → Tr β) : List α → S' → Tr β
  | [], s => k s
  | x :: xs, s => (f x s).bind fun c => match c with
    | .nx s' => forC r f k xs s'
    | .ct s' => forC r f k xs s'
    | .bk s' => k s'
    | .rt d => .ret (r d)
def forN {α S' : Type} (f : α → S' → Tr S') : List α → S' → Tr S'
  | [], s => .ret s
  | x :: xs, s => (f x s).bind fun s' => forN f xs s'
theorem forC_N {α S' : Type} {r : PyData → β} (f : α → S' → Tr S') (k : S' → Tr β) : ∀ (xs : List α) (s : S'), forC r (fun x s => (f x s).bind fun s' => .ret (.nx s')) k xs s = (forN f xs s).bind k
  | [], s => rfl
  | x :: xs, s => by
    show (((f x s).bind fun s' => Tr.ret (Ct.nx s')).bind _) = ((f x s).bind fun s' => forN f xs s').bind k
    rw [Tr.bind_assoc, Tr.bind_assoc]
    congr
    funext s'
    exact forC_N f k xs s'
theorem StG.nxs {S1 : Type} {ρs : S1 → List Sl} {t : TS} {f : Tr S1} (h : StG K cl E Ct.nx ρs t ρ f) : StG K cl E id ρs t ρ (f.bind fun s => .ret (.nx s)) := fun G H σ hS D q => h G H σ hS D (Tr.wp_mono (fun _ z => z) (fun _ z => z) (Tr.wp_bind.mp q))
theorem for_turn (hE : ∀ a b, E a = E b) {S1 : Type} {ρs : S1 → List Sl} {g : TG} {vs : List Nat} {ok : PyData → Bool} {ρb : S1 → PyData → List Sl} {r : PyData → β} (hr : ∀ d, oc (r d) = .rt d) {tb : TS} {f : PyData → S1 → Tr (Ct S1)} {k : S1 → Tr β} (tg : ∀ s, Tg K g vs (ρs s) (ρb s) ok) (hb : ∀ d s, ok d = false → f d s = .bad)
    (hf : ∀ d s, ok d = true → StG K cl E id ρs tb (ρb s d) (f d s)) {ds : List PyData} {d : PyData} {s : S1} {x : V} {σ' : L2.St} {G' H' : Hp} (a : Af K ρ σ G H (ρs s) σ' G' H') (rx : Rp K G' x d) {Pn : L2.St → Hp → Prop}
    (hn : ∀ s2 σ2 G2 H2, Af K ρ σ G H (ρs s2) σ2 G2 H2 → (forC r f k ds s2).wp (fun b => OutP K ρ σ G H ρ' D (oc b)) (Xo cl (E σ) (Owns ρ σ) H) → Pn σ2 H2) {De : Ends} (ert : De.rt = D.rt)
    (hk : ∀ s2 σ2 G2 H2, Af K ρ σ G H (ρs s2) σ2 G2 H2 → (k s2).wp (fun b => OutP K ρ σ G H ρ' D (oc b)) (Xo cl (E σ) (Owns ρ σ) H) → De.nx σ2 H2)
    (h : (forC r f k (d :: ds) s).wp (fun b => OutP K ρ σ G H ρ' D (oc b)) (Xo cl (E σ) (Owns ρ σ) H)) : g x σ' H' fun σ2 H2 => tb { De with nx := Pn, ct := Pn, bk := De.nx } σ2 H2 := by
  have hok : ok d = true := by
    cases q : ok d with
    | true => rfl
    | false =>
      have h' : ((f d s).bind fun c => match c with
        | .nx s' => forC r f k ds s'
        | .ct s' => forC r f k ds s'
        | .bk s' => k s'
        | .rt d => .ret (r d)).wp (fun b => OutP K ρ σ G H ρ' D (oc b)) (Xo cl (E σ) (Owns ρ σ) H) := h
      rw [hb d s q] at h'
      exact h'.elim
  refine tg s G' H' σ' x d _ a.st rx hok fun σ2 S2 kp _ => ?_
  have a2 : Af K ρ σ G H (ρb s d) σ2 G' H' := a.trans ⟨Gr.refl, S2, fun x z => .inl (kp.bwd x z), fun b z => by
    obtain ⟨q1, q2⟩ := kp.fwd 0 .box z.1 rfl
    exact ⟨q1, q2.trans z.2⟩⟩
  refine hf d s hok G' H' σ2 S2 _ (Tr.wp_mono (fun c hc => ?_) (fun e he => by rw [hE σ2 σ]; exact a2.xo he) (Tr.wp_bind.mp h))
  cases c with
  | nx s2 => exact fun σ3 G3 H3 a3 => hn s2 σ3 G3 H3 (a2.trans a3) hc
  | ct s2 => exact fun σ3 G3 H3 a3 => hn s2 σ3 G3 H3 (a2.trans a3) hc
  | bk s2 => exact fun σ3 G3 H3 a3 => hk s2 σ3 G3 H3 (a2.trans a3) hc
  | rt d2 =>
    have hc' : OutP K ρ σ G H ρ' D (oc (r d2)) := hc
    rw [hr d2] at hc'
    have h2 := OutP.up (ρ' := ρ') a2 (c := Ct.rt d2) hc'
    show OutP K (ρb s d) σ2 G' H' ρs _ (Ct.rt d2)
    intro v G3 H3 g3 e3 hb3 r3
    show De.rt v H3
    rw [ert]
    exact h2 v G3 H3 g3 e3 hb3 r3
/-- for target in a list or a tuple -/
theorem st_forS (hE : ∀ a b, E a = E b) {S1 : Type} {ρs : S1 → List Sl} {g : TG} {vs : List Nat} {ok : PyData → Bool} {ρb : S1 → PyData → List Sl} {r : PyData → β} (hr : ∀ d, oc (r d) = .rt d) {tl : TE} {tb u : TS} {fl : Tr PyData} {f : PyData → S1 → Tr (Ct S1)} {k : S1 → Tr β} {s0 : S1} (hl : Ev K cl E tl ρ fl) (w : Wk ρ (ρs s0))
    (tg : ∀ s, Tg K g vs (ρs s) (ρb s) ok) (hb : ∀ d s, ok d = false → f d s = .bad) (hf : ∀ d s, ok d = true → StG K cl E id ρs tb (ρb s d) (f d s)) (hk : ∀ s, StG K cl E oc ρ' u (ρs s) (k s)) :
    StG K cl E oc ρ' (tSeq (tFor (iSeq K tl) g tb) u) ρ (fl.bind fun l => (items l).bind fun xs => forC r f k xs s0) := fun G H σ hS D q => hl.then (g := fun l => (items l).bind fun xs => forC r f k xs s0) hS q fun l x G1 H1 a rx w1 => by
  have fin : ∀ s2 σ2 G2 H2, Af K ρ σ G1 H1 (ρs s2) σ2 G2 H2 → (k s2).wp (fun b => OutP K ρ σ G1 H1 ρ' D (oc b)) (Xo cl (E σ) (Owns ρ σ) H1) → u D σ2 H2 := fun s2 σ2 G2 H2 a2 q2 => hk s2 G2 H2 σ2 a2.st D (upS hE a2 q2)
  cases rx with
  | @lst p xs ds hs hz ha =>
    refine ⟨p, rfl, .inl ⟨⟨xs, a.st.sub.l hs⟩, for_list (K := K) (a := p) (xs := xs) (D := { D with nx := u D }) (fun i σ' H' => ∃ G' s, Af K ρ σ G1 H1 (ρs s) σ' G' H' ∧ (forC r f k (ds.drop i) s).wp (fun b => OutP K ρ σ G1 H1 ρ' D (oc b)) (Xo cl (E σ) (Owns ρ σ) H1))
      ⟨G1, s0, w.af a.st, w1⟩ (fun i σ' H' _ ⟨G', s, a2, _⟩ => a2.st.sub.l (a2.gr.ex.l hs)) (fun i x σ' H' hi ⟨G', s, a2, q2⟩ => ?_) fun σ' H' ⟨G', s, a2, q2⟩ => ?_⟩⟩
    · obtain ⟨d, hd, rd⟩ := ha.getV hi
      rw [drop_cons hd] at q2
      exact for_turn (D := D) (De := { D with nx := u D }) hE hr tg hb hf a2 (rd.mono a2.gr.ex) (fun s2 σ2 G2 H2 a3 q3 => ⟨G2, s2, a3, q3⟩) rfl fin q2
    · rw [ha.len, List.drop_length] at q2
      exact fin s σ' G' H' a2 q2
  | @tup p xs ds hs hz ha =>
    refine ⟨p, rfl, .inr ⟨⟨xs, a.st.sub.t hs⟩, for_tup (K := K) (a := p) (xs := xs) (D := { D with nx := u D }) (fun i σ' H' => ∃ G' s, Af K ρ σ G1 H1 (ρs s) σ' G' H' ∧ (forC r f k (ds.drop i) s).wp (fun b => OutP K ρ σ G1 H1 ρ' D (oc b)) (Xo cl (E σ) (Owns ρ σ) H1))
      ⟨G1, s0, w.af a.st, w1⟩ (fun i σ' H' _ ⟨G', s, a2, _⟩ => a2.st.sub.t (a2.gr.ex.t hs)) (fun i x σ' H' hi ⟨G', s, a2, q2⟩ => ?_) fun σ' H' ⟨G', s, a2, q2⟩ => ?_⟩⟩
    · obtain ⟨d, hd, rd⟩ := ha.getV hi
      rw [drop_cons hd] at q2
      exact for_turn (D := D) (De := { D with nx := u D }) hE hr tg hb hf a2 (rd.mono a2.gr.ex) (fun s2 σ2 G2 H2 a3 q3 => ⟨G2, s2, a3, q3⟩) rfl fin q2
    · rw [ha.len, List.drop_length] at q2
      exact fin s σ' G' H' a2 q2
  | _ => exact w1.elim
theorem for_rng (hE : ∀ a b, E a = E b) {S1 : Type} {ρs : S1 → List Sl} {g : TG} {vs : List Nat} {ok : PyData → Bool} {ρb : S1 → PyData → List Sl} {r : PyData → β} (hr : ∀ d, oc (r d) = .rt d) {tb u : TS} {f : PyData → S1 → Tr (Ct S1)} {k : S1 → Tr β} {s0 : S1} (hS : Sta K G1 H1 ρ σ) (w : Wk ρ (ρs s0))
    (tg : ∀ s, Tg K g vs (ρs s) (ρb s) ok) (hb : ∀ d s, ok d = false → f d s = .bad) (hf : ∀ d s, ok d = true → StG K cl E id ρs tb (ρb s d) (f d s)) (hk : ∀ s, StG K cl E oc ρ' u (ρs s) (k s)) {lo : Int} {n : Nat}
    (w1 : (forC r f k (rng lo n) s0).wp (fun b => OutP K ρ σ G1 H1 ρ' D (oc b)) (Xo cl (E σ) (Owns ρ σ) H1)) :
    ∃ W : Nat → Nat → L2.St → Hp → Prop, (∃ m, W 0 m σ H1) ∧ ∀ i m σ H, W i m σ H →
      ((Itr lo n).stop i H ∧ ({ D with nx := u D } : Ends).nx σ H) ∨ ((Itr lo n).go i H ∧ ∃ N : L2.St → Hp → Prop, (∀ σ' H', N σ' H' → ∃ m', m' < m ∧ W (i + 1) m' σ' H') ∧ ∀ x H', (Itr lo n).yld i H x H' → g x σ H' fun σ2 H2 => tb { ({ D with nx := u D } : Ends) with nx := N, ct := N, bk := ({ D with nx := u D } : Ends).nx } σ2 H2) := by
  have fin : ∀ s2 σ2 G2 H2, Af K ρ σ G1 H1 (ρs s2) σ2 G2 H2 → (k s2).wp (fun b => OutP K ρ σ G1 H1 ρ' D (oc b)) (Xo cl (E σ) (Owns ρ σ) H1) → u D σ2 H2 := fun s2 σ2 G2 H2 a2 q2 => hk s2 G2 H2 σ2 a2.st D (upS hE a2 q2)
  refine for_range (lo := lo) (n := n) (D := { D with nx := u D }) (fun i σ' H' => ∃ G' s, Af K ρ σ G1 H1 (ρs s) σ' G' H' ∧ (forC r f k ((rng lo n).drop i) s).wp (fun b => OutP K ρ σ G1 H1 ρ' D (oc b)) (Xo cl (E σ) (Owns ρ σ) H1))
    ⟨G1, s0, w.af hS, w1⟩ (fun i σ' H' hi ⟨G', s, a2, q2⟩ => ?_) fun σ' H' ⟨G', s, a2, q2⟩ => ?_
  · rw [drop_cons (rng_get hi)] at q2
    exact for_turn (D := D) (De := { D with nx := u D }) hE hr tg hb hf a2 (.int _) (fun s2 σ2 G2 H2 a3 q3 => ⟨G2, s2, a3, q3⟩) rfl fin q2
  · have e : (rng lo n).drop n = [] := List.drop_eq_nil_of_le (by rw [rng_len]; exact Nat.le_refl _)
    rw [e] at q2
    exact fin s σ' G' H' a2 q2
theorem st_forR1 (hE : ∀ a b, E a = E b) {S1 : Type} {ρs : S1 → List Sl} {g : TG} {vs : List Nat} {ok : PyData → Bool} {ρb : S1 → PyData → List Sl} {r : PyData → β} (hr : ∀ d, oc (r d) = .rt d) {ta : TE} {tb u : TS} {fa : Tr PyData} {f : PyData → S1 → Tr (Ct S1)} {k : S1 → Tr β} {s0 : S1} (ha : Ev K cl E ta ρ fa) (w : Wk ρ (ρs s0))
    (tg : ∀ s, Tg K g vs (ρs s) (ρb s) ok) (hb : ∀ d s, ok d = false → f d s = .bad) (hf : ∀ d s, ok d = true → StG K cl E id ρs tb (ρb s d) (f d s)) (hk : ∀ s, StG K cl E oc ρ' u (ρs s) (k s)) :
    StG K cl E oc ρ' (tSeq (tFor (iRng1 (tCons ta tNil)) g tb) u) ρ (fa.bind fun a => (rangeT (.int 0) a).bind fun xs => forC r f k xs s0) := fun G H σ hS D q => ha.then (g := fun a => (rangeT (.int 0) a).bind fun xs => forC r f k xs s0) hS q fun a x G1 H1 af rx w1 => by
  cases rx with
  | int b =>
    have h2 : ((if -(2 ^ 61) ≤ (0 : Int) ∧ (0 : Int) ≤ 2 ^ 61 ∧ -(2 ^ 61) ≤ b ∧ b ≤ 2 ^ 61 ∧ b - 0 ≤ 1000000 then Tr.ret (rng 0 (b - 0).toNat) else .bad).bind fun xs => forC r f k xs s0).wp (fun b => OutP K ρ σ G1 H1 ρ' D (oc b)) (Xo cl (E σ) (Owns ρ σ) H1) := w1
    split at h2
    · refine ⟨b, rfl, by omega, by omega, ?_⟩
      have e : (b - 0).toNat = b.toNat := by omega
      rw [e] at h2
      exact for_rng hE hr af.st w tg hb hf hk h2
    · exact h2.elim
  | _ => exact w1.elim
theorem st_forR2 (hE : ∀ a b, E a = E b) {S1 : Type} {ρs : S1 → List Sl} {g : TG} {vs : List Nat} {ok : PyData → Bool} {ρb : S1 → PyData → List Sl} {r : PyData → β} (hr : ∀ d, oc (r d) = .rt d) {ta tb2 : TE} {tb u : TS} {fa fb : Tr PyData} {f : PyData → S1 → Tr (Ct S1)} {k : S1 → Tr β} {s0 : S1} (ha : Ev K cl E ta ρ fa) (hb2 : Ev K cl E tb2 ρ fb) (w : Wk ρ (ρs s0))
    (tg : ∀ s, Tg K g vs (ρs s) (ρb s) ok) (hb : ∀ d s, ok d = false → f d s = .bad) (hf : ∀ d s, ok d = true → StG K cl E id ρs tb (ρb s d) (f d s)) (hk : ∀ s, StG K cl E oc ρ' u (ρs s) (k s)) :
    StG K cl E oc ρ' (tSeq (tFor (iRng2 (tCons ta (tCons tb2 tNil))) g tb) u) ρ (fa.bind fun a => fb.bind fun b => (rangeT a b).bind fun xs => forC r f k xs s0) := fun G H σ hS D q => ha.then (g := fun a => fb.bind fun b => (rangeT a b).bind fun xs => forC r f k xs s0) hS q fun a x G1 H1 af rx w1 => hb2.then (g := fun b => (rangeT a b).bind fun xs => forC r f k xs s0) af.st w1 fun b y G2 H2 af2 ry w2 => by
  cases rx with
  | int a =>
    cases ry with
    | int b =>
      have h3 : ((if -(2 ^ 61) ≤ a ∧ a ≤ 2 ^ 61 ∧ -(2 ^ 61) ≤ b ∧ b ≤ 2 ^ 61 ∧ b - a ≤ 1000000 then Tr.ret (rng a (b - a).toNat) else .bad).bind fun xs => forC r f k xs s0).wp (fun b => OutP K ρ σ G2 H2 ρ' D (oc b)) (Xo cl (E σ) (Owns ρ σ) H2) := w2
      split at h3
      · exact ⟨a, b, rfl, ⟨by omega, by omega, by omega, by omega⟩, for_rng hE hr af2.st w tg hb hf hk h3⟩
      · exact h3.elim
    | _ => exact w2.elim
  | _ =>
    cases ry <;> exact w2.elim
end
end
end Cg
/-! Errors of the program's own classes that are made with no argument: what is kept of the object on its way is its class and its empty tuple of arguments (at d). -/
namespace Cgx
open PySem PySem.Spec PyProof.Rows L2
def ArgsAt (t : Addr) (o : Obj) : Prop := ∀ vs : Array Value, o.data = .fields vs → vs[0]? = some (.ref t)
theorem steady_args {t : Addr} : PXN.Steady1 (ArgsAt t) := fun o v h => by
  obtain ⟨c, d, dt, sl⟩ := o
  intro vs e
  cases dt with
  | fields vs0 =>
    have e2 : vs0.setIfInBounds 1 v = vs := Data.fields.inj e
    rw [← e2, Array.getElem?_setIfInBounds_ne (by decide)]
    exact h vs0 rfl
  | _ => exact Data.noConfusion e
/-- class, no dict, no context, the arguments' tuple at d -/
def Zt (cls : Value) (d : Option Addr) : Obj → Prop := fun o => o.cls = cls ∧ o.dict = none ∧ PXN.CtxN o ∧ ∃ t, d = some t ∧ ArgsAt t o
theorem Zt.steady {cls : Value} {d : Option Addr} : PXN.Steady1 (Zt cls d) := fun o v ⟨h1, h2, h3, t, e, h4⟩ => ⟨PXN.steady_cls o v h1, PXN.steady_dict o v h2, PXN.steady_ctx o v h3, t, e, steady_args o v h4⟩

/-- an error in the air over X: sI is the state without it -/
structure Air (X : Cx) (W : WX) (u : Value) (s' : Shared) (a : Addr) (B : Heap) (sI : Shared) (pins : List (Addr × Obj)) (σ : L2.St) (H : Hp) (cls : Value) (d : Option Addr) : Prop where
  eq : u = .ref a
  inv : Inv X pins σ H sI
  gr : ∀ b o, sI.heap.get? b = some o → b ∉ frs X.stack → B.get? b = some o
  up : sI.heap.UpToSlots s'.heap
  sky : Sky B X.stack a (Zt cls d) X.env.locals s'.heap
  na : H a = none
  os : s'.os = sI.os
  ag : AllBare s'.gens
  w : W cls d σ H
def Flies (X : Cx) (W : WX) (u : Value) (s' : Shared) : Prop := ∃ a B sI pins σ H cls d, Air X W u s' a B sI pins σ H cls d
def Lets (X : Cx) (W : WX) : Prop := ∀ u s', Flies X W u s' → X.xe u s'
/-- behind a call that let an error out -/
def CT (P : Program) (w : World) (outer : List Env) (H : Hp) (s : Shared) (E : XK) (u : Value) (s' : Shared) : Prop :=
  ∃ (a : Addr) (B : Heap) (H' : Hp) (cls : Value) (d : Option Addr), u = .ref a ∧ HandSPX.FlyingZ B outer a (Zt cls d) s'.heap ∧ HOk P w H' B ∧ UB (frs outer) H H' s.heap B s'.heap ∧ H' a = none ∧ s'.os = s.os ∧ AllBare s'.gens ∧ E cls d H'
section
variable {X : Cx} {pins : List (Addr × Obj)} {σ : L2.St} {H : Hp} {sI s s' : Shared} {B : Heap} {W : WX} {E : XK}
theorem flies_call (I : Inv X pins σ H s) (hW : ∀ cls d H', E cls d H' → W cls d σ H') {u : Value} (c : CT X.prog X.w X.stack H s E u s') : Flies X W u s' := by
  obtain ⟨a, B, H', cls, d, eu, fl, hok, ub, na, os, ag, hE⟩ := c
  -- what the ground and the running frames know of the heap
  obtain ⟨G, g1, g2⟩ := restrict s'.heap fun b => (B.get? b).isSome || decide (b ∈ frs X.stack)
  have gB : ∀ b o, B.get? b = some o → G.get? b = some o := fun b o e => (g1 b (by simp [e])).trans (fl.1 b o e)
  have gF : ∀ b, b ∈ frs X.stack → G.get? b = s'.heap.get? b := fun b hb => g1 b (by simp [hb])
  have gS : ∀ b o, G.get? b = some o → s'.heap.get? b = some o ∧ ((B.get? b).isSome = true ∨ b ∈ frs X.stack) := fun b o e => by
    by_cases q : ((B.get? b).isSome || decide (b ∈ frs X.stack)) = true
    · exact ⟨(g1 b q).symm.trans e, by simpa [Bool.or_eq_true] using q⟩
    · have z := g2 b (by simpa using q)
      rw [z] at e
      cases e
  have un : Un (frs X.stack) [] H H' s.heap G := ⟨fun b o e n hb _ => gB b o (ub.keep b o e n hb), fun b o e n hb _ => by
    obtain ⟨sl, q⟩ := ub.slot b o e hb
    exact ⟨sl, (gF b hb).trans q⟩, fun b o e n _ => ub.free b o e n, fun b o e _ => by
      by_cases hb : b ∈ frs X.stack
      · obtain ⟨sl, q⟩ := ub.slot b o e hb
        exact ⟨_, (gF b hb).trans q⟩
      · obtain ⟨o', q⟩ := ub.there b o e hb
        exact ⟨o', gB b o' q⟩, ub.tups, ub.frzs, ub.tbls⟩
  refine ⟨a, B, { s with heap := G, gens := s'.gens, drawn := s'.drawn, toks := s'.toks }, pins, σ, H', cls, d, eu, I.call (ch := []) un (hok.kept gB) ag (fun _ z => nomatch z), fun b o e hb => ?_, Heap.UpToSlots.of_keeps fun b o e => (gS b o e).1, .inr (.inl fl), na, os, ag, hW _ _ _ hE⟩
  obtain ⟨e', h⟩ := gS b o e
  rcases h with h | h
  · obtain ⟨o', q⟩ := Option.isSome_iff_exists.mp h
    have z := fl.1 b o' q
    rw [e'] at z
    rw [q, ← Option.some.inj z]
  · exact absurd h hb
theorem flies_new {a : Addr} {oe : Obj} {vs : Array Value} {cls : Value} {d : Option Addr} (I : Inv X pins σ H sI) (k : ∀ b o, sI.heap.get? b = some o → s'.heap.get? b = some o) (hne : sI.heap.get? a = none) (he : s'.heap.get? a = some oe)
    (hz : Zt cls d oe) (hd : oe.data = .fields vs) (h1 : vs[1]? = some .none) (na : H a = none) (os : s'.os = sI.os) (ag : AllBare s'.gens) (w : W cls d σ H) : Flies X W (.ref a) s' := by
  have hid : ∀ b o, (PySem.W.hideAll sI.heap (frs X.stack)).get? b = some o → sI.heap.get? b = some o := fun b o e => PySem.W.of_hideAll _ e
  have na' : (PySem.W.hideAll sI.heap (frs X.stack)).get? a = none := by
    cases q : (PySem.W.hideAll sI.heap (frs X.stack)).get? a with
    | none => rfl
    | some o =>
      have z := hid a o q
      rw [hne] at z
      cases z
  have ff := Heap.FunFrames.of_keeps (h' := s'.heap) (fun b o e _ => ⟨o, k b o e, rfl⟩) (funFrames_none I.stack fun b hb => PySem.W.hideAll_none (h := sI.heap) (frs X.stack) hb)
  exact ⟨a, _, sI, pins, σ, H, cls, d, rfl, I, fun b o e hb => PySem.W.hideAll_get _ e hb, Heap.UpToSlots.of_keeps k, .inl ⟨fun b o e => k b o (hid b o e), na', ff, oe, vs, he, hz, hd, h1⟩, na, os, ag, w⟩
theorem flies_out (hs : X.stack = X.env :: X.outer) (hf : X.env.frame = some X.env.locals) (hex : X.ex = []) {E₁ : Value → Shared → Prop} (hW : ∀ cls d σ H, W cls d σ H → E cls d H) {u : Value} (x : Flies X W u s') :
    wpAny (model X.prog X.w) X.A (leaving X.env u) (fun _ s'' => CT X.prog X.w X.outer X.H_0 X.s_0 E u s'') E₁ s' := by
  obtain ⟨a, B, sI, pins, σ, H, cls, d, rfl, I, nb, up, sky, na, os, ag, w⟩ := x
  have ok := I.ok
  have hfr : X.A.frames = some (X.env :: X.outer) := by rw [ok.frames, hs]
  have hx : ∀ b, b ∉ X.ex := fun b hb => by rw [hex] at hb; cases hb
  have old : ∀ b o, X.s_0.heap.get? b = some o → b ∉ X.fs → b ∉ frs X.stack := fun b o e hb hm => by
    rcases List.mem_cons.mp (I.stkSub b hm) with z | z
    · have h1 := Nat.lt_of_lt_of_le (Heap.lt_size e) ok.above
      rw [z] at h1
      exact Nat.lt_irrefl _ h1
    · exact hb z
  have done : ∀ h', HandSPX.FlyingZ B X.outer a (Zt cls d) h' → s'.heap.UpToSlots h' → CT X.prog X.w X.outer X.H_0 X.s_0 E (.ref a) { s' with heap := h' } := fun h' fl up' => by
    have slot : ∀ b o, X.s_0.heap.get? b = some o → b ∈ frs X.outer → ∃ sl, h'.get? b = some { o with slots := sl } := fun b o e hb => by
      obtain ⟨_, o0, e0, hnf⟩ := ok.funs.mem hb
      obtain rfl : o = o0 := Option.some.inj (e.symm.trans e0)
      obtain ⟨sl, e1⟩ := I.base.slot b o e (ok.frf b hb) hb (hx b)
      obtain ⟨sl2, e2⟩ := up b _ e1 hnf
      obtain ⟨sl3, e3⟩ := up' b _ e2 hnf
      exact ⟨sl3, e3⟩
    refine ⟨a, B, H, cls, d, rfl, fl, I.inGround nb, ⟨fun b o e n hb => nb b o (I.base.keep b o e n hb (hx b)) (old b o e hb), slot, fun b o e n => I.base.free b o e n (hx b), fun b o e hb => ?_, I.base.tups, I.base.frzs, I.base.tbls⟩, na, os.trans I.os, ag, hW _ _ _ _ w⟩
    obtain ⟨o', e1⟩ := I.base.there b o e (hx b)
    exact ⟨o', nb b o' e1 (old b o e hb)⟩
  rw [hs] at sky
  rcases sky with ⟨hB, hn, hl, oe, vs, he, hz, hd, h1⟩ | fl | hd
  · exact PXN.leaving_firstZ Zt.steady hfr hl hf he hB hn hd h1 hz done
  · exact PXN.leaves_onZ Zt.steady hfr hf fl done
  · exact HandSPX.leaves_heldZ hf hd done
theorem lets_of (hs : X.stack = X.env :: X.outer) (hf : X.env.frame = some X.env.locals) (hex : X.ex = []) {E₁ : Value → Shared → Prop}
    (hx : X.xe = fun e s' => wpAny (model X.prog X.w) X.A (leaving X.env e) (fun _ s'' => CT X.prog X.w X.outer X.H_0 X.s_0 E e s'') E₁ s') : Lets X (fun cls d _ H => E cls d H) := fun u s' x => by
  rw [hx]
  exact flies_out (E := E) hs hf hex (fun _ _ _ _ h => h) x
theorem lets_call (tk : Lets X W) (hW : ∀ cls d σ H, E cls d H → W cls d σ H) : Passes (CT X.prog X.w) X E :=
  fun _ σ _ _ e s' I c => tk e s' (flies_call I (fun cls d H' h => hW cls d σ H' h) c)
theorem lets_at (tk : Lets X W) (σ : L2.St) : PassesAt (CT X.prog X.w) X σ (WE W σ) := fun _ _ _ e s' I c => tk e s' (flies_call I (fun _ _ _ h => h) c)
theorem pass_none : Passes (CT X.prog X.w) X E0 := fun _ _ _ _ _ _ _ h => by
  obtain ⟨_, _, _, _, _, _, _, _, _, _, _, _, z⟩ := h
  exact z.elim
theorem lets_none : Lets X (fun _ _ _ _ => False) := fun _ _ h => by
  obtain ⟨_, _, _, _, _, _, _, _, A⟩ := h
  exact A.w.elim
/-- noted by the frame, then on the ground -/
theorem lands {M : Model} {A : Around} {E₁ : Value → Shared → Prop} {env : Env} {outer : List Env} {L a : Addr} {cls : Value} {d : Option Addr} {Q : Unit → Shared → Prop} (hfr : A.frames = some (env :: outer)) (hf : env.frame = some L)
    (x : Sky B (env :: outer) a (Zt cls d) L s.heap) (hQ : ∀ h', HandSPX.FlyingZ B (env :: outer) a (Zt cls d) h' → s.heap.UpToSlots h' → Q () { s with heap := h' }) :
    wpAny M A (noteFrame (.ref a) env) (fun _ s₂ => wpAny M A (setFlight (.ref a) none) Q E₁ s₂) E₁ s := L2N.Sky.land Zt.steady hfr hf x hQ
end

/-! ### raise C() -/
/-- what is asked of an own class whose errors are made and raised -/
structure ErrC (K : PySem.W.Frag) (C : Addr) : Prop where
  ex : PySem.W.excIn K C [.type "ValueError", .type "Exception", .type "BaseException", .type "object"] "ValueError.__new__" = true
  kp : PySem.W.keepIn K (.ref C) = true
  sb : PySem.W.subIn K (.ref C) (.type "BaseException") = some true
  ty : PySem.W.typeIn K (.ref C) = some (.type "type")
section
variable {X : Cx} {C : Addr} {x : Str}
/-- C() gives out a new error: behind it all as before, but the tuple of its arguments stands at d -/
theorem make_err {pins : List (Addr × Obj)} {σ : L2.St} {H : Hp} {s : Shared} {p pos : Pos} {Q : Value → Shared → Prop} {E₁ : Value → Shared → Prop} (R : ErrC X.K C) (gC : X.mg x = some (.ref C)) (hg : Gl X x) (I : Inv X pins σ H s)
    (h : ∀ (e t : Addr) (oe : Obj) (vs : Array Value) (sI : Shared) (s' : Shared), Inv X pins σ (upd H t (.tup [])) sI → (∀ b o, sI.heap.get? b = some o → s'.heap.get? b = some o) → sI.heap.get? e = none → s'.heap.get? e = some oe → Zt (.ref C) (some t) oe → oe.data = .fields vs → vs[1]? = some .none → vs[2]? = some .none → 4 < vs.size →
      H t = none → (upd H t (.tup [])) e = none → s'.os = sI.os → AllBare s'.gens → s' = { sI with heap := s'.heap } → Q (.ref e) s') (hdb : (x == ("__debug__" : Str)) = false := by decide) : wpAny (model X.prog X.w) X.A (eval (.Call (.Name x p) [] [] pos) X.env) Q E₁ s := by
  refine wpAny_Call_Name_kw (ld_glob I hg gC ?_ hdb)
  refine PySem.W.callWith_K0 I.kIn R.kp ?_
  obtain ⟨bm, N, nm, qn, bs, hdct, sn, sub, ab, col, dd, k0, k1, k2, k3, k5, mN, hC, hN, hni, T⟩ := exc_obj I.kIn R.ex
  obtain ⟨hp, g, dr, tk, os⟩ := s
  refine wpAny_call_exc_subT (rest := []) PySem.F.excBase_ValueError T hC hN hni (fun h' e hm => ?_) (Nat.zero_le _)
  obtain ⟨t, he, ht0, ht⟩ := hm.there
  have hte : t ≠ e := fun z => by
    rw [z, he] at ht
    cases ht
  obtain ⟨G, g1, g2⟩ := restrict h' fun b => decide (b ≠ e)
  have gk : ∀ b, b ≠ e → G.get? b = h'.get? b := fun b hb => g1 b (decide_eq_true hb)
  have ge : G.get? e = none := g2 e (by simp)
  have nold : ∀ b o, hp.get? b = some o → b ≠ e := fun b o q z => by
    have hn := hm.new
    rw [← z] at hn
    rw [show hp.get? b = none from hn] at q
    cases q
  have keep : ∀ b o, hp.get? b = some o → G.get? b = some o := fun b o q => (gk b (nold b o q)).trans (hm.keeps b o q)
  have hHt : H t = none := I.hok.gone ht0
  have ob : ObjOk X.prog X.w (upd H t (.tup [])) G t (.tup []) := ⟨Nat.zero_le _, [], .nil, _, (gk t hte).trans ht, rfl, 0, rfl⟩
  have J : Inv X pins σ (upd H t (.tup [])) { heap := G, gens := g, drawn := dr, toks := tk, os := os } := I.un (Un.laidN keep ht0 hHt) (I.hok.laidN keep hHt ob)
  refine h e t _ _ { heap := G, gens := g, drawn := dr, toks := tk, os := os } _ J (fun b o q => ?_) ge he ⟨rfl, rfl, fun vs q => ?_, t, rfl, fun vs q => ?_⟩ rfl rfl rfl (by show 4 < 6; decide) hHt ?_ rfl I.bare rfl
  · have hb : b ≠ e := fun z => by
      rw [z] at q
      rw [show G.get? e = none from ge] at q
      cases q
    exact (gk b hb).symm.trans q
  · cases q
    rfl
  · cases q
    rfl
  · rw [upd_ne (Ne.symm hte)]
    exact I.hok.gone hm.new
def tRaise (C : Addr) (W : WX) : TS := fun _ σ H => ∀ t, H t = none → W (.ref C) (some t) σ (upd H t (.tup []))
theorem ps_raise0 {W : WX} {p pos pos2 : Pos} (hc : X.calm = true) (tk : Lets X W) (R : ErrC X.K C) (gC : X.mg x = some (.ref C)) (hg : Gl X x) (hdb : (x == ("__debug__" : Str)) = false := by decide) :
    PS X (.Raise (some (.Call (.Name x p) [] [] pos)) none pos2) (tRaise C W) := by
  refine ⟨fun pins s σ H D I h => ?_⟩
  have ra := raises_own R.sb R.ty
  show wpAny _ _ (do standAt pos2; raiseStmt X.env (some (do let v ← eval (.Call (.Name x p) [] [] pos) X.env; standAt pos2; pure v)) none) _ _ _
  refine wpAny_bind (wpAny_standAt (raise_made (I.ok.hd hc) (wpAny_bind (make_err R gC hg I (fun e t oe vs sI s' J k hne he hz hd h1 h2 h5 hHt na os ag _ => wpAny_bind (wpAny_standAt (wpAny_pure ?_))) hdb))))
  obtain ⟨r1, r2⟩ := ra (model X.prog X.w) s'.heap (J.kIn.keeps k)
  exact ⟨e, oe, vs, .ref C, rfl, he, hz.1, hd, h1, r1, r2, tk _ _ (flies_new J k hne he hz hd h1 na os ag (h t hHt))⟩
end

/-! ### try: .. except C as n: .. -/
section
variable {X : Cx} {x n : Str} {c : Value} {i : Nat} {body suite : List Stmt} {b₀ : Stmt} {np pos pos' : Pos} {tb : WX → TS} {ts : Addr → Value → Option Addr → TS} {Wout : WX}
/-- the error at a, in the suite: it is the frames' no more, and not ours -/
theorem err_apart {env : Env} {outer : List Env} {B h : Heap} {a L : Addr} {cls : Value} {d : Option Addr} (hf : env.frame = some L) (fl : HandSPX.FlyingZ B (env :: outer) a (Zt cls d) h) : a ≠ L ∧ a ∉ frs outer := by
  obtain ⟨o, vs, e, _, hd⟩ := fl.there
  have no : a ∉ frs (env :: outer) := fun hm => by
    obtain ⟨_, o', e', hn⟩ := fl.2.2.1.mem hm
    obtain rfl : o = o' := Option.some.inj (e.symm.trans e')
    exact hn _ hd
  refine ⟨fun z => no (List.mem_filterMap.mpr ⟨env, List.mem_cons_self, by rw [hf, z]⟩), fun hm => ?_⟩
  obtain ⟨v, hv, q⟩ := List.mem_filterMap.mp hm
  exact no (List.mem_filterMap.mpr ⟨v, List.mem_cons_of_mem _ hv, q⟩)
/-- what ends a body that lets nothing out -/
theorem SP.ofTry {pins : List (Addr × Obj)} {s' : Shared} {xe : Value → Shared → Prop} {pn' : List (Addr × Obj)} {D : Ends} {f : Flow} (ok : X.Ok) (h : SP (X.tr (X.pn ++ pins) xe) pn' D f s') : SP X pins D f s' := by
  cases f with
  | ret u =>
    obtain ⟨v, σ', H', J, r, q⟩ := h
    exact ⟨v, σ', H', J.ofTry ok, r, q⟩
  | next =>
    obtain ⟨σ', H', J, q⟩ := h
    exact ⟨σ', H', J.ofTry ok, q⟩
  | brk =>
    obtain ⟨σ', H', J, q⟩ := h
    exact ⟨σ', H', J.ofTry ok, q⟩
  | cont =>
    obtain ⟨σ', H', J, q⟩ := h
    exact ⟨σ', H', J.ofTry ok, q⟩
/-- every error of the body is the clause's (c) -/
def wAll (K : PySem.W.Frag) (c : Value) (i : Nat) (ts : Addr → Value → Option Addr → TS) (D : Ends) : WX := fun cls d σ H =>
  PySem.W.exmOne K cls c = some true ∧ ∀ a, H a = none → ts a cls d { nx := fun σ => D.nx (σ.set i none), rt := D.rt, bk := fun σ => D.bk (σ.set i none), ct := fun σ => D.ct (σ.set i none) } (σ.set i (some (.ref a))) H
theorem ps_tryAs (hs : X.stack = X.env :: X.outer) (hf : X.env.frame = some X.env.locals) (hN : X.N.Nodup) (hi : X.N[i]? = some n) (hln : X.env.kindOf n = some .local) (hc : Names X x c)
    (hb : ∀ (W : WX) (pn : List (Addr × Obj)) (xe : Value → Shared → Prop), Lets (X.tr pn xe) W → PassesOwn (model X.prog X.w) X.A X.env xe → PSs (X.tr pn xe) body (tb W))
    (hsu : ∀ (a : Addr) (oe : Obj) (cls : Value) (d : Option Addr) (pn : List (Addr × Obj)), Zt cls d oe → (∃ vs, oe.data = .fields vs) → PSs (X.suite a ((a, oe) :: pn)) (b₀ :: suite) (ts a cls d)) :
    PS X (.Try body [.ExceptHandler (some (.Name x np)) (some n) (b₀ :: suite) pos'] [] [] pos) (fun D σ H => tb (wAll X.K c i ts D) D σ H) := by
  refine ⟨fun pins s σ H D I h => ?_⟩
  have ok := I.ok
  have hfr : X.A.frames = some (X.env :: X.outer) := ok.frames.trans (congrArg some hs)
  let xe : Value → Shared → Prop := fun e s₁ => wpAny (model X.prog X.w) X.A (noteFrame e X.env) (fun _ s₂ => wpAny (model X.prog X.w) X.A (setFlight e none) (fun _ s₃ =>
    wpAny (model X.prog X.w) X.A (handleBy e X.env [.ExceptHandler (some (.Name x np)) (some n) (b₀ :: suite) pos']) (SP X pins D) X.xe s₃) X.xe s₂) X.xe s₁
  have caught : Lets (X.tr (X.pn ++ pins) xe) (wAll X.K c i ts D) := fun u s' xx => by
    obtain ⟨a, B, sI, pins', σ', H', cls, d, rfl, J', nb, up, sky, na, os, ag, hb1, hyes⟩ := xx
    have J : Inv X pins σ' H' sI := J'.ofTry ok
    have sky' : Sky B (X.env :: X.outer) a (Zt cls d) X.env.locals s'.heap := hs ▸ sky
    show wpAny (model X.prog X.w) X.A (noteFrame (.ref a) X.env) _ _ _
    refine lands hfr hf sky' fun h3 fl3 up3 => ?_
    obtain ⟨nL, nF⟩ := err_apart hf fl3
    obtain ⟨oe3, vs3, he3, hz3, hd3⟩ := fl3.there
    have J3 : Inv X pins σ' H' { s' with heap := h3 } := J.landed nb fl3.1 (up.trans up3) os ag
    have S3 := J3.suite he3 hd3 na nL nF
    refine wpAny_handleBy_cons (codeAny_handlers_test ?_) (fun q => nomatch q)
    have LT : PySem.W.Looks (model X.prog X.w) h3 (typeOf (.ref a)) cls := fun A' Q' E' s2 k q => wpAny_typeOf_ref (k _ _ he3) (hz3.1.symm ▸ q)
    have LM := PySem.W.exm_one (M := model X.prog X.w) J3.kIn LT hb1
    have named : wpAny (model X.prog X.w) (X.A.mark (some (.ref a))) (eval (.Name x np) X.env) (fun v s2 => v = c ∧ s2 = { s' with heap := h3 }) (fun _ _ => False) { s' with heap := h3 } := by
      obtain ⟨hg, hdbg, hm | ⟨hm, hv, hnn⟩⟩ := hc
      · exact ld_glob (X := X.suite a ((a, oe3) :: (X.pn ++ pins))) S3 hg hm ⟨rfl, rfl⟩ hdbg
      · exact ld_blt (X := X.suite a ((a, oe3) :: (X.pn ++ pins))) S3 hg hm hv ⟨rfl, rfl⟩ hnn hdbg
    refine wpAny_mono named (fun v s2 hv => ?_) fun _ _ z => z.elim
    obtain ⟨rfl, rfl⟩ := hv
    refine LM.here (codeAny_handlers_suite_as (HandSPX.lands_againZ fl3 fun h4 fl4 up4 => ?_))
    have J4 : Inv X pins σ' H' { s' with heap := h4 } := J.landed nb fl4.1 ((up.trans up3).trans up4) os ag
    obtain ⟨oe4, vs4, he4, hz4, hd4⟩ := fl4.there
    refine store_ok (X := X.suite a ((a, oe4) :: (X.pn ++ pins))) (v := .ref a) (J4.suite he4 hd4 na nL nF) hN hi (.inl hln) rfl (fun s5 S5 => ?_) (.inr hln)
    refine wpAny_mono ((hsu a oe4 cls d (X.pn ++ pins) hz4 ⟨_, hd4⟩).run [] s5 _ H' _ S5 (hyes a na)) (fun f s6 hsp => ?_) fun _ _ z => z.elim
    have gone : ∀ {σ6 : L2.St} {H6 : Hp} {Q : Shared → Prop}, Inv (X.suite a ((a, oe4) :: (X.pn ++ pins))) [] σ6 H6 s6 → (∀ s7, Inv X pins (σ6.set i none) H6 s7 → Q s7) →
        wpAny (model X.prog X.w) X.A (do bindName X.env n .none; unbindBehindTheSuite X.env n pos') (fun _ s7 => Q s7) X.xe s6 := fun S6 hq => gone_ok (S6.unsuite ok) hN hi hln hq
    cases f with
    | ret u =>
      obtain ⟨v6, σ6, H6, S6, r6, q6⟩ := hsp
      exact gone S6 fun s7 J7 => ⟨_, _, _, J7, r6, q6⟩
    | next =>
      obtain ⟨σ6, H6, S6, q6⟩ := hsp
      exact gone S6 fun s7 J7 => ⟨_, _, J7, q6⟩
    | brk =>
      obtain ⟨σ6, H6, S6, q6⟩ := hsp
      exact gone S6 fun s7 J7 => ⟨_, _, J7, q6⟩
    | cont =>
      obtain ⟨σ6, H6, S6, q6⟩ := hsp
      exact gone S6 fun s7 J7 => ⟨_, _, J7, q6⟩
  refine wpAny_Try_except (wpAny_mono ((hb _ _ xe caught PassesOwn.looking).run [] s σ H D (I.toTry _) h) (fun f s1 hsp => ?_) fun e s1 he => he)
  have q := SP.ofTry ok hsp
  cases f with
  | next => exact wpAny_execs_nil q
  | ret u => exact q
  | brk => exact q
  | cont => exact q
end
end Cgx
/-! Defs by their trees: what a def promises; the error's own def; try. -/
namespace L2
open PySem PySem.Spec PyProof.Rows
section
variable {X : Cx}
/-- xs.count(y), data without dicts -/
def rCntP (K : PySem.W.Frag) : V → List V → Hp → VK → Prop := fun x vs H Q => ∃ (a : Addr) (y : V) (d : PyData) (ds : List PyData), x = .ref a ∧ vs = [y] ∧ Dp K H (.ref a) (.list ds) ∧ Dp K H y d ∧ PyData.plainAll ds = true ∧ d.plain = true ∧ min (PyData.depthAll ds) d.depth ≤ 64 ∧
  Q (.int ((ds.countP fun z => PyData.eqv z d : Nat) : Int)) H
theorem mt_countP (hu : X.A.units + 65 < cLine) : MtR X "list.count" (rCntP X.K) := by
  intro pins s σ H x xs v us Q I rx rxs h
  obtain ⟨a, y, d, ds, rfl, rfl, hl, hy, pl, pd, hm, q⟩ := h
  cases rx
  obtain ⟨u, rfl, ru⟩ := rxs.one
  obtain ⟨bs, r1⟩ := Dp.reads I d y u hy ru
  cases hl with
  | lst hs ha =>
    obtain ⟨its, rv, ⟨⟨cls, dd, data, sls⟩, n, ho, hc, hdn, hdt⟩, hlen⟩ := I.list hs
    simp only at hc hdt
    subst hc hdt
    obtain ⟨as, h4⟩ := Dp.readsAll I ds _ its ha rv
    refine call_meets PySem.F.slot_list_count ⟨_, ho, rfl⟩ PySem.F.entry_list_count (PySem.F.args_list_count_2 _ _)
      (SeqAt.list_countAt a its.toArray n dd sls u fun z => PyData.eqv (SeqAt.readOf s.heap z) d) ⟨ho, SeqAt.items_plain (vs := its.toArray) (show ReadsAll s.heap its.toArray.toList ds as from h4) r1 pl pd (by show X.A.units + 1 + _ < cLine; omega), ?_⟩
    have e : its.toArray.toList.countP (fun z => PyData.eqv (SeqAt.readOf s.heap z) d) = ds.countP fun z => PyData.eqv z d := by
      have em : its.map (SeqAt.readOf s.heap) = ds := SeqAt.readsAll_map_plain ds its as pl h4
      rw [← em, List.countP_map]
      rfl
    rw [e]
    exact ⟨.int _, H, I.tok _, ⟨_, rfl⟩, q⟩
end
end L2
namespace Cg
open PySem PySem.Spec PyProof.Rows L2
section
variable {P : Program} {w : World} {K : PySem.W.Frag} {mg : Str → Option Value} {base : Heap} {cl : Ek → Addr}
/-! ### a def's start -/
def st0 (n : Nat) (ds : List PyData) : List Sl := ds.map Sl.dat ++ List.replicate (n - ds.length) .any
def st0B (n : Nat) (ds : List PyData) : List Sl := .box :: st0 (n - 1) ds
theorem st0_get {n : Nat} {ds : List PyData} {i : Nat} {s : Sl} (h : (st0 n ds)[i]? = some s) : (∃ d, ds[i]? = some d ∧ s = .dat d) ∨ s = .any := by
  unfold st0 at h
  by_cases hi : i < ds.length
  · rw [List.getElem?_append_left (by rw [List.length_map]; exact hi), List.getElem?_map] at h
    cases e : ds[i]? with
    | none =>
      rw [e] at h
      cases h
    | some d =>
      rw [e] at h
      cases h
      exact .inl ⟨d, rfl, rfl⟩
  · rw [List.getElem?_append_right (by rw [List.length_map]; omega), List.getElem?_replicate] at h
    split at h
    · cases h
      exact .inr rfl
    · cases h
theorem st0_own {n : Nat} {ds : List PyData} {i : Nat} {s : Sl} (h : (st0 n ds)[i]? = some s) : owning s = false := by
  rcases st0_get h with ⟨d, _, rfl⟩ | rfl <;> rfl
theorem start_get {N : List Str} {vs : List V} {i : Nat} {v : V} (h : vs[i]? = some v) : (start N vs)[i]? = some (some v) := by
  unfold L2.start
  have hi := (List.getElem?_eq_some_iff.mp h).1
  rw [List.getElem?_append_left (by rw [List.length_map]; exact hi), List.getElem?_map, h]
  rfl
theorem sta_start {N : List Str} {vs : List V} {ds : List PyData} {G H : Hp} (r : RpAll K G vs ds) (e : Ex G H) (hN : vs.length ≤ N.length) : Sta K G H (st0 N.length ds) (start N vs) := by
  have hl := r.len
  refine ⟨?_, e, fun i s o h1 h2 => ?_, fun i j si sj a h1 h2 h3 => ?_⟩
  · unfold st0 L2.start
    simp only [List.length_append, List.length_map, List.length_replicate]
    omega
  · rcases st0_get h1 with ⟨d, hd, rfl⟩ | rfl
    · obtain ⟨v, hv, rv⟩ := r.get hd
      rw [start_get hv] at h2
      exact ⟨v, (Option.some.inj h2).symm, rv⟩
    · trivial
  · rw [st0_own h1] at h3
    cases h3
theorem owns_start {n : Nat} {ds : List PyData} {σ : L2.St} {a : Addr} (h : Owns (st0 n ds) σ a) : False := by
  obtain ⟨i, s, h1, h2, _⟩ := h
  rw [st0_own h1] at h2
  cases h2
theorem sta_startB {N : List Str} {b : Addr} {vs : List V} {ds : List PyData} {G H : Hp} (hb : BoxOk K G H b) (r : RpAll K G vs ds) (e : Ex G H) (hN : vs.length + 1 ≤ N.length) : Sta K G H (st0B N.length ds) (start N (.ref b :: vs)) := by
  obtain ⟨x, N, rfl⟩ : ∃ x N', N = x :: N' := by
    cases N with
    | nil => exact absurd hN (by simp)
    | cons x N => exact ⟨x, N, rfl⟩
  have es : start (x :: N) (.ref b :: vs) = some (.ref b) :: start N vs := by
    unfold L2.start
    simp
  have er : st0B (x :: N).length ds = .box :: st0 N.length ds := by
    unfold st0B
    simp
  have S := sta_start (N := N) r e (by simpa using hN)
  rw [es, er]
  refine ⟨congrArg (· + 1) S.len, e, fun i s o h1 h2 => ?_, fun i j si sj a h1 h2 h3 h4 _ _ => ?_⟩
  · cases i with
    | zero =>
      simp at h1 h2
      subst h1
      subst h2
      exact ⟨b, rfl, hb⟩
    | succ i => exact S.ok i s o (by simpa using h1) (by simpa using h2)
  · cases i with
    | zero =>
      cases j with
      | zero => rfl
      | succ j =>
        have z := st0_own (i := j) (s := sj) (by simpa using h2)
        rw [z] at h4
        cases h4
    | succ i =>
      have z := st0_own (i := i) (s := si) (by simpa using h1)
      rw [z] at h3
      cases h3
theorem owns_startB {n : Nat} {ds : List PyData} {σ : L2.St} {a b : Addr} (hs : σ[0]? = some (some (.ref b))) (h : Owns (st0B n ds) σ a) : a = b := by
  obtain ⟨i, s, h1, h2, h3⟩ := h
  cases i with
  | zero =>
    rw [hs] at h3
    cases h3
    rfl
  | succ i =>
    have z := st0_own (i := i) (s := s) (by simpa [st0B] using h1)
    rw [z] at h2
    cases h2
theorem scope_le {N ps : List Str} {sc : Scope} (S : FnScope N ps sc) : ps.length ≤ N.length := by
  have q := congrArg List.length S.pre
  rw [List.length_take] at q
  omega

/-! ### a def by its body -/
theorem SpN.len {n : Nat} {m : List PyData → Tr PyData} {vs : List V} {H : Hp} {Q : VK} {E : XK} (h : SpN K n m vs H Q E) : vs.length = n := by
  obtain ⟨ds, G, r, hl, _⟩ := h
  rw [r.len, hl]
theorem SpP.len {n : Nat} {m : List PyData → Tr PyData} {vs : List V} {H : Hp} {Q : VK} {E : XK} (h : SpP K cl n m vs H Q E) : vs.length = n := by
  obtain ⟨ds, G, r, hl, _⟩ := h
  rw [r.len, hl]
theorem SpB.len {n : Nat} {m : List PyData → Tr PyData} {vs : List V} {H : Hp} {Q : VK} {E : XK} (h : SpB K n m vs H Q E) : vs.length = n + 1 := by
  obtain ⟨b, ws, ds, G, rfl, _, r, hl, _⟩ := h
  rw [List.length_cons, r.len, hl]
/-- answers at every end -/
theorem fn_pure {x q : Str} {st : Stmt} {f : Addr} {fd : FuncData} {N ps : List Str} {k : Nat} {m : List PyData → Tr PyData} (F : Fun K x q st f fd) (Sc : FnScope N ps (defScope st))
    (hb : ∀ (cdv : Value) (A : Around) (outer : List Env) (s : Shared) (H : Hp) (E : XK), Room k (A.deeper (envOfC q (defScope st) s.heap.objs.size f cdv)) →
      ∃ t, PSs (cxOf CX0 P w K mg base N q (defScope st) f cdv A outer s H E).nox (defBody st) t ∧ ∀ ds, ds.length = ps.length → StG (S := Unit) K cl (fun _ => none) Ct.rt (fun _ => []) t (st0 N.length ds) (m ds)) :
    FnOk P w K mg base CX0 (k + 1) f fd ps (SpN K ps.length m) := by
  refine F.ok Sc (fun vs H Q E h => h.len) fun cdv A outer s H vs Q E hr h => ?_
  obtain ⟨t, ht, hs⟩ := hb cdv A outer s H E hr
  obtain ⟨ds, G, r, hl, e, h⟩ := h
  refine ⟨t, ht, hs ds hl G H _ (sta_start r e (by rw [r.len, hl]; exact scope_le Sc)) _ (Tr.wp_mono (fun d hd v G' H' g e' _ rv => hd v G' H' (g.less fun a z => owns_start z) e' rv) (fun _ z => z.elim) h)⟩
/-- the same behind a last raise that was not taken: nothing is handed back -/
theorem fn_box {x q : Str} {st : Stmt} {f : Addr} {fd : FuncData} {N ps : List Str} {n k : Nat} {m : List PyData → Tr PyData} (F : Fun K x q st f fd) (Sc : FnScope N ps (defScope st)) (hn : ps.length = n + 1)
    (hb : ∀ (cdv : Value) (A : Around) (outer : List Env) (s : Shared) (H : Hp) (E : XK), Room k (A.deeper (envOfC q (defScope st) s.heap.objs.size f cdv)) →
      ∃ t, PSs (cxOf CX0 P w K mg base N q (defScope st) f cdv A outer s H E).nox (defBody st) t ∧ ∀ ds, ds.length = n → StG (S := Unit) K cl (fun _ => none) Ct.rt (fun _ => []) t (st0B N.length ds) (m ds)) :
    FnOk P w K mg base CX0 (k + 1) f fd ps (SpB K n m) := by
  refine F.ok Sc (fun vs H Q E h => h.len.trans hn.symm) fun cdv A outer s H vs Q E hr h => ?_
  obtain ⟨t, ht, hs⟩ := hb cdv A outer s H E hr
  obtain ⟨b, ws, ds, G, rfl, bo, r, hl, e, h⟩ := h
  have s0 : (start N (V.ref b :: ws))[0]? = some (some (V.ref b)) := start_get rfl
  refine ⟨t, ht, hs ds hl G H _ (sta_startB bo r e (by rw [r.len, hl, ← hn]; exact scope_le Sc)) _ (Tr.wp_mono (fun d hd v G' H' g e' bx rv => hd v G' H' (g.less fun a z => owns_startB s0 z) e' (bx b ⟨rfl, s0⟩) rv) (fun _ z => z.elim) h)⟩
/-- that may raise, and answers at every end -/
theorem fn_raise {x q : Str} {st : Stmt} {f : Addr} {fd : FuncData} {N ps : List Str} {k : Nat} {m : List PyData → Tr PyData} (F : Fun K x q st f fd) (Sc : FnScope N ps (defScope st))
    (hb : ∀ (cdv : Value) (A : Around) (outer : List Env) (s : Shared) (H : Hp) (E : XK), Room k (A.deeper (envOfC q (defScope st) s.heap.objs.size f cdv)) →
      ∃ t, PSs (cxOf (Cgx.CT P w) P w K mg base N q (defScope st) f cdv A outer s H E) (defBody st) t ∧ ∀ ds, ds.length = ps.length → StG (S := Unit) K cl (fun _ => some E) Ct.rt (fun _ => []) t (st0 N.length ds) (m ds)) :
    FnOk P w K mg base (Cgx.CT P w) (k + 1) f fd ps (SpP K cl ps.length m) := by
  obtain ⟨oc, od, kV, doc, pm, an, cdv, ct, osl, rfl, lk, hcd⟩ := F.ex
  refine fn_of lk hcd Sc (fun vs H Q E h => h.len) fun A outer s H vs Q E hr h => ?_
  obtain ⟨t, ht, hs⟩ := hb cdv A outer s H E hr
  obtain ⟨ds, G, r, hl, e, h⟩ := h
  refine ⟨t, ht, hs ds hl G H _ (sta_start r e (by rw [r.len, hl]; exact scope_le Sc)) _ (Tr.wp_mono (fun d hd v G' H' g e' _ rv => hd v G' H' (g.less fun a z => owns_start z) e' rv) (fun c hc H' kf => hc H' fun a o _ ha => kf a o (fun z => owns_start z) ha) h)⟩
/-- that may raise, and hands nothing back -/
theorem fn_raise0 {x q : Str} {st : Stmt} {f : Addr} {fd : FuncData} {N ps : List Str} {k : Nat} {m : List PyData → Tr Unit} (F : Fun K x q st f fd) (Sc : FnScope N ps (defScope st))
    (hb : ∀ (cdv : Value) (A : Around) (outer : List Env) (s : Shared) (H : Hp) (E : XK), Room k (A.deeper (envOfC q (defScope st) s.heap.objs.size f cdv)) →
      ∃ (t : TS) (ρ' : Unit → List Sl), PSs (cxOf (Cgx.CT P w) P w K mg base N q (defScope st) f cdv A outer s H E) (defBody st) t ∧ ∀ ds, ds.length = ps.length → StG (S := Unit) K cl (fun _ => some E) Ct.nx ρ' t (st0 N.length ds) (m ds)) :
    FnOk P w K mg base (Cgx.CT P w) (k + 1) f fd ps (SpP K cl ps.length fun ds => (m ds).bind fun _ => .ret .none) := by
  obtain ⟨oc, od, kV, doc, pm, an, cdv, ct, osl, rfl, lk, hcd⟩ := F.ex
  refine fn_of lk hcd Sc (fun vs H Q E h => h.len) fun A outer s H vs Q E hr h => ?_
  obtain ⟨t, ρ', ht, hs⟩ := hb cdv A outer s H E hr
  obtain ⟨ds, G, r, hl, e, h⟩ := h
  refine ⟨t, ht, hs ds hl G H _ (sta_start r e (by rw [r.len, hl]; exact scope_le Sc)) _ (Tr.wp_mono (fun d hd σ' G' H' a => ?_) (fun c hc H' kf => hc H' fun a o _ ha => kf a o (fun z => owns_start z) ha) (Tr.wp_bind.mp h))⟩
  exact hd .non G' H' (a.gr.less fun a z => owns_start z) a.st.sub .non
section
variable {E : L2.St → Option XK} {ρ : List Sl} {S β : Type} {oc : β → Ct S} {ρ' : S → List Sl}
/-- raise C() -/
theorem st_raise {c : Ek} {E : XK} {u : TS} : StG K cl (fun _ => some E) oc ρ' (tSeq (Cgx.tRaise (cl c) fun cls d _ H => E cls d H) u) ρ (.exc c) := fun G H σ hS D q t ht => by
  have q' : Xo cl (some E) (Owns ρ σ) H c := q
  refine q' (upd H t (.tup [])) (fun a o _ ha => ?_) t upd_same
  rw [upd_ne (ne_of_none ha ht)]
  exact ha
/-- what is caught -/
def catchT {α : Type} (h : Ek → α) : Tr α → Tr α
  | .ret a => .ret a
  | .exc c => .ret (h c)
  | .bad => .bad
  | .draw n k => .draw n fun i => catchT h (k i)
theorem wp_catch {α : Type} {h : Ek → α} {Q : α → Prop} {X : Ek → Prop} : ∀ {t : Tr α}, (catchT h t).wp Q X → t.wp Q fun c => Q (h c)
  | .ret _, q => q
  | .exc _, q => q
  | .bad, q => q
  | .draw n k, q => fun i hi => wp_catch (q i hi)
/-- try: (it answers) except c as e: return f(e), f telling each error's word; nothing is ours -/
theorem st_try {tb : WX → TS} {i : Nat} {cC : Value} {ts : Addr → Value → Option Addr → TS} {t : Tr PyData} {nm : Ek → Str} (hx : ∀ c, PySem.W.exmOne K (.ref (cl c)) cC = some true) (hρ : ρ.all (fun s => !owning s) = true) (hi : i < ρ.length)
    (hb : ∀ W : WX, StG (S := S) K cl (fun σ => some (WE W σ)) Ct.rt ρ' (tb W) ρ t)
    (hts : ∀ (c : Ek) (a t0 : Addr) (D : Ends) (σ : L2.St) (H : Hp), σ[i]? = some (some (.ref a)) → H t0 = some (.tup []) → H a = none → (∀ H', Ex H H' → D.rt (.str (nm c)) H') → ts a (.ref (cl c)) (some t0) D σ H) :
    StG (S := S) K cl E Ct.rt ρ' (fun D σ H => tb (Cgx.wAll K cC i ts D) D σ H) ρ (catchT (fun c => .str (nm c)) t) := fun G H σ hS D q => by
  have no : ∀ a, ¬ Owns ρ σ a := fun a ⟨j, s, h1, h2, _⟩ => by
    have z := List.all_eq_true.mp hρ s (List.mem_of_getElem? h1)
    rw [h2] at z
    cases z
  refine hb _ G H σ hS D (Tr.wp_mono (fun _ z => z) (fun c hc H' fr t0 h0 => ⟨hx c, fun a ha => ?_⟩) (wp_catch q))
  refine hts c a t0 _ _ H' (List.getElem?_set_self (by rw [← hS.len]; exact hi)) h0 ha fun H2 e2 => ?_
  refine hc (.str (nm c)) G H2 ⟨Ex.refl G, fun _ _ _ h => h, fun a o _ h => e2 a o (fr a o (no a) h), fun a h => ?_⟩ (fun a o h => e2 a o (fr a o (no a) (hS.sub a o h))) (fun b z => absurd ⟨0, .box, z.1, rfl, z.2⟩ (no b)) (.str _)
  obtain ⟨o, ho⟩ := Option.ne_none_iff_exists'.mp h
  rw [e2 a o (fr a o (no a) ho)]
  exact fun z => nomatch z
end
end
end Cg
namespace Cg
open PySem PySem.Spec PyProof.Rows L2
section
variable {K : PySem.W.Frag} {cl : Ek → Addr} {E : L2.St → Option XK} {ρ : List Sl}
variable {S β : Type} {oc : β → Ct S} {ρ' : S → List Sl} {S1 : Type} {ρs : S1 → List Sl} {r : PyData → β} {tl ta tb2 : TE} {tb u : TS} {fl fa fb : Tr PyData} {k : S1 → Tr β} {s0 : S1} {i j l : Nat}
theorem StG.eq {ts : TS} {t t' : Tr β} (h : StG K cl E oc ρ' ts ρ t) (e : t = t') : StG K cl E oc ρ' ts ρ t' := by
  rw [← e]
  exact h
/-- an answer at a def's end -/
theorem st_ret {S : Type} {ρ' : S → List Sl} {te : TE} {f : Tr PyData} {u : TS} (h : Ev K cl E te ρ f) : StG (S := S) K cl E Ct.rt ρ' (tSeq (tRet te) u) ρ f := (st_rt (r := id) (fun _ => rfl) h).eq (Tr.bind_ret f)
theorem st_retN {S : Type} {ρ' : S → List Sl} {u : TS} : StG (S := S) K cl E Ct.rt ρ' (tSeq tRetN u) ρ (.ret .none) := st_rtN (r := id) (fun _ => rfl)

/-! ### loops with one name -/
theorem st_forS1 (hE : ∀ a b, E a = E b) (hr : ∀ d, oc (r d) = .rt d) {f : PyData → S1 → Tr (Ct S1)} (hl : Ev K cl E tl ρ fl) (w : Wk ρ (ρs s0)) (hi : ∀ s, nown (ρs s) i = true) (hf : ∀ d s, StG K cl E id ρs tb ((ρs s).set i (.dat d)) (f d s)) (hk : ∀ s, StG K cl E oc ρ' u (ρs s) (k s)) :
    StG K cl E oc ρ' (tSeq (tFor (iSeq K tl) (gName i) tb) u) ρ (fl.bind fun l => (items l).bind fun xs => forC r f k xs s0) :=
  st_forS hE hr hl w (fun s => tg_name (hi s)) (fun _ _ q => nomatch q) (fun d s _ => hf d s) hk
theorem st_forS1n (hE : ∀ a b, E a = E b) (hr : ∀ d, oc (r d) = .rt d) {f : PyData → S1 → Tr S1} (hl : Ev K cl E tl ρ fl) (w : Wk ρ (ρs s0)) (hi : ∀ s, nown (ρs s) i = true) (hf : ∀ d s, StG K cl E Ct.nx ρs tb ((ρs s).set i (.dat d)) (f d s)) (hk : ∀ s, StG K cl E oc ρ' u (ρs s) (k s)) :
    StG K cl E oc ρ' (tSeq (tFor (iSeq K tl) (gName i) tb) u) ρ (fl.bind fun l => (items l).bind fun xs => (forN f xs s0).bind k) :=
  (st_forS1 (r := r) hE hr hl w hi (fun d s => (hf d s).nxs) hk).eq (by congr; funext l; congr; funext xs; exact forC_N f k xs s0)
theorem st_forR11 (hE : ∀ a b, E a = E b) (hr : ∀ d, oc (r d) = .rt d) {f : PyData → S1 → Tr (Ct S1)} (ha : Ev K cl E ta ρ fa) (w : Wk ρ (ρs s0)) (hi : ∀ s, nown (ρs s) i = true) (hf : ∀ d s, StG K cl E id ρs tb ((ρs s).set i (.dat d)) (f d s)) (hk : ∀ s, StG K cl E oc ρ' u (ρs s) (k s)) :
    StG K cl E oc ρ' (tSeq (tFor (iRng1 (tCons ta tNil)) (gName i) tb) u) ρ (fa.bind fun a => (rangeT (.int 0) a).bind fun xs => forC r f k xs s0) :=
  st_forR1 hE hr ha w (fun s => tg_name (hi s)) (fun _ _ q => nomatch q) (fun d s _ => hf d s) hk
theorem st_forR11n (hE : ∀ a b, E a = E b) (hr : ∀ d, oc (r d) = .rt d) {f : PyData → S1 → Tr S1} (ha : Ev K cl E ta ρ fa) (w : Wk ρ (ρs s0)) (hi : ∀ s, nown (ρs s) i = true) (hf : ∀ d s, StG K cl E Ct.nx ρs tb ((ρs s).set i (.dat d)) (f d s)) (hk : ∀ s, StG K cl E oc ρ' u (ρs s) (k s)) :
    StG K cl E oc ρ' (tSeq (tFor (iRng1 (tCons ta tNil)) (gName i) tb) u) ρ (fa.bind fun a => (rangeT (.int 0) a).bind fun xs => (forN f xs s0).bind k) :=
  (st_forR11 (r := r) hE hr ha w hi (fun d s => (hf d s).nxs) hk).eq (by congr; funext l; congr; funext xs; exact forC_N f k xs s0)
theorem st_forR21 (hE : ∀ a b, E a = E b) (hr : ∀ d, oc (r d) = .rt d) {f : PyData → S1 → Tr (Ct S1)} (ha : Ev K cl E ta ρ fa) (hb : Ev K cl E tb2 ρ fb) (w : Wk ρ (ρs s0)) (hi : ∀ s, nown (ρs s) i = true) (hf : ∀ d s, StG K cl E id ρs tb ((ρs s).set i (.dat d)) (f d s)) (hk : ∀ s, StG K cl E oc ρ' u (ρs s) (k s)) :
    StG K cl E oc ρ' (tSeq (tFor (iRng2 (tCons ta (tCons tb2 tNil))) (gName i) tb) u) ρ (fa.bind fun a => fb.bind fun b => (rangeT a b).bind fun xs => forC r f k xs s0) :=
  st_forR2 hE hr ha hb w (fun s => tg_name (hi s)) (fun _ _ q => nomatch q) (fun d s _ => hf d s) hk

/-! ### room -/
theorem room65 {k : Nat} {A : Around} (hr : Room k A) : A.units + 65 < cLine := by
  have := hr.un
  omega
theorem room2 {k : Nat} {A : Around} (hr : Room k A) : A.units + 2 < cLine := by
  have := hr.un
  omega
theorem room64 {k : Nat} {A : Around} (hr : Room k A) : A.units + 64 < cLine := by
  have := hr.un
  omega
/-! ### a def that is never come to -/
theorem fn_never {P : Program} {w : World} {mg : Str → Option Value} {base : Heap} {CX : CXT} {k : Nat} {f : Addr} {fd : FuncData} {ps : List Str} {sp : Sp} (h : ∀ vs H Q E, ¬ sp vs H Q E) : FnOk P w K mg base CX k f fd ps sp :=
  ⟨fun vs H Q E q => absurd q (h vs H Q E), fun _ _ _ H _ _ vs Q E _ _ _ _ q => absurd q (h vs H Q E)⟩
theorem spN_bad {n : Nat} {m : List PyData → Tr PyData} (hm : ∀ ds, ds.length = n → m ds = .bad) (vs : List V) (H : Hp) (Q : VK) (E : XK) : ¬ SpN K n m vs H Q E := fun ⟨ds, G, _, hl, _, h⟩ => by
  rw [hm ds hl] at h
  exact h
theorem spB_bad {n : Nat} {m : List PyData → Tr PyData} (hm : ∀ ds, ds.length = n → m ds = .bad) (vs : List V) (H : Hp) (Q : VK) (E : XK) : ¬ SpB K n m vs H Q E := fun ⟨b, ws, ds, G, _, _, _, hl, _, h⟩ => by
  rw [hm ds hl] at h
  exact h

/-! ### the box's own defs -/
/-- a number below m is drawn -/
def takeT : PyData → Tr PyData
  | .int m => if 1 ≤ m ∧ m < 1073741824 then .draw m.toNat fun i => .ret (.int (i : Int)) else .bad
  | _ => .bad
end
@[simp] theorem on1_one (f : PyData → Tr PyData) (a : PyData) : on1 f [a] = f a := rfl
def dInt : PyData → Tr PyData
  | .int i => .ret (.int i)
  | .bool b => .ret (.int (if b then 1 else 0))
  | _ => .bad
theorem rk_int {K : PySem.W.Frag} : RK1 K (fun xs H Q => (∃ i, xs = [.int i] ∧ Q (.int i) H) ∨ ∃ k, xs = [.bl k] ∧ Q (.int (if k then 1 else 0)) H) dInt := fun cl E ρ σ G H x a S rx Q h => by
  cases rx with
  | int i => exact .inl ⟨i, rfl, Po.now h S (.int _)⟩
  | bl b => exact .inr ⟨b, rfl, Po.now h S (.int _)⟩
  | _ => exact h.elim
/-- a new box, of a list of numbers -/
def SpMk (K : PySem.W.Frag) : Sp := fun vs H Q _ => ∃ (v : V) (ns : List Int) (G : Hp), vs = [v] ∧ Rp K G v (.list (ns.map PyData.int)) ∧ Ex G H ∧
  ∀ b G' H', Gr (fun _ => False) G H G' H' → Ex G' H' → H b = none → BoxOk K G' H' b → Q (.ref b) H'
def boxT : PyData → Tr Unit
  | .list xs => if (asInts xs).isSome then .ret () else .bad
  | _ => .bad
section
variable {K : PySem.W.Frag} {cl : Ek → Addr} {E : L2.St → Option XK} {ρ : List Sl} {S β : Type} {oc : β → Ct S} {ρ' : S → List Sl} {u : TS}
theorem mapT_ints {f : PyData → Tr PyData} {g : Int → Int} (h : ∀ i, f (.int i) = .ret (.int (g i))) : ∀ ns : List Int, mapT f (ns.map PyData.int) = .ret ((ns.map g).map PyData.int)
  | [] => rfl
  | n :: ns => by
    show ((f (.int n)).bind fun y => (mapT f (ns.map PyData.int)).bind fun ys => .ret (y :: ys)) = _
    rw [h n, mapT_ints h ns]
    rfl
/-- box = _law_box(script) -/
theorem st_box (hE : ∀ a b, E a = E b) {i : Nat} {ta : TE} {f : Tr PyData} {g : Tr β} (h : Ev K cl E ta ρ f) (k : StG K cl E oc ρ' u (ρ.set i .box) g) (n : nown ρ i = true := by rfl) (hi : i ≠ 0 := by decide) :
    StG K cl E oc ρ' (tSeq (tAsg (tCall (SpMk K) [] E0 (tCons ta tNil)) (gName i)) u) ρ (f.bind fun d => (boxT d).bind fun _ => g) :=
  fun G H σ hS D q => h.then (g := fun d => (boxT d).bind fun _ => g) hS q fun d v G1 H1 a rv w => by
    cases rv with
    | @lst p xs ds hs hl ha =>
      have w' : ((if (asInts ds).isSome then Tr.ret () else .bad).bind fun _ => g).wp (fun b => OutP K ρ σ G1 H1 ρ' D (oc b)) (Xo cl (E σ) (Owns ρ σ) H1) := w
      split at w'
      · rename_i hi2
        obtain ⟨ns, hns⟩ := Option.isSome_iff_exists.mp hi2
        have e := asInts_map hns
        subst e
        refine ⟨.ref p, ns, G1, rfl, .lst hs hl ha, a.st.sub, fun b G2 H2 gr e2 hb bo => ?_⟩
        have S2 := a.st.grow gr e2
        have nb : ∀ j : Nat, ∀ s, ρ[j]? = some s → owning s = true → σ[j]? ≠ some (some (.ref b)) := fun j s h1 h2 h3 => (a.st.own ⟨j, s, h1, h2, h3⟩).2 hb
        have ne : ∀ (j : Nat) (s : Sl), (ρ.set i .box)[j]? = some s → owning s = true → j = i ∨ (i ≠ j ∧ ρ[j]? = some s) := fun j s h1 _ => by
          by_cases z : i = j
          · exact .inl z.symm
          · rw [List.getElem?_set_ne z] at h1
            exact .inr ⟨z, h1⟩
        have S3 : Sta K G2 H2 (ρ.set i .box) (σ.set i (some (.ref b))) := by
          refine ⟨by rw [List.length_set, List.length_set]; exact S2.len, e2, fun j s o h1 h2 => ?_, fun j l sj sl x h1 h2 h3 h4 h5 h6 => ?_⟩
          · by_cases z : i = j
            · subst z
              have hl2 : i < σ.length := by
                have := (List.getElem?_eq_some_iff.mp h2).1
                rwa [List.length_set] at this
              rw [List.getElem?_set_self (by rw [S2.len]; exact hl2)] at h1
              rw [List.getElem?_set_self hl2] at h2
              cases h1
              cases h2
              exact ⟨b, rfl, bo⟩
            · rw [List.getElem?_set_ne z] at h1 h2
              exact S2.ok j s o h1 h2
          · rcases ne j sj h1 h3 with e1 | ⟨e1, q1⟩
            · rcases ne l sl h2 h4 with e2 | ⟨e2, q2⟩
              · rw [e1, e2]
              · subst e1
                rw [List.getElem?_set_ne e2] at h6
                have hl2 : j < σ.length := by
                  have := (List.getElem?_eq_some_iff.mp h5).1
                  rwa [List.length_set] at this
                rw [List.getElem?_set_self hl2] at h5
                cases h5
                exact absurd h6 (nb l sl q2 h4)
            · rcases ne l sl h2 h4 with e2 | ⟨e2, q2⟩
              · subst e2
                rw [List.getElem?_set_ne e1] at h5
                have hl2 : l < σ.length := by
                  have := (List.getElem?_eq_some_iff.mp h6).1
                  rwa [List.length_set] at this
                rw [List.getElem?_set_self hl2] at h6
                cases h6
                exact absurd h5 (nb j sj q1 h3)
              · rw [List.getElem?_set_ne e1] at h5
                rw [List.getElem?_set_ne e2] at h6
                exact S2.dis j l sj sl x q1 q2 h3 h4 h5 h6
        have a2 : Af K ρ σ G1 H1 (ρ.set i .box) (σ.set i (some (.ref b))) G2 H2 := by
          refine ⟨gr.less fun _ z => z.elim, S3, fun x ⟨j, s, h1, h2, h3⟩ => ?_, fun y z => ⟨by rw [List.getElem?_set_ne hi]; exact z.1, by rw [List.getElem?_set_ne hi]; exact z.2⟩⟩
          rcases ne j s h1 h2 with e1 | ⟨e1, q1⟩
          · subst e1
            have hl2 : j < σ.length := by
              have := (List.getElem?_eq_some_iff.mp h3).1
              rwa [List.length_set] at this
            rw [List.getElem?_set_self hl2] at h3
            cases h3
            exact .inr hb
          · rw [List.getElem?_set_ne e1] at h3
            exact .inl ⟨j, s, q1, h2, h3⟩
        exact k G2 H2 _ S3 D (upS hE a2 w')
      · exact w'.elim
    | _ => exact w.elim
end
theorem ev_negc {K : PySem.W.Frag} {cl : Ek → Addr} {E : L2.St → Option XK} {ρ : List Sl} {i : Int} : Ev K cl E (tUn (rU fun i => .int (-i)) (tC (.int i))) ρ (.ret (.int (-i))) := fun G H σ S Q q => ⟨i, rfl, Po.now q S (.int _)⟩
/-! ### a dict of the module: texts to numbers -/
structure KdAt (w : World) (K : PySem.W.Frag) (p : Addr) (tab : List (Str × Int)) : Prop where
  ex : ∃ es n, K.lookup p = some ⟨.type "dict", none, .dict es n, #[]⟩ ∧ PySem.W.KeysLit w.params es.toList
  at' : ∀ q ∈ tab, ∃ t, PySem.W.nsIn K p q.1 = some (some (.int q.2 t))
def kdT (tab : List (Str × Int)) : PyData → Tr PyData
  | .str s => match tab.find? (fun (q : Str × Int) => q.1 == s) with
    | some q => .ret (.int q.2)
    | none => .bad
  | _ => .bad
theorem ev_kd {w : World} {K : PySem.W.Frag} {cl : Ek → Addr} {E : L2.St → Option XK} {ρ : List Sl} {p : Addr} {tab : List (Str × Int)} {tb : TE} {fb : Tr PyData} (D : KdAt w K p tab) (hb : Ev K cl E tb ρ fb) : Ev K cl E (tOp (rIxD K w) (tC (.ref p)) tb) ρ (fb.bind fun y => kdT tab y) :=
  fun G H σ S Q h => hb.seq S h fun y v G1 H1 g1 S1 ry h1 => by
    cases ry with
    | str s =>
      have h2 : (match tab.find? (fun (q : Str × Int) => q.1 == s) with | some q => Tr.ret (PyData.int q.2) | none => .bad).wp (Po K ρ σ (Rp K) G1 H1 Q) (Xo cl (E σ) (Owns ρ σ) H1) := h1
      cases e : tab.find? (fun (q : Str × Int) => q.1 == s) with
      | none =>
        rw [e] at h2
        exact h2.elim
      | some q =>
        rw [e] at h2
        have hq := List.mem_of_find?_eq_some e
        have hs : q.1 = s := by simpa using List.find?_some e
        obtain ⟨es, n, hl, hk⟩ := D.ex
        obtain ⟨t, ht⟩ := D.at' q hq
        rw [hs] at ht
        exact ⟨p, s, .int q.2, rfl, rfl, ⟨es, n, _, hl, hk, ht, ⟨t, rfl⟩⟩, Po.now h2 S1 (.int _)⟩
    | _ => exact h1.elim
/-- a def as it stands behind the top -/
structure DefAt (K : PySem.W.Frag) (mg : Str → Option Value) (x : Str) (st : Stmt) (ps : List Str) where
  f : Addr
  fd : FuncData
  F : Fun K x x st f fd
  g : mg x = some (.ref f)
  b : Binds K fd ps []
end Cg
/-! The def that is handed a caught error, called in the except suite. -/
namespace Cg
open PySem PySem.Spec PyProof.Rows L2 L2H Cgx
/-- handed the error p that is being handled, of which ok holds, it hands back R -/
def FnErr (P : Program) (w : World) (K : PySem.W.Frag) (mg : Str → Option Value) (base : Heap) (k : Nat) (f : Addr) (fd : FuncData) (ps : List Str) (ok : Addr × Obj → Hp → Prop) (R : V) : Prop :=
  ∀ (A : Around) (outer : List Env) (s : Shared) (H : Hp) (args : Args) (p : Addr × Obj) (Q : VK), RoomH k A → Hot1 A p → PinOk outer H s p → Env0 P w K mg base A outer s H → BindsTo s fd args (ps.zip [.ref p.1]) → ok p H → (∀ H', Ex H H' → Q R H') →
    codeAny (model P w) A (.call (.ref f) args) (CR CX0 outer P w H s Q E0) s
section
variable {P : Program} {w : World} {K : PySem.W.Frag} {mg : Str → Option Value} {base : Heap}
theorem fn_err {x q : Str} {st : Stmt} {f : Addr} {fd : FuncData} {N : List Str} {e : Str} {k : Nat} {ok : Addr × Obj → Hp → Prop} {R : V} (F : Fun K x q st f fd) (S : FnScope N [e] (defScope st))
    (hbody : ∀ (cdv : Value) (A : Around) (outer : List Env) (s : Shared) (H : Hp) (p : Addr × Obj) (Q : VK), RoomH k (A.deeper (envOfC q (defScope st) s.heap.objs.size f cdv)) → Hot1 A p → ok p H → (∀ H', Ex H H' → Q R H') →
      ∃ t, PSs (cxH CX0 P w K mg base N q (defScope st) f cdv A outer s H E0 p).nox (defBody st) t ∧ t { nx := fun _ H' => Q .non H', rt := Q } (L2.start N [.ref p.1]) H) : FnErr P w K mg base (k + 1) f fd [e] ok R := by
  obtain ⟨oc, od, kV, doc, pm, an, cdv, ct, osl, rfl, lk, hcd⟩ := F.ex
  intro A outer s H args p Q hr hot hpin e0 hb hok hq
  have KX : K.In s.heap := e0.mod.kin.keeps fun b o z => (e0.bs b o z).1
  have hkind : ∀ y ∈ [e].zip [Value.ref p.1], (defScope st).names.lookup y.1 = some .local ∨ ((defScope st).names.lookup y.1 = some .cell ∧ ((cellsFrom (s.heap.objs.size + 1) (defScope st).names []).lookup y.1).isSome = true) := fun y hy => by
    obtain rfl : y = (e, Value.ref p.1) := by simpa using hy
    rcases S.par e (by simp) with z | z
    · exact .inl z
    · exact .inr ⟨z, PySem.W.cellsFrom_some _ _ _ (.inl z)⟩
  refine codeAny_call_function hr.depth (KX _ _ lk) rfl S.co S.gen rfl (PySem.W.codeRec_of KX hcd) (hb _ _ _ _ (wpAny_newFunctionEnv_cells S.kind hkind fun env he s1 z => ?_))
  subst he
  refine ⟨(e0.mod.nolimit.keeps fun b o z => (e0.bs b o z).1).keeps z.toInCall.keep, codeAny_func ?_⟩
  obtain ⟨t, ht, h⟩ := hbody cdv A outer s H p Q (hr.deeper _) hot hok hq
  have I := inv_startH (CX := CX0) (P := P) (w := w) (E := E0) (qual := q) (f := f) (cd := cdv) (vs := [.ref p.1]) S hpin e0 rfl (.cons rfl .nil) z
  refine wpAny_mono (ht.nox.run [] s1 _ H _ I h) (fun fl s' hs => ?_) fun er s' hs => hs
  have out : ∀ {σ' : L2.St} {H' : Hp} {v : V} {u : Value}, L2.Inv (cxH CX0 P w K mg base N q (defScope st) f cdv A outer s H E0 p) [] σ' H' s' → RelV v u → Q v H' → CE outer P w H s Q u s' := fun J rv hv => ⟨_, _, J.os, J.bare, J.base, J.hok, rv, hv⟩
  cases fl with
  | ret u =>
    obtain ⟨v, σ', H', J, rv, hv⟩ := hs
    exact out J rv hv
  | next =>
    obtain ⟨σ', H', J, hv⟩ := hs
    exact out (v := V.non) (u := Value.none) J rfl hv
  | brk =>
    obtain ⟨_, _, _, z⟩ := hs
    exact z.elim
  | cont =>
    obtain ⟨_, _, _, z⟩ := hs
    exact z.elim
end
section
variable {X : Cx} {a : Addr} {oe : Obj} {pn : List (Addr × Obj)}
/-- f(e) in the suite -/
theorem pe_err {x y : Str} {p p2 pos : Pos} {i k : Nat} {f : Addr} {fd : FuncData} {ps : List Str} {ok : Addr × Obj → Hp → Prop} {R : V} (hz : PXN.CtxN oe) (hd : ∃ vs, oe.data = .fields vs)
    (F : FnErr X.prog X.w X.K X.mg X.base k f fd ps ok R) (hr : RoomH k X.A) (hg : Gl X x) (hm : X.mg x = some (.ref f)) (hk : PySem.W.keepIn X.K (.ref f) = true) (hb : Binds X.K fd ps []) (hl : ps.length = 1) (hN : X.N[i]? = some y) (hv : Vis X.env.scope y)
    (hdb : (x == ("__debug__" : Str)) = false := by decide) (hdb2 : (y == ("__debug__" : Str)) = false := by decide) (hcd2 : (y == ("__classdict__" : Str)) = false := by decide) :
    PE (X.suite a ((a, oe) :: pn)) (.Call (.Name x p) [.Name y p2] [] pos) (fun σ H Q => σ[i]? = some (some (.ref a)) ∧ ok (a, oe) H ∧ ∀ H', Ex H H' → Q R H') := by
  refine ⟨fun pins s σ H Q I h => ?_⟩
  obtain ⟨h1, h2, h3⟩ := h
  refine wpAny_Call_Name_kw (ld_glob (X := X.suite a ((a, oe) :: pn)) I hg hm ?_ hdb)
  have pa : PA (X.suite a ((a, oe) :: pn)) [.Name y p2] (tCons (tVar i) tNil) := pa_cons (pe_var hN hv hdb2 hcd2) pa_nil
  refine PySem.W.callWith_K (h₀ := X.base) I.ok.mod.kin hk (thn (pa.run pos pins s σ H (fun vs H1 => vs = [V.ref a] ∧ H1 = H) I ⟨_, h1, rfl, rfl⟩) fun us s1 ⟨vs, H1, I1, r, ev, eH⟩ => ⟨I1.kIn, ?_⟩) (by rfl) (by rfl)
  subst ev
  subst eH
  obtain ⟨u, rfl, ru⟩ : ∃ u, us = [u] ∧ RelV (V.ref a) u := by
    cases r with
    | cons r t =>
      cases t
      exact ⟨_, rfl, r⟩
  cases ru
  have P1 := I1.pin (a, oe) (List.mem_append_left _ List.mem_cons_self)
  have hpin : PinOk X.stack H1 s1 (a, oe) := ⟨P1.1, P1.2.1, fun hm => (List.mem_cons.mp (I1.stkSub a hm)).elim P1.2.2.1 P1.2.2.2.1, P1.2.2.2.2⟩
  obtain ⟨vs, hvs⟩ := hd
  have hot : Hot1 (X.suite a ((a, oe) :: pn)).A (a, oe) := ⟨rfl, vs, hvs, hz vs hvs⟩
  have hb1 := hb s1 [.ref a] I1.kIn (by rw [List.append_nil]; exact hl.symm)
  rw [List.append_nil] at hb1
  refine wpAny_call (codeAny_mono (F (X.suite a ((a, oe) :: pn)).A X.stack s1 H1 ⟨[.ref a], []⟩ (a, oe) Q ⟨hr.dp, hr.un⟩ hot hpin I1.env0 hb1 h2 h3) fun rr s' hq => ?_)
  cases rr with
  | error er => exact False.elim hq
  | ok fl =>
    cases fl with
    | ret u => exact I1.after hq
    | next => exact False.elim hq
    | brk => exact False.elim hq
    | cont => exact False.elim hq
end
/-- the word for an error; which class lies under which -/
def nmE : Ek → Str
  | .kind => "kind"
  | .value => "value"
  | .patch => "patch"
  | .unfit => "unfit"
  | .base => "several"
def subE (c d : Ek) : Bool := decide (d = .base) || decide (c = d)
/-! ### what may be asked of the error -/
section
variable {X : Cx} {a D t : Addr} {oe : Obj}
theorem isE_at {pins : List (Addr × Obj)} {σ : L2.St} {H : Hp} {s : Shared} (I : L2.Inv X pins σ H s) (hp : (a, oe) ∈ X.pn) (hz : Zt (.ref D) (some t) oe) (hf : ∃ vs, oe.data = .fields vs) : PySem.W.InstAt s.heap a oe D none := by
  have hg := (I.pin (a, oe) (List.mem_append_left _ hp)).1
  obtain ⟨vs, hv⟩ := hf
  obtain ⟨oc, od, oda, osl⟩ := oe
  obtain ⟨h1, h2, _⟩ := hz
  dsimp only at h1 h2 hv
  subst h1 h2 hv
  exact ⟨hg, rfl, rfl, trivial⟩
theorem call_isP (C : ExcC X.K D) (hp : (a, oe) ∈ X.pn) (hz : Zt (.ref D) (some t) oe) (hf : ∃ vs, oe.data = .fields vs) : CallR X (.builtin "isinstance") (rIsE X.K D a) := by
  intro pins s σ H xs us Q I r h
  obtain ⟨c, cv, b, rfl, hcv, e, q⟩ := h
  obtain ⟨u1, u2, rfl, r1, r2⟩ := vals2 r
  cases r1
  obtain rfl := hcv _ r2
  exact PySem.W.kia_one (PySem.W.handS_kitx_exc C.hg C.hk C.hs C.hd C.ha C.hn C.ht C.hm) I.kIn (isE_at I hp hz hf) e (fun z => nomatch z) fun tk => ⟨.bl b, H, I.kept (t' := tk) fun _ _ z => z, rfl, q⟩
/-- str(e), no argument -/
theorem call_strP (hu : X.A.units + 2 < cLine) (hs : PySem.W.findIn X.K (.ref D) "__str__" = some (some (.builtin "BaseException.__str__"))) (hB : PySem.W.subIn X.K (.ref D) (.type "BaseException") = some true) (hp : (a, oe) ∈ X.pn) (hz : Zt (.ref D) (some t) oe) (hf : ∃ vs, oe.data = .fields vs) :
    CallR X (.type "str") (fun xs H Q => xs = [.ref a] ∧ H t = some (.tup []) ∧ Q (.str Str.empty) H) := by
  intro pins s σ H xs us Q I r h
  obtain ⟨rfl, ht, q⟩ := h
  obtain ⟨u, rfl, ru⟩ := vals1 r
  cases ru
  obtain ⟨vs, hv⟩ := hf
  have hg := (I.pin (a, oe) (List.mem_append_left _ hp)).1
  obtain ⟨_, its, rv, o, h1, h2, n, h3⟩ := (show ObjOk X.prog X.w H s.heap t (.tup []) from I.hok t _ ht)
  cases rv
  obtain ⟨z1, _, _, t', e, z4⟩ := hz
  obtain rfl : t = t' := Option.some.inj e
  exact PySem.P.str_of_C_none hu (C := D) (t0 := t) ⟨I.kIn, oe, vs, hg, z1, hv, z4 vs hv⟩ ⟨o, n, h1, h2, h3⟩ hs hB ⟨.str Str.empty, H, I.tok _, ⟨_, rfl⟩, q⟩
end
/-! ### errors as values: C() is made and looked at -/
/-- an error of the class C, its arguments' empty tuple at t, stands at a -/
def ErrO (C : Value) (t a : Addr) : HO := .ext fun h => ∃ (oe : Obj) (vs : Array Value), h.get? a = some oe ∧ Zt C (some t) oe ∧ oe.data = .fields vs
def tMkE (C : Addr) : TE := fun _ H Q => ∀ t e, H t = none → (upd H t (.tup [])) e = none → Q (.ref e) (upd (upd H t (.tup [])) e (ErrO (.ref C) t e))
section
variable {X : Cx} {C : Addr}
theorem pe_mkE {x : Str} {p pos : Pos} (R : ErrC X.K C) (gC : X.mg x = some (.ref C)) (hg : Gl X x) (hdb : (x == ("__debug__" : Str)) = false := by decide) : PE X (.Call (.Name x p) [] [] pos) (tMkE C) := by
  refine ⟨fun pins s σ H Q I h => make_err R gC hg I (fun e t oe vs sI s' J k hne he hz hd h1 h2 h5 hHt na os ag es => ?_) hdb⟩
  have ob : ObjOk X.prog X.w (upd (upd H t (.tup [])) e (ErrO (.ref C) t e)) s'.heap e (ErrO (.ref C) t e) := ⟨⟨oe, vs, he, hz, hd⟩, ⟨oe, he⟩, fun _ _ ⟨o, v, q, r⟩ kk => ⟨o, v, kk o q, r⟩⟩
  have J2 := J.laidN (t' := sI.toks) k hne na ob
  have e2 : ({ sI with heap := s'.heap, toks := sI.toks } : Shared) = s' := by
    rw [es]
  rw [e2] at J2
  exact ⟨.ref e, _, J2, rfl, h t e hHt na⟩
theorem inst_of {pins : List (Addr × Obj)} {σ : L2.St} {H : Hp} {s : Shared} {a t : Addr} (I : L2.Inv X pins σ H s) (h : H a = some (ErrO (.ref C) t a)) : ∃ (oe : Obj) (vs : Array Value), PySem.W.InstAt s.heap a oe C none ∧ s.heap.get? a = some oe ∧ Zt (.ref C) (some t) oe ∧ oe.data = .fields vs := by
  obtain ⟨⟨oe, vs, he, hz, hd⟩, _, _⟩ := (show ObjOk X.prog X.w H s.heap a (ErrO (.ref C) t a) from I.hok a _ h)
  refine ⟨oe, vs, ?_, he, hz, hd⟩
  obtain ⟨oc, od, oda, osl⟩ := oe
  obtain ⟨h1, h2, _⟩ := hz
  dsimp only at h1 h2 hd
  subst h1 h2 hd
  exact ⟨he, rfl, rfl, trivial⟩
def rIsO (K : PySem.W.Frag) : List V → Hp → VK → Prop := fun xs H Q => ∃ (a t C : Addr) (c : V) (cv : Value) (b : Bool), xs = [.ref a, c] ∧ H a = some (ErrO (.ref C) t a) ∧ ExcC K C ∧ (∀ u, RelV c u → u = cv) ∧ PySem.W.kitOne K (.ref C) cv = some b ∧ Q (.bl b) H
theorem call_isO : CallR X (.builtin "isinstance") (rIsO X.K) := by
  intro pins s σ H xs us Q I r h
  obtain ⟨a, t, D, c, cv, b, rfl, ha, C, hcv, e, q⟩ := h
  obtain ⟨u1, u2, rfl, r1, r2⟩ := vals2 r
  cases r1
  obtain rfl := hcv _ r2
  obtain ⟨oe, vs, J, _⟩ := inst_of I ha
  exact PySem.W.kia_one (PySem.W.handS_kitx_exc C.hg C.hk C.hs C.hd C.ha C.hn C.ht C.hm) I.kIn J e (fun z => nomatch z) fun tk => ⟨.bl b, H, I.kept (t' := tk) fun _ _ z => z, rfl, q⟩
def rStrO (K : PySem.W.Frag) : List V → Hp → VK → Prop := fun xs H Q => ∃ (a t C : Addr), xs = [.ref a] ∧ H a = some (ErrO (.ref C) t a) ∧ H t = some (.tup []) ∧ PySem.W.findIn K (.ref C) "__str__" = some (some (.builtin "BaseException.__str__")) ∧ PySem.W.subIn K (.ref C) (.type "BaseException") = some true ∧ Q (.str Str.empty) H
theorem call_strO (hu : X.A.units + 2 < cLine) : CallR X (.type "str") (rStrO X.K) := by
  intro pins s σ H xs us Q I r h
  obtain ⟨a, t, D, rfl, ha, ht, hs, hB, q⟩ := h
  obtain ⟨u, rfl, ru⟩ := vals1 r
  cases ru
  obtain ⟨oe, vs, _, hg, hz, hv⟩ := inst_of I ha
  obtain ⟨_, its, rv, o, h1, h2, n, h3⟩ := (show ObjOk X.prog X.w H s.heap t (.tup []) from I.hok t _ ht)
  cases rv
  obtain ⟨z1, _, _, t', e, z4⟩ := hz
  obtain rfl : t = t' := Option.some.inj e
  exact PySem.P.str_of_C_none hu (C := D) (t0 := t) ⟨I.kIn, oe, vs, hg, z1, hv, z4 vs hv⟩ ⟨o, n, h1, h2, h3⟩ hs hB ⟨.str Str.empty, H, I.tok _, ⟨_, rfl⟩, q⟩
end
/-- e (the suite's error) handed to its def -/
theorem pe_errs {X : Cx} {a : Addr} {oe : Obj} {pn : List (Addr × Obj)} {cl : Ek → Addr} {nm : Ek → Str} {cls : Value} {d : Option Addr} {x y : Str} {p p2 pos : Pos} {i k : Nat} {f : Addr} {fd : FuncData} {e : Str} (hz : Zt cls d oe) (hd : ∃ vs, oe.data = .fields vs)
    (F : ∀ (c : Ek) (t : Addr), FnErr X.prog X.w X.K X.mg X.base k f fd [e] (fun p H => Zt (.ref (cl c)) (some t) p.2 ∧ (∃ vs, p.2.data = .fields vs) ∧ H t = some (.tup [])) (.str (nm c))) (hr : RoomH k X.A) (hg : Gl X x) (hm : X.mg x = some (.ref f)) (hk : PySem.W.keepIn X.K (.ref f) = true) (hb : Binds X.K fd [e] [])
    (hN : X.N[i]? = some y) (hv : Vis X.env.scope y) (hdb : (x == ("__debug__" : Str)) = false := by decide) (hdb2 : (y == ("__debug__" : Str)) = false := by decide) (hcd2 : (y == ("__classdict__" : Str)) = false := by decide) :
    PE (X.suite a ((a, oe) :: pn)) (.Call (.Name x p) [.Name y p2] [] pos) (fun σ H Q => ∃ (c : Ek) (t : Addr), cls = .ref (cl c) ∧ d = some t ∧ σ[i]? = some (some (.ref a)) ∧ H t = some (.tup []) ∧ ∀ H', Ex H H' → Q (.str (nm c)) H') := by
  refine ⟨fun pins s σ H Q I ⟨c, t, e1, e2, h1, h2, h3⟩ => ?_⟩
  subst e1
  subst e2
  exact (pe_err hz.2.2.1 hd (F c t) hr hg hm hk hb rfl hN hv hdb hdb2 hcd2).run pins s σ H Q I ⟨h1, ⟨hz, hd, h2⟩, h3⟩

theorem kit_ref {K : PySem.W.Frag} {C D : Addr} {b : Bool} (hc : PySem.W.isClsIn K D = true) (ht : PySem.W.typeIn K (.ref D) = some (.type "type")) (hs : PySem.W.subIn K (.ref C) (.ref D) = some b) (hr : PySem.W.subIn K (.ref D) (.ref D) = some true) : PySem.W.kitOne K (.ref C) (.ref D) = some b := by
  unfold PySem.W.kitOne
  by_cases e : C = D
  · subst e
    rw [hr] at hs
    rw [if_pos (by simp)]
    exact hs
  · rw [if_neg (by simpa using e)]
    show (if ((PySem.W.clsIn K D).isSome && PySem.W.typeIn K (.ref D) == some (.type "type")) = true then PySem.W.subIn K (.ref C) (.ref D) else none) = some b
    have h2 : (PySem.W.clsIn K D).isSome = true := hc
    rw [h2, ht]
    exact hs
theorem kit_typ {K : PySem.W.Frag} {C : Addr} {T : String} {b : Bool} (hm : PySem.W.kitMeta T = true) (hs : PySem.W.subIn K (.ref C) (.type T) = some b) : PySem.W.kitOne K (.ref C) (.type T) = some b := by
  unfold PySem.W.kitOne
  rw [if_neg (by simp)]
  show (if PySem.W.kitMeta T = true then PySem.W.subIn K (.ref C) (.type T) else none) = some b
  rw [if_pos hm]
  exact hs
/-! ### a loop over one error of each class -/
section
variable {K : PySem.W.Frag} {cl : Ek → Addr} {E : L2.St → Option XK} {ρ : List Sl} {S β : Type} {oc : β → Ct S} {ρ' : S → List Sl}
theorem Gr.exts {O : Addr → Prop} {G H H' : Hp} (e : Ex H H') : Gr O G H G H' := ⟨Ex.refl G, fun _ _ _ h => h, fun a o _ h => e a o h, fun a h => by
  obtain ⟨o, ho⟩ := Option.ne_none_iff_exists'.mp h
  rw [e a o ho]
  exact fun z => nomatch z⟩
theorem mkE_ex {C : Addr} {σ : L2.St} {H : Hp} {Q : VK} (h : ∀ (t e : Addr) (H' : Hp), Ex H H' → H' e = some (ErrO (.ref C) t e) → H' t = some (.tup []) → Q (.ref e) H') : tMkE C σ H Q := fun t e ht he => by
  have e1 : Ex H (upd H t (.tup [])) := Ex.new ht
  have e2 : Ex (upd H t (.tup [])) (upd (upd H t (.tup [])) e (ErrO (.ref C) t e)) := Ex.new he
  exact h t e _ (e1.trans e2) upd_same (e2 _ _ upd_same)
theorem Sta.setAny {G H : Hp} {σ : L2.St} (hS : Sta K G H ρ σ) {i : Nat} {o : Option V} (hi : ρ[i]? = some .any) : Sta K G H ρ (σ.set i o) ∧ Kp ρ σ ρ (σ.set i o) := by
  have oth : ∀ (j : Nat) (s : Sl), ρ[j]? = some s → owning s = true → (σ.set i o)[j]? = σ[j]? := fun j s h1 h2 => by
    rw [List.getElem?_set_ne]
    intro z
    subst z
    rw [hi] at h1
    cases h1
    cases h2
  refine ⟨⟨by rw [List.length_set]; exact hS.len, hS.sub, fun j s v h1 h2 => ?_, fun j l sj sl a h1 h2 h3 h4 h5 h6 => ?_⟩, ⟨fun j s h1 h2 => ⟨h1, oth j s h1 h2⟩, fun a ⟨j, s, h1, h2, h3⟩ => ⟨j, s, h1, h2, by rw [← oth j s h1 h2]; exact h3⟩⟩⟩
  · by_cases z : i = j
    · subst z
      rw [hi] at h1
      cases h1
      trivial
    · rw [List.getElem?_set_ne z] at h2
      exact hS.ok j s v h1 h2
  · rw [oth j sj h1 h3] at h5
    rw [oth l sl h2 h4] at h6
    exact hS.dis j l sj sl a h1 h2 h3 h4 h5 h6
/-- the loop's body, told by its readings -/
def tErrs (K : PySem.W.Frag) (B : Addr) (i : Nat) : TS :=
  tSeq (tIfS (tOr (tNot (tB (tCB (rIsO K) (tCons (tVar i) (tCons (tC (.ref B)) tNil))))) (tOr (tNot (tB (tCB (rIsO K) (tCons (tVar i) (tCons (tC (.ty "ValueError")) tNil))))) (tTest (tOp (rNeP K) (tCB (rStrO K) (tCons (tVar i) tNil)) (tC (.str ""))))))
    (tSeq (tRet (tC (.bl false))) tNext) tNext) tNext
theorem st_errs (hE : ∀ a b, E a = E b) (isE : ∀ c : Ek, ExcC K (cl c)) (strE : ∀ c : Ek, PySem.W.findIn K (.ref (cl c)) "__str__" = some (some (.builtin "BaseException.__str__"))) (sb : ∀ c : Ek, PySem.W.subIn K (.ref (cl c)) (.type "BaseException") = some true)
    (kOne : ∀ c d : Ek, PySem.W.kitOne K (.ref (cl c)) (.ref (cl d)) = some (subE c d)) (kVE : ∀ c : Ek, PySem.W.kitOne K (.ref (cl c)) (.type "ValueError") = some true) {i : Nat} {u : TS} {g : Tr β} (hi : ρ[i]? = some .any) (h0 : i ≠ 0) (k : StG K cl E oc ρ' u ρ g) :
    StG K cl E oc ρ' (tSeq (tFor (iTup K (tTup (tCons (tMkE (cl .base)) (tCons (tMkE (cl .kind)) (tCons (tMkE (cl .value)) (tCons (tMkE (cl .patch)) (tCons (tMkE (cl .unfit)) tNil))))))) (gName i) (tErrs K (cl .base) i)) u) ρ g := fun G H σ hS D q => by
  simp only [tSeq, tFor, iTup, tTup, tCons, tNil]
  refine mkE_ex (fun t1 e1 H1 x1 a1 b1 => ?_)
  refine mkE_ex (fun t2 e2 H2 x2 a2 b2 => ?_)
  refine mkE_ex (fun t3 e3 H3 x3 a3 b3 => ?_)
  refine mkE_ex (fun t4 e4 H4 x4 a4 b4 => ?_)
  refine mkE_ex (fun t5 e5 H5 x5 a5 b5 => ?_)
  refine ⟨by show 5 ≤ sizeLine; decide, fun p hp => ?_⟩
  have x6 : Ex H5 (upd H5 p (.tup [.ref e1, .ref e2, .ref e3, .ref e4, .ref e5])) := Ex.new hp
  have hP : (upd H5 p (.tup [.ref e1, .ref e2, .ref e3, .ref e4, .ref e5])) p = some (.tup [.ref e1, .ref e2, .ref e3, .ref e4, .ref e5]) := upd_same
  generalize upd H5 p (.tup [.ref e1, .ref e2, .ref e3, .ref e4, .ref e5]) = H6 at x6 hP
  have y5 := x5.trans x6
  have y4 := x4.trans y5
  have y3 := x3.trans y4
  have y2 := x2.trans y3
  have y1 := x1.trans y2
  have S6 : Sta K G H6 ρ σ := hS.grow (Gr.exts y1) (fun a o h => y1 a o (hS.sub a o h))
  have each : ∀ (j : Nat) (x : V), [V.ref e1, .ref e2, .ref e3, .ref e4, .ref e5][j]? = some x → ∃ c t e, x = .ref e ∧ H6 e = some (ErrO (.ref (cl c)) t e) ∧ H6 t = some (.tup []) := fun j x hj => by
    match j with
    | 0 => cases hj; exact ⟨.base, t1, e1, rfl, y2 _ _ a1, y2 _ _ b1⟩
    | 1 => cases hj; exact ⟨.kind, t2, e2, rfl, y3 _ _ a2, y3 _ _ b2⟩
    | 2 => cases hj; exact ⟨.value, t3, e3, rfl, y4 _ _ a3, y4 _ _ b3⟩
    | 3 => cases hj; exact ⟨.patch, t4, e4, rfl, y5 _ _ a4, y5 _ _ b4⟩
    | 4 => cases hj; exact ⟨.unfit, t5, e5, rfl, x6 _ _ a5, x6 _ _ b5⟩
    | n + 5 => simp at hj
  have hl : i < σ.length := by
    rw [← hS.len]
    exact (List.getElem?_eq_some_iff.mp hi).1
  refine ⟨p, rfl, ⟨_, SqT.of hP⟩, for_tup (K := K) (a := p) (xs := [.ref e1, .ref e2, .ref e3, .ref e4, .ref e5]) (D := { D with nx := u D }) (fun _ σ' H' => H' = H6 ∧ ∃ o, σ' = σ.set i o)
    ⟨rfl, σ[i], (List.set_getElem_self hl).symm⟩ (fun _ σ' H' _ ⟨eH, _⟩ => by rw [eH]; exact SqT.of hP) (fun j x σ' H' hj ⟨eH, o, es⟩ => ?_) (fun σ' H' ⟨eH, o, es⟩ => ?_)⟩
  · subst eH
    subst es
    obtain ⟨c, t, e, rfl, he, ht⟩ := each j x hj
    show tErrs K (cl .base) i _ ((σ.set i o).set i (some (.ref e))) H'
    rw [List.set_set]
    have hs : (σ.set i (some (V.ref e)))[i]? = some (some (.ref e)) := List.getElem?_set_self hl
    have sub1 : subE c .base = true := by cases c <;> rfl
    refine ⟨.ref e, hs, e, t, cl c, _, _, _, rfl, he, isE c, fun _ z => z, kOne c .base, subE c .base, rfl, ?_⟩
    rw [sub1]
    refine iteF ⟨.ref e, hs, e, t, cl c, .ty "ValueError", .type "ValueError", true, rfl, he, isE c, fun _ z => z, kVE c, true, rfl, iteF ?_⟩
    refine ⟨.ref e, hs, e, t, cl c, rfl, he, ht, strE c, sb c, .str _, .str "", .str _, .str _, rfl, rfl, by decide, _, rfl, ?_⟩
    have e2 : (!PyData.eqv (.str Str.empty) (.str (Str.ofString ""))) = false := by decide
    rw [e2]
    exact ⟨rfl, some (.ref e), rfl⟩
  · subst eH
    subst es
    obtain ⟨S7, kp⟩ := S6.setAny (o := o) hi
    have af : Af K ρ σ G H ρ (σ.set i o) G H' := ⟨Gr.exts y1, S7, fun a z => .inl (kp.bwd a z), fun b z => ⟨z.1, by rw [List.getElem?_set_ne h0]; exact z.2⟩⟩
    exact k G H' _ S7 D (upS hE af q)
end
end Cg
/-! CgM: more: products kept, two names at once, the text of a plain thing. -/
namespace Cg
open PySem PySem.Spec PyProof.Rows L2

/-! ### x *= y -/
def ipMul : TIp := fun x y H Q => ∃ i j, x = .int i ∧ y = .int j ∧ CMul i j ∧ Q (.int (i * j)) H
theorem ip_mul {X : Cx} : PIp X .Mult ipMul := by
  intro pins s σ H x y v u Q I r1 r2 h
  obtain ⟨i, j, e1, e2, hc, q⟩ := h
  subst e1
  subst e2
  obtain ⟨t, rfl⟩ := r1
  obtain ⟨t', rfl⟩ := r2
  exact PySem.P.imul_int ⟨.int _, H, I.tok _, ⟨_, rfl⟩, q⟩ hc.ok
def mulI (i j : Int) : Tr PyData := if (-(2 ^ 64) < i ∧ i < 2 ^ 64) ∨ (-(2 ^ 64) < j ∧ j < 2 ^ 64) then .ret (.int (i * j)) else .bad
def on2g {β : Type} (g : PyData → PyData → Tr β) : List PyData → Tr β
  | [a, b] => g a b
  | _ => .bad
@[simp] theorem on2g_two {β : Type} (g : PyData → PyData → Tr β) (a b : PyData) : on2g g [a, b] = g a b := rfl
section
variable {K : PySem.W.Frag} {cl : Ek → Addr} {E : L2.St → Option XK} {ρ : List Sl} {S β : Type} {oc : β → Ct S} {ρ' : S → List Sl} {u : TS}
theorem st_augM (hE : ∀ a b, E a = E b) {i : Nat} {x : PyData} {te : TE} {f : Tr PyData} {g : PyData → Tr β} (hx : ρ[i]? = some (.dat x)) (h : Ev K cl E te ρ f) (k : ∀ d, StG K cl E oc ρ' u (ρ.set i (.dat d)) (g d)) :
    StG K cl E oc ρ' (tSeq (tAug i te ipMul) u) ρ (f.bind fun y => (asI x).bind fun a => (asI y).bind fun b => (mulI a b).bind g) := fun G H σ hS D q => by
  obtain ⟨o, h1, vx, e, rx⟩ := hS.var hx
  subst e
  refine ⟨vx, h1, h.then (g := fun y => (asI x).bind fun a => (asI y).bind fun b => (mulI a b).bind g) hS q fun d v G1 H1 a rv w => ?_⟩
  cases rx with
  | int m =>
    cases rv with
    | int n =>
      have w' : ((if (-(2 ^ 64) < m ∧ m < 2 ^ 64) ∨ (-(2 ^ 64) < n ∧ n < 2 ^ 64) then Tr.ret (PyData.int (m * n)) else .bad).bind g).wp (fun b => OutP K ρ σ G1 H1 ρ' D (oc b)) (Xo cl (E σ) (Owns ρ σ) H1) := w
      split at w'
      · rename_i hc
        refine ⟨m, n, rfl, rfl, hc, ?_⟩
        have nn : nown ρ i = true := by
          unfold nown
          rw [hx]
          rfl
        have rz : Rp K G1 (.int (m * n)) (.int (m * n)) := .int _
        have kp := kp_put (σ := σ) (v := .int (m * n)) (d := .int (m * n)) nn
        have a2 : Af K ρ σ G1 H1 (ρ.set i (.dat (.int (m * n)))) (σ.set i (some (.int (m * n)))) G1 H1 := ⟨Gr.refl, a.st.put rz, fun x z => .inl (kp.bwd x z), fun b z => by
          obtain ⟨q1, q2⟩ := kp.fwd 0 .box z.1 rfl
          exact ⟨q1, q2.trans z.2⟩⟩
        exact k _ G1 H1 _ (a.st.put rz) D (upS hE a2 w')
      · exact w'.elim
    | _ => exact w.elim
  | _ => exact w.elim

/-! ### a, b = x, y -/
theorem ea_ev {te : TA} {n : Nat} {F : ∀ β : Type, (List PyData → Tr β) → Tr β} (h : EvA K cl E te ρ n F) : EvG K cl E (fun G vs ds => RpAll K G vs ds ∧ ds.length = n) te ρ (F _ Tr.ret) := fun G H σ S Q q =>
  h G H σ S (fun G vs ds => RpAll K G vs ds ∧ ds.length = n) Tr.ret Q _ q fun ds vs G1 H1 g1 S1 rs hl q1 => Po.now q1 S1 ⟨rs, hl⟩
theorem st_par (hE : ∀ a b, E a = E b) {i j : Nat} {ta : TA} {F : ∀ β : Type, (List PyData → Tr β) → Tr β} {g : PyData → PyData → Tr β} (h : EvA K cl E ta ρ 2 F) (k : ∀ a b, StG K cl E oc ρ' u ((ρ.set i (.dat a)).set j (.dat b)) (g a b))
    (hi : nown ρ i = true := by rfl) (hj : ∀ a, nown (ρ.set i (.dat a)) j = true := by intro; rfl) : StG K cl E oc ρ' (tSeq (tPar i j ta) u) ρ ((F _ Tr.ret).bind (on2g g)) := fun G H σ hS D q =>
  (ea_ev h).then (g := on2g g) hS q fun ds vs G1 H1 a rv w => by
    obtain ⟨rs, hl⟩ := rv
    match ds, hl with
    | [d0, d1], _ =>
      match vs, rs with
      | [v0, v1], .cons r1 (.cons r2 .nil) =>
          refine ⟨v0, v1, rfl, ?_⟩
          have kp := kp_put (σ := σ) (v := v0) (d := d0) hi
          have S1 := a.st.put (i := i) r1
          have kp2 := kp_put (σ := σ.set i (some v0)) (v := v1) (d := d1) (hj d0)
          have a2 : Af K ρ σ G1 H1 ((ρ.set i (.dat d0)).set j (.dat d1)) ((σ.set i (some v0)).set j (some v1)) G1 H1 := ⟨Gr.refl, S1.put r2, fun x z => .inl (kp.bwd x (kp2.bwd x z)), fun b z => by
            obtain ⟨q1, q2⟩ := kp.fwd 0 .box z.1 rfl
            obtain ⟨q3, q4⟩ := kp2.fwd 0 .box q1 rfl
            exact ⟨q3, q4.trans (q2.trans z.2)⟩⟩
          exact k d0 d1 G1 H1 _ (S1.put r2) D (upS hE a2 w)
end

/-! ### repr -/
def dRepr : PyData → Tr PyData
  | .int i => if i.natAbs.log2 < 1920 then .ret (.str (toString i)) else .bad
  | .none => .ret (.str "None")
  | .bool b => .ret (.str (if b then "True" else "False"))
  | .str x => if (reprText x).length ≤ sizeLine then .ret (.str (reprText x)) else .bad
  | _ => .bad
def rRepr : List V → Hp → VK → Prop := fun xs H Q => (∃ i, xs = [.int i] ∧ i.natAbs.log2 < 1920 ∧ Q (.str (toString i)) H) ∨ (xs = [.non] ∧ Q (.str "None") H) ∨ (∃ b, xs = [.bl b] ∧ Q (.str (if b then "True" else "False")) H) ∨ ∃ x, xs = [.str x] ∧ (reprText x).length ≤ sizeLine ∧ Q (.str (reprText x)) H
theorem call_repr {X : Cx} : CallR X (.builtin "repr") rRepr := by
  intro pins s σ H xs us Q I r h
  rcases h with ⟨i, rfl, hz, q⟩ | ⟨rfl, q⟩ | ⟨b, rfl, q⟩ | ⟨x, rfl, hz, q⟩
  · obtain ⟨u, rfl, t, rfl⟩ := vals1 r
    exact PySem.P.repr_of_int hz ⟨.str _, H, I.tok _, ⟨_, rfl⟩, q⟩
  · obtain ⟨u, rfl, rx⟩ := vals1 r
    cases rx
    exact PySem.P.repr_of_none ⟨.str _, H, I.tok _, ⟨_, rfl⟩, q⟩
  · obtain ⟨u, rfl, rx⟩ := vals1 r
    cases rx
    exact PySem.P.repr_of_bool ⟨.str _, H, I.tok _, ⟨_, rfl⟩, q⟩
  · obtain ⟨u, rfl, t, rfl⟩ := vals1 r
    exact PySem.P.repr_of_str ⟨.str _, H, I.tok _, ⟨_, rfl⟩, q⟩ hz
theorem rk_repr {K : PySem.W.Frag} : RK1 K rRepr dRepr := fun cl E ρ σ G H x a S rx Q h => by
  cases rx with
  | int i =>
    have h' : (if i.natAbs.log2 < 1920 then Tr.ret (PyData.str (toString i)) else .bad).wp (Po K ρ σ (Rp K) G H Q) (Xo cl (E σ) (Owns ρ σ) H) := h
    split at h'
    · exact .inl ⟨i, rfl, by assumption, Po.now h' S (.str _)⟩
    · exact h'.elim
  | non => exact .inr (.inl ⟨rfl, Po.now h S (.str _)⟩)
  | bl b => exact .inr (.inr (.inl ⟨b, rfl, Po.now h S (.str _)⟩))
  | str x =>
    have h' : (if (reprText x).length ≤ sizeLine then Tr.ret (PyData.str (reprText x)) else .bad).wp (Po K ρ σ (Rp K) G H Q) (Xo cl (E σ) (Owns ρ σ) H) := h
    split at h'
    · exact .inr (.inr (.inr ⟨x, rfl, by assumption, Po.now h' S (.str _)⟩))
    · exact h'.elim
  | _ => exact h.elim
end Cg
namespace K03
open PySem PySem.Spec PyProof.Rows L2 Cg
def topS (i : Nat) : Stmt := PySem.Challenge.pw_corrigenda_k03_how_many_values.main.body.getD i (.Pass ⟨0, 0, 0, 0⟩)
abbrev s_check_kind : Stmt := topS 12
abbrev s_few : Stmt := topS 13
abbrev s_is_whole : Stmt := topS 14
abbrev s_is_within : Stmt := topS 15
abbrev s_inner_kinds : Stmt := topS 16
abbrev s_count_kinds : Stmt := topS 17
abbrev s_count_values : Stmt := topS 18
abbrev s_product_up_to : Stmt := topS 19
abbrev s__law_box : Stmt := topS 21
abbrev s__law_take : Stmt := topS 22
abbrev s__law_pick : Stmt := topS 23
abbrev s__law_kind : Stmt := topS 24
abbrev s__law_inner : Stmt := topS 25
abbrev s__law_many : Stmt := topS 26
abbrev s__law_some_kind : Stmt := topS 27
abbrev s__law_few : Stmt := topS 28
abbrev s__law_class : Stmt := topS 29
abbrev s__law_small : Stmt := topS 30
abbrev s__law_told : Stmt := topS 31
abbrev s_law : Stmt := topS 32
def tab_FEWEST_INSIDE : List (Str × Int) := [("record", 1), ("choice", 2)]
structure Txt (w : World) (K : PySem.W.Frag) (mg : Str → Option Value) where
  d_check_kind : DefAt K mg "check_kind" s_check_kind ["kind"]
  d_few : DefAt K mg "few" s_few ["kind", "most"]
  d_is_whole : DefAt K mg "is_whole" s_is_whole ["thing"]
  d_is_within : DefAt K mg "is_within" s_is_within ["thing", "low", "high"]
  d_inner_kinds : DefAt K mg "inner_kinds" s_inner_kinds ["kind"]
  d_count_kinds : DefAt K mg "count_kinds" s_count_kinds ["kind", "deep"]
  d_count_values : DefAt K mg "count_values" s_count_values ["kind", "most"]
  d_product_up_to : DefAt K mg "product_up_to" s_product_up_to ["numbers", "most"]
  d__law_box : DefAt K mg "_law_box" s__law_box ["script"]
  d__law_take : DefAt K mg "_law_take" s__law_take ["box", "m"]
  d__law_pick : DefAt K mg "_law_pick" s__law_pick ["box", "menu"]
  d__law_kind : DefAt K mg "_law_kind" s__law_kind ["box", "deep"]
  d__law_inner : DefAt K mg "_law_inner" s__law_inner ["kind"]
  d__law_many : DefAt K mg "_law_many" s__law_many ["kind"]
  d__law_some_kind : DefAt K mg "_law_some_kind" s__law_some_kind ["box"]
  d__law_few : DefAt K mg "_law_few" s__law_few ["kind", "most"]
  d__law_class : DefAt K mg "_law_class" s__law_class ["e"]
  d__law_small : DefAt K mg "_law_small" s__law_small ["box", "deep"]
  d__law_told : DefAt K mg "_law_told" s__law_told ["kind", "most"]
  d_law : DefAt K mg "law" s_law ["script"]
  z_ValueError : mg "ValueError" = none
  z_abs : mg "abs" = none
  z_bool : mg "bool" = none
  z_int : mg "int" = none
  z_isinstance : mg "isinstance" = none
  z_len : mg "len" = none
  z_list : mg "list" = none
  z_range : mg "range" = none
  z_repr : mg "repr" = none
  z_str : mg "str" = none
  z_sum : mg "sum" = none
  z_tuple : mg "tuple" = none
  t_MOST_DEEP : Tok
  k_MOST_DEEP : mg "MOST_DEEP" = some (.int 5 t_MOST_DEEP)
  t_MOST_INSIDE : Tok
  k_MOST_INSIDE : mg "MOST_INSIDE" = some (.int 4 t_MOST_INSIDE)
  t_MOST_KINDS : Tok
  k_MOST_KINDS : mg "MOST_KINDS" = some (.int 20 t_MOST_KINDS)
  t_MOST_NUMBER : Tok
  k_MOST_NUMBER : mg "MOST_NUMBER" = some (.int 1000 t_MOST_NUMBER)
  cl : Ek → Addr
  e_BadKind : Cgx.ErrC K (cl Ek.kind)
  g_BadKind : mg "BadKind" = some (.ref (cl Ek.kind))
  e_BadPatch : Cgx.ErrC K (cl Ek.patch)
  g_BadPatch : mg "BadPatch" = some (.ref (cl Ek.patch))
  e_BadValue : Cgx.ErrC K (cl Ek.value)
  g_BadValue : mg "BadValue" = some (.ref (cl Ek.value))
  e_CorrigendaError : Cgx.ErrC K (cl Ek.base)
  g_CorrigendaError : mg "CorrigendaError" = some (.ref (cl Ek.base))
  e_Unfit : Cgx.ErrC K (cl Ek.unfit)
  g_Unfit : mg "Unfit" = some (.ref (cl Ek.unfit))
  p_FEWEST_INSIDE : Addr
  g_FEWEST_INSIDE : mg "FEWEST_INSIDE" = some (.ref p_FEWEST_INSIDE)
  kd_FEWEST_INSIDE : KdAt w K p_FEWEST_INSIDE tab_FEWEST_INSIDE
  isE : ∀ c : Ek, ExcC K (cl c)
  strE : ∀ c : Ek, PySem.W.findIn K (.ref (cl c)) "__str__" = some (some (.builtin "BaseException.__str__"))
  kOne : ∀ c d : Ek, PySem.W.kitOne K (.ref (cl c)) (.ref (cl d)) = some (subE c d)
  kVE : ∀ c : Ek, PySem.W.kitOne K (.ref (cl c)) (.type "ValueError") = some true
  exm : ∀ c : Ek, PySem.W.exmOne K (.ref (cl c)) (.ref (cl Ek.base)) = some true
/-! ### the trees -/
def m_is_whole (v_thing : PyData) : Tr PyData :=
  if (isInt v_thing) then (asB (PyData.bool (isBool v_thing))).bind fun x1 => Tr.ret (PyData.bool (!x1)) else Tr.ret (PyData.bool false)
def m_is_within (v_thing v_low v_high : PyData) : Tr PyData :=
  (m_is_whole v_thing).bind fun x3 => (asB x3).bind fun x4 => if x4 then (cLe v_low v_thing).bind fun x2 => if x2 then (cLe v_thing v_high).bind fun k => Tr.ret (PyData.bool k) else Tr.ret (PyData.bool false) else Tr.ret (PyData.bool false)
def m_inner_kinds (v_kind : PyData) : Tr PyData :=
  (if (!(isTup v_kind)) then Tr.ret true else (dLen v_kind).bind fun x5 => cLt x5 (PyData.int 2)).bind fun x30 => if x30 then Tr.ret PyData.none else (dIx v_kind (PyData.int 0)).bind fun v_word => (cEq v_word (PyData.str "table")).bind fun x29 => if x29 then ((dLen v_kind).bind fun x6 => cEq x6 (PyData.int 3)).bind fun x8 => if x8 then (asI (PyData.int 1)).bind fun x7 => dSl v_kind (some x7) none else Tr.ret PyData.none else ((dLen v_kind).bind fun x9 => cGt x9 (PyData.int 2)).bind fun x28 => if x28 then Tr.ret PyData.none else (cEq v_word (PyData.str "number")).bind fun x27 => if x27 then (((dIx v_kind (PyData.int 1)).bind fun x10 => m_is_within x10 (PyData.int 2) (PyData.int 1000)).bind fun x11 => (asB x11).bind fun x12 => Tr.ret x12).bind fun x13 => if x13 then Tr.ret (PyData.tuple []) else Tr.ret PyData.none else (cIn v_word (PyData.tuple [(PyData.str "row"), (PyData.str "set"), (PyData.str "bag")])).bind fun x26 => if x26 then (asI (PyData.int 1)).bind fun x14 => dSl v_kind (some x14) none else ((cNotIn v_word (PyData.tuple [(PyData.str "record"), (PyData.str "choice")])).bind fun x19 => if x19 then Tr.ret true else (((dIx v_kind (PyData.int 1)).bind fun x15 => Tr.ret (PyData.bool (isTup x15))).bind fun x16 => (asB x16).bind fun x17 => Tr.ret x17).bind fun x18 => Tr.ret (!x18)).bind fun x25 => if x25 then Tr.ret PyData.none else ((kdT tab_FEWEST_INSIDE v_word).bind fun x21 => ((dIx v_kind (PyData.int 1)).bind fun x20 => dLen x20).bind fun x22 => (cLe x21 x22).bind fun x23 => if x23 then cLe x22 (PyData.int 4) else Tr.ret false).bind fun x24 => if x24 then dIx v_kind (PyData.int 1) else Tr.ret PyData.none
def m_count_kinds : Nat → PyData → PyData → Tr PyData
  | 0, _, _ => Tr.bad
  | n + 1, v_kind, v_deep => (m_inner_kinds v_kind).bind fun v_inside => (if (isNon v_inside) then Tr.ret true else cLt v_deep (PyData.int 1)).bind fun x34 => if x34 then Tr.ret PyData.none else (Tr.ret (PyData.int 1)).bind fun v_total => (items v_inside).bind fun x33 => forC id (fun (v_inner : PyData) (x31 : PyData) => (((dSub v_deep (PyData.int 1)).bind fun x32 => m_count_kinds n v_inner x32).bind fun v_many => if (isNon v_many) then Tr.ret (Ct.rt PyData.none) else (asI x31).bind fun a => (asI v_many).bind fun b => (fun v_total => Tr.ret (Ct.nx v_total)) (.int (a + b)) : Tr (Ct (PyData)))) (fun x31 => Tr.ret x31) x33 v_total
def b_check_kind (v_kind : PyData) : Tr Unit :=
  ((m_count_kinds 8 v_kind (PyData.int 5)).noX).bind fun v_many => (if (isNon v_many) then Tr.ret true else cGt v_many (PyData.int 20)).bind fun x35 => if x35 then Tr.exc Ek.kind else Tr.ret ()
def m_check_kind (v_kind : PyData) : Tr PyData := (b_check_kind v_kind).bind fun _ => Tr.ret .none
def m_product_up_to (v_numbers v_most : PyData) : Tr PyData :=
  (Tr.ret (PyData.int 1)).bind fun v_total => (items v_numbers).bind fun x38 => forC id (fun (v_number : PyData) (x36 : PyData) => ((asI x36).bind fun a => (asI v_number).bind fun b => (mulI a b).bind (fun v_total => (cGt v_total v_most).bind fun x37 => if x37 then Tr.ret (Ct.rt v_total) else Tr.ret (Ct.nx v_total)) : Tr (Ct (PyData)))) (fun x36 => Tr.ret x36) x38 v_total
def m_count_values : Nat → PyData → PyData → Tr PyData
  | 0, _, _ => Tr.bad
  | n + 1, v_kind, v_most => (dIx v_kind (PyData.int 0)).bind fun v_word => (cIn v_word (PyData.tuple [(PyData.str "row"), (PyData.str "bag")])).bind fun x59 => if x59 then Tr.ret PyData.none else ((m_inner_kinds v_kind).bind fun x39 => (items x39).bind fun x40 => (mapT (fun v_inner => m_count_values n v_inner v_most) x40).bind fun x41 => Tr.ret (PyData.list x41)).bind fun v_counts => (cIn PyData.none v_counts).bind fun x58 => if x58 then Tr.ret PyData.none else (cEq v_word (PyData.str "number")).bind fun x57 => (if x57 then ((dIx v_kind (PyData.int 1)).bind fun v_many => Tr.ret v_many : Tr (PyData)) else (cEq v_word (PyData.str "choice")).bind fun x55 => (if x55 then ((dSum v_counts).bind fun v_many => Tr.ret v_many : Tr (PyData)) else (cEq v_word (PyData.str "record")).bind fun x54 => (if x54 then ((m_product_up_to v_counts v_most).bind fun v_many => Tr.ret v_many : Tr (PyData)) else (cEq v_word (PyData.str "set")).bind fun x53 => (if x53 then ((((dIx v_counts (PyData.int 0)).bind fun x46 => dMul (PyData.list [(PyData.int 2)]) x46).bind fun x47 => m_product_up_to x47 v_most).bind fun v_many => Tr.ret v_many : Tr (PyData)) else (((((dIx v_counts (PyData.int 1)).bind fun x48 => dAdd (PyData.int 1) x48).bind fun x49 => Tr.ret (PyData.list [x49])).bind fun x50 => (dIx v_counts (PyData.int 0)).bind fun x51 => dMul x50 x51).bind fun x52 => m_product_up_to x52 v_most).bind fun v_many => Tr.ret v_many).bind fun x45 => Tr.ret x45).bind fun x44 => Tr.ret x44).bind fun x43 => Tr.ret x43).bind fun x42 => (cLe x42 v_most).bind fun x56 => if x56 then Tr.ret x42 else Tr.ret PyData.none
def m_few (v_kind v_most : PyData) : Tr PyData :=
  (m_check_kind v_kind).bind fun _ => (m_count_values 8 v_kind v_most).noX
def m__law_pick (v_menu : PyData) : Tr PyData :=
  ((dLen v_menu).bind fun x60 => takeT x60).bind fun x61 => dIx v_menu x61
def m__law_kind : Nat → PyData → Tr PyData
  | 0, _ => Tr.bad
  | n + 1, v_deep => (takeT (PyData.int 10)).bind fun v_sort => ((cLe v_deep (PyData.int 1)).bind fun x62 => if x62 then Tr.ret true else cLt v_sort (PyData.int 2)).bind fun x92 => if x92 then ((((takeT (PyData.int 999)).bind fun x63 => dAdd (PyData.int 2) x63).bind fun x64 => Tr.ret (PyData.list [(PyData.int 2), (PyData.int 2), (PyData.int 3), (PyData.int 5), (PyData.int 10), (PyData.int 1000), x64])).bind fun x65 => m__law_pick x65).bind fun x66 => Tr.ret (PyData.tuple [(PyData.str "number"), x66]) else (cLt v_sort (PyData.int 4)).bind fun x91 => if x91 then (((m__law_pick (PyData.list [(PyData.int 1), (PyData.int 2), (PyData.int 2), (PyData.int 3), (PyData.int 4)])).bind fun x68 => (rangeT (.int 0) x68).bind fun x69 => (mapT (fun v_k => (dSub v_deep (PyData.int 1)).bind fun x67 => m__law_kind n x67) x69).bind fun x70 => Tr.ret (PyData.list x70)).bind fun x71 => dTuple x71).bind fun x72 => Tr.ret (PyData.tuple [(PyData.str "record"), x72]) else (cEq v_sort (PyData.int 4)).bind fun x90 => if x90 then (((m__law_pick (PyData.list [(PyData.int 2), (PyData.int 2), (PyData.int 3), (PyData.int 4)])).bind fun x74 => (rangeT (.int 0) x74).bind fun x75 => (mapT (fun v_k => (dSub v_deep (PyData.int 1)).bind fun x73 => m__law_kind n x73) x75).bind fun x76 => Tr.ret (PyData.list x76)).bind fun x77 => dTuple x77).bind fun x78 => Tr.ret (PyData.tuple [(PyData.str "choice"), x78]) else (cLt v_sort (PyData.int 7)).bind fun x89 => if x89 then ((dSub v_deep (PyData.int 1)).bind fun x79 => m__law_kind n x79).bind fun x80 => Tr.ret (PyData.tuple [(PyData.str "row"), x80]) else (cLt v_sort (PyData.int 9)).bind fun x88 => if x88 then (m__law_pick (PyData.list [(PyData.str "set"), (PyData.str "bag")])).bind fun x82 => ((dSub v_deep (PyData.int 1)).bind fun x81 => m__law_kind n x81).bind fun x83 => Tr.ret (PyData.tuple [x82, x83]) else ((dSub v_deep (PyData.int 2)).bind fun x84 => m__law_kind n x84).bind fun x86 => ((dSub v_deep (PyData.int 1)).bind fun x85 => m__law_kind n x85).bind fun x87 => Tr.ret (PyData.tuple [(PyData.str "table"), x86, x87])
def m__law_inner (v_kind : PyData) : Tr PyData :=
  ((dIx v_kind (PyData.int 0)).bind fun x93 => cIn x93 (PyData.tuple [(PyData.str "record"), (PyData.str "choice")])).bind fun x99 => if x99 then (dIx v_kind (PyData.int 1)).bind fun x94 => dList x94 else ((dIx v_kind (PyData.int 0)).bind fun x95 => cNe x95 (PyData.str "number")).bind fun x98 => if x98 then ((asI (PyData.int 1)).bind fun x96 => dSl v_kind (some x96) none).bind fun x97 => dList x97 else Tr.ret (PyData.list [])
def m__law_many : Nat → PyData → Tr PyData
  | 0, _ => Tr.bad
  | n + 1, v_kind => (((m__law_inner v_kind).bind fun x100 => (items x100).bind fun x101 => (mapT (fun v_one => m__law_many n v_one) x101).bind fun x102 => Tr.ret (PyData.list x102)).bind fun x103 => dSum x103).bind fun x104 => dAdd (PyData.int 1) x104
def m__law_some_kind : Tr PyData :=
  ((m__law_pick (PyData.list [(PyData.int 2), (PyData.int 3), (PyData.int 3), (PyData.int 4), (PyData.int 5)])).bind fun x105 => m__law_kind 8 x105).bind fun v_kind => ((m__law_many 12 v_kind).bind fun x106 => cLe x106 (PyData.int 20)).bind fun x107 => if x107 then Tr.ret v_kind else Tr.ret (PyData.tuple [(PyData.str "row"), (PyData.tuple [(PyData.str "number"), (PyData.int 3)])])
def m__law_few : Nat → PyData → PyData → Tr PyData
  | 0, _, _ => Tr.bad
  | n + 1, v_kind, v_most => (dIx v_kind (PyData.int 0)).bind fun v_word => (cEq v_word (PyData.str "number")).bind fun x135 => andThen id (if x135 then ((dIx v_kind (PyData.int 1)).bind fun v_found => Tr.ret (Ct.nx v_found) : Tr (Ct (PyData))) else (cIn v_word (PyData.tuple [(PyData.str "row"), (PyData.str "bag")])).bind fun x133 => andThen Ct.rt (if x133 then (Tr.ret (Ct.rt PyData.none) : Tr (Ct (PyData))) else (cEq v_word (PyData.str "set")).bind fun x132 => andThen Ct.rt (if x132 then (((dIx v_kind (PyData.int 1)).bind fun x111 => m__law_few n x111 (PyData.int 12)).bind fun v_found => (if (isNon v_found) then Tr.ret PyData.none else dIx (PyData.tuple [(PyData.int 1), (PyData.int 2), (PyData.int 4), (PyData.int 8), (PyData.int 16), (PyData.int 32), (PyData.int 64), (PyData.int 128), (PyData.int 256), (PyData.int 512), (PyData.int 1024), (PyData.int 2048), (PyData.int 4096)]) v_found).bind fun v_found => Tr.ret (Ct.nx v_found) : Tr (Ct (PyData))) else (cEq v_word (PyData.str "table")).bind fun x131 => andThen Ct.rt (if x131 then (((dIx v_kind (PyData.int 1)).bind fun x113 => m__law_few n x113 (PyData.int 8)).bind fun x121 => ((dIx v_kind (PyData.int 2)).bind fun x114 => m__law_few n x114 v_most).bind fun x122 => (fun v_keys v_entries => ((if (isNon v_keys) then Tr.ret true else Tr.ret (isNon v_entries)).bind fun x115 => if x115 then Tr.ret PyData.none else Tr.ret (PyData.int 1)).bind fun v_found => ((cEq v_found (PyData.int 1)).bind fun x118 => if x118 then Tr.ret v_keys else Tr.ret (PyData.int 0)).bind fun x119 => (rangeT (.int 0) x119).bind fun x120 => (forN (fun (v_k : PyData) (x116 : PyData) => (((dAdd (PyData.int 1) v_entries).bind fun x117 => dMul x116 x117).bind fun v_found => Tr.ret v_found : Tr (PyData))) x120 v_found).bind (fun x116 => Tr.ret (Ct.nx x116))) x121 x122 : Tr (Ct (PyData))) else ((dIx v_kind (PyData.int 1)).bind fun x123 => (items x123).bind fun x124 => (mapT (fun v_one => m__law_few n v_one v_most) x124).bind fun x125 => Tr.ret (PyData.list x125)).bind fun v_counts => (cIn PyData.none v_counts).bind fun x130 => if x130 then Tr.ret (Ct.rt PyData.none) else (dSum v_counts).bind fun v_found => (cEq v_word (PyData.str "record")).bind fun x129 => andThen Ct.rt (if x129 then ((Tr.ret (PyData.int 1)).bind fun v_found => (items v_counts).bind fun x128 => (forN (fun (v_count : PyData) (x127 : PyData) => ((dMul x127 v_count).bind fun v_found => Tr.ret v_found : Tr (PyData))) x128 v_found).bind (fun x127 => Tr.ret (Ct.nx x127)) : Tr (Ct (PyData))) else Tr.ret (Ct.nx v_found)) fun x126 => Tr.ret (Ct.nx x126)) fun x112 => Tr.ret (Ct.nx x112)) fun x110 => Tr.ret (Ct.nx x110)) fun x109 => Tr.ret (Ct.nx x109)) fun x108 => (if (!isNon x108) then cLe x108 v_most else Tr.ret false).bind fun x134 => if x134 then Tr.ret x108 else Tr.ret PyData.none
def m__law_small : Nat → PyData → Tr PyData
  | 0, _ => Tr.bad
  | n + 1, v_deep => (takeT (PyData.int 7)).bind fun v_sort => ((cLe v_deep (PyData.int 1)).bind fun x136 => if x136 then Tr.ret true else cLt v_sort (PyData.int 2)).bind fun x158 => if x158 then (m__law_pick (PyData.list [(PyData.int 2), (PyData.int 2), (PyData.int 3), (PyData.int 4), (PyData.int 5), (PyData.int 7)])).bind fun x137 => Tr.ret (PyData.tuple [(PyData.str "number"), x137]) else (cLt v_sort (PyData.int 4)).bind fun x157 => if x157 then (m__law_pick (PyData.list [(PyData.str "record"), (PyData.str "choice")])).bind fun x144 => ((((takeT (PyData.int 2)).bind fun x139 => dAdd (PyData.int 2) x139).bind fun x140 => (rangeT (.int 0) x140).bind fun x141 => (mapT (fun v_k => (dSub v_deep (PyData.int 1)).bind fun x138 => m__law_small n x138) x141).bind fun x142 => Tr.ret (PyData.list x142)).bind fun x143 => dTuple x143).bind fun x145 => Tr.ret (PyData.tuple [x144, x145]) else (cLt v_sort (PyData.int 6)).bind fun x156 => if x156 then (cEq v_sort (PyData.int 4)).bind fun x152 => if x152 then ((dSub v_deep (PyData.int 1)).bind fun x146 => m__law_small n x146).bind fun x147 => Tr.ret (PyData.tuple [(PyData.str "set"), x147]) else ((m__law_pick (PyData.list [(PyData.int 2), (PyData.int 2), (PyData.int 3)])).bind fun x148 => Tr.ret (PyData.tuple [(PyData.str "number"), x148])).bind fun x150 => ((dSub v_deep (PyData.int 1)).bind fun x149 => m__law_small n x149).bind fun x151 => Tr.ret (PyData.tuple [(PyData.str "table"), x150, x151]) else (m__law_pick (PyData.list [(PyData.str "row"), (PyData.str "bag")])).bind fun x154 => ((dSub v_deep (PyData.int 1)).bind fun x153 => m__law_small n x153).bind fun x155 => Tr.ret (PyData.tuple [x154, x155])
def m__law_told (v_kind v_most : PyData) : Tr PyData := catchT (fun c => .str (nmE c)) (m_few v_kind v_most)
def m_law (v_script : PyData) : Tr PyData :=
  (boxT v_script).bind fun x181 => (rangeT (.int 0) (PyData.int 6)).bind fun x180 => forC id (fun (v_turn : PyData) (x159 : Unit) => (((cGt v_turn (PyData.int 0)).bind fun x162 => if x162 then ((takeT (PyData.int 4)).bind fun x160 => dAdd (PyData.int 1) x160).bind fun x161 => m__law_small 8 x161 else m__law_some_kind ).bind fun v_kind => ((m__law_many 12 v_kind).bind fun x163 => cGt x163 (PyData.int 20)).bind fun x177 => (if x177 then ((Tr.ret (PyData.tuple [(PyData.str "set"), (PyData.tuple [(PyData.str "number"), (PyData.int 7)])])).bind fun v_kind => Tr.ret v_kind : Tr (PyData)) else Tr.ret v_kind).bind fun x164 => (m__law_few 8 x164 (PyData.int 2000)).bind fun v_many => (((takeT (PyData.int 2001)).bind fun x165 => (m__law_pick (PyData.list [(PyData.int 0), (PyData.int 1), (PyData.int 2), (PyData.int 10), (PyData.int 200)])).bind fun x166 => Tr.ret (PyData.list [x165, (PyData.int 2000), x166])).bind fun x168 => (if (!isNon v_many) then (dSub v_many (PyData.int 1)).bind fun x167 => Tr.ret (PyData.list [v_many, x167]) else Tr.ret (PyData.list [])).bind fun x169 => dAdd x168 x169).bind fun v_bounds => (items v_bounds).bind fun x176 => forC Ct.rt (fun (v_most : PyData) (x170 : Unit) => ((((m__law_told x164 v_most).bind fun x171 => dRepr x171).bind fun x173 => ((m__law_few 8 x164 v_most).bind fun x172 => dRepr x172).bind fun x174 => cNe x173 x174).bind fun x175 => if x175 then Tr.ret (Ct.rt (PyData.bool false)) else Tr.ret (Ct.nx ()) : Tr (Ct (Unit)))) (fun x170 => Tr.ret (Ct.nx ())) x176 () : Tr (Ct (Unit)))) (fun x159 => ((m__law_told (PyData.tuple [(PyData.str "set"), (PyData.tuple [])]) (PyData.int 5)).bind fun x178 => cEq x178 (PyData.str "kind")).bind fun x179 => Tr.ret (PyData.bool x179)) x180 ()
section
variable {P : Program} {w : World} {K : PySem.W.Frag} {mg : Str → Option Value} {base : Heap}
theorem sc_is_whole : FnScope ["thing"] ["thing"] (defScope s_is_whole) := ⟨rfl, rfl, rfl, by decide +kernel, rfl, by decide +kernel, by decide +kernel⟩
theorem ok_is_whole (T : Txt w K mg) : FnOk P w K mg base CX0 1 T.d_is_whole.f T.d_is_whole.fd ["thing"] (SpN K 1 (fun ds => match ds with | [v_thing] => m_is_whole v_thing | _ => Tr.bad)) :=
  fn_pure (cl := T.cl) T.d_is_whole.F sc_is_whole (fun cdv A outer s H E hr => ⟨_, (pss_cons (ps_ret (pe_and (pe_callB call_isi (by rfl) T.z_isinstance (by decide +kernel) (pa_cons (pv 0) (pa_cons (pe_bltn (v := V.ty "int") (u := .type "int") (by rfl) T.z_int (by decide +kernel) rfl) pa_nil))) (pe_one (pe_not (pe_callB call_isi (by rfl) T.z_isinstance (by decide +kernel) (pa_cons (pv 0) (pa_cons (pe_bltn (v := V.ty "bool") (u := .type "bool") (by rfl) T.z_bool (by decide +kernel) rfl) pa_nil))))))) pss_nil), fun ds hl => match ds, hl with
      | [v_thing], _ => StG.eq ((st_ret (ev_andV (ev_isi isTy_int (ev_var (i := 0) rfl)) (ev_notV (ev_isi isTy_bool (ev_var (i := 0) rfl)))))) (by simp only [m_is_whole, Tr.ret_bind, Tr.bind_assoc, asB_bool, asI_int, on1_one, on2g_two])⟩)
theorem sc_is_within : FnScope ["thing", "low", "high"] ["thing", "low", "high"] (defScope s_is_within) := ⟨rfl, rfl, rfl, by decide +kernel, rfl, by decide +kernel, by decide +kernel⟩
theorem ok_is_within (T : Txt w K mg) : FnOk P w K mg base CX0 2 T.d_is_within.f T.d_is_within.fd ["thing", "low", "high"] (SpN K 3 (fun ds => match ds with | [v_thing, v_low, v_high] => m_is_within v_thing v_low v_high | _ => Tr.bad)) :=
  fn_pure (cl := T.cl) T.d_is_within.F sc_is_within (fun cdv A outer s H E hr => ⟨_, (pss_cons (ps_ret (pe_and (pe_call (ok_is_whole T) (hr.mono (by decide)) (by rfl) T.d_is_whole.g T.d_is_whole.F.kp T.d_is_whole.b .nil pass0 (pa_cons (pv 0) pa_nil)) (pe_one (pe_chain op_le op_le (pv 1) (pv 0) (pv 2))))) pss_nil), fun ds hl => match ds, hl with
      | [v_thing, v_low, v_high], _ => StG.eq ((st_ret (ev_andV (ev_callN (ea_cons (ev_var (i := 0) rfl) ea_nil)) (ev_chain rc_le rc_le (ev_var (i := 1) rfl) (ev_var (i := 0) rfl) (ev_var (i := 2) rfl))))) (by simp only [m_is_within, Tr.ret_bind, Tr.bind_assoc, asB_bool, asI_int, on1_one, on2g_two])⟩)
theorem sc_inner_kinds : FnScope ["kind", "word"] ["kind"] (defScope s_inner_kinds) := ⟨rfl, rfl, rfl, by decide +kernel, rfl, by decide +kernel, by decide +kernel⟩
theorem ok_inner_kinds (T : Txt w K mg) : FnOk P w K mg base CX0 3 T.d_inner_kinds.f T.d_inner_kinds.fd ["kind"] (SpN K 1 (fun ds => match ds with | [v_kind] => m_inner_kinds v_kind | _ => Tr.bad)) :=
  fn_pure (cl := T.cl) T.d_inner_kinds.F sc_inner_kinds (fun cdv A outer s H E hr => ⟨_, (pss_cons (ps_if (PW.pt (pw_or (pt_not (pt_val (pe_callB call_isi (by rfl) T.z_isinstance (by decide +kernel) (pa_cons (pv 0) (pa_cons (pe_bltn (v := V.ty "tuple") (u := .type "tuple") (by rfl) T.z_tuple (by decide +kernel) rfl) pa_nil))))) (pw_or1 (pt_cmpR op_lt (pe_callB call_len_seq (by rfl) T.z_len (by decide +kernel) (pa_cons (pv 0) pa_nil)) pe_int (nomark _))))) (pss_cons (ps_ret pe_non) pss_nil) pss_nil) (pss_cons (ps_set (i := 1) sc_inner_kinds.nd rfl (Or.inl rfl) (pe_ix ix_seq (pv 0) pe_int (fun _ _ => rfl))) (pss_cons (ps_if (pt_cmpR (op_eqP (room64 hr)) (pv 1) pe_str (nomark _)) (pss_cons (ps_ret (pe_ifExp (pt_cmpR (op_eqP (room64 hr)) (pe_callB call_len_seq (by rfl) T.z_len (by decide +kernel) (pa_cons (pv 0) pa_nil)) pe_int (nomark _)) (pe_slice sl_P (pv 0) (po_some pe_int) po_none) pe_non)) pss_nil) pss_nil) (pss_cons (ps_if (pt_cmpR op_gt (pe_callB call_len_seq (by rfl) T.z_len (by decide +kernel) (pa_cons (pv 0) pa_nil)) pe_int (nomark _)) (pss_cons (ps_ret pe_non) pss_nil) pss_nil) (pss_cons (ps_if (pt_cmpR (op_eqP (room64 hr)) (pv 1) pe_str (nomark _)) (pss_cons (ps_ret (pe_ifExp (pt_val (pe_call (ok_is_within T) (hr.mono (by decide)) (by rfl) T.d_is_within.g T.d_is_within.F.kp T.d_is_within.b .nil pass0 (pa_cons (pe_ix ix_seq (pv 0) pe_int (fun _ _ => rfl)) (pa_cons pe_int (pa_cons (pe_glob (v := V.int 1000) (by rfl) T.k_MOST_NUMBER ⟨_, rfl⟩) pa_nil))))) (pe_tup pa_nil) pe_non)) pss_nil) pss_nil) (pss_cons (ps_if (pt_cmpR (op_inP (room65 hr)) (pv 1) (pe_tup (pa_cons pe_str (pa_cons pe_str (pa_cons pe_str pa_nil)))) rfl) (pss_cons (ps_ret (pe_slice sl_P (pv 0) (po_some pe_int) po_none)) pss_nil) pss_nil) (pss_cons (ps_if (PW.pt (pw_or (pt_cmpR (op_notInP (room65 hr)) (pv 1) (pe_tup (pa_cons pe_str (pa_cons pe_str pa_nil))) rfl) (pw_or1 (pt_not (pt_val (pe_callB call_isi (by rfl) T.z_isinstance (by decide +kernel) (pa_cons (pe_ix ix_seq (pv 0) pe_int (fun _ _ => rfl)) (pa_cons (pe_bltn (v := V.ty "tuple") (u := .type "tuple") (by rfl) T.z_tuple (by decide +kernel) rfl) pa_nil)))))))) (pss_cons (ps_ret pe_non) pss_nil) pss_nil) (pss_cons (ps_ret (pe_ifExp (pt_chain op_le op_le (pe_ix ix_kdict (pe_glob (v := V.ref T.p_FEWEST_INSIDE) (by rfl) T.g_FEWEST_INSIDE rfl) (pv 1) (fun _ _ => rfl)) (pe_callB call_len_seq (by rfl) T.z_len (by decide +kernel) (pa_cons (pe_ix ix_seq (pv 0) pe_int (fun _ _ => rfl)) pa_nil)) (pe_glob (v := V.int 4) (by rfl) T.k_MOST_INSIDE ⟨_, rfl⟩)) (pe_ix ix_seq (pv 0) pe_int (fun _ _ => rfl)) pe_non)) pss_nil)))))))), fun ds hl => match ds, hl with
      | [v_kind], _ => StG.eq ((st_if (et_or (et_not (et_B (ev_isi isTy_tuple (ev_var (i := 0) rfl)))) (et_cmp rc_lt (ev_cb1 rk_len (ev_var (i := 0) rfl)) ev_int)) (st_ret ev_non) (st_asg (i := 1) (fun _ _ => rfl) (ev_op rr_ix (ev_var (i := 0) rfl) ev_int) (fun v_word => (st_if (et_cmp rc_eq (ev_var (i := 1) rfl) ev_str) (st_ret (ev_if (et_cmp rc_eq (ev_cb1 rk_len (ev_var (i := 0) rfl)) ev_int) (ev_sl rs_P (ev_var (i := 0) rfl) (eo_some ev_int) eo_none) ev_non)) (st_if (et_cmp rc_gt (ev_cb1 rk_len (ev_var (i := 0) rfl)) ev_int) (st_ret ev_non) (st_if (et_cmp rc_eq (ev_var (i := 1) rfl) ev_str) (st_ret (ev_if (et_B (ev_callN (ea_cons (ev_op rr_ix (ev_var (i := 0) rfl) ev_int) (ea_cons ev_int (ea_cons ev_int ea_nil))))) (ev_tup ea_nil) ev_non)) (st_if (et_cmp rc_in (ev_var (i := 1) rfl) (ev_tup (ea_cons ev_str (ea_cons ev_str (ea_cons ev_str ea_nil))))) (st_ret (ev_sl rs_P (ev_var (i := 0) rfl) (eo_some ev_int) eo_none)) (st_if (et_or (et_cmp rc_notIn (ev_var (i := 1) rfl) (ev_tup (ea_cons ev_str (ea_cons ev_str ea_nil)))) (et_not (et_B (ev_isi isTy_tuple (ev_op rr_ix (ev_var (i := 0) rfl) ev_int))))) (st_ret ev_non) (st_ret (ev_if (et_chain rc_le rc_le (ev_kd T.kd_FEWEST_INSIDE (ev_var (i := 1) rfl)) (ev_cb1 rk_len (ev_op rr_ix (ev_var (i := 0) rfl) ev_int)) ev_int) (ev_op rr_ix (ev_var (i := 0) rfl) ev_int) ev_non))))))))))) (by simp only [m_inner_kinds, Tr.ret_bind, Tr.bind_assoc, asB_bool, asI_int, on1_one, on2g_two])⟩)
theorem sc_count_kinds : FnScope ["kind", "deep", "inside", "total", "inner", "many"] ["kind", "deep"] (defScope s_count_kinds) := ⟨rfl, rfl, rfl, by decide +kernel, rfl, by decide +kernel, by decide +kernel⟩
theorem rk_count_kinds (T : Txt w K mg) : ∀ n : Nat, (FnOk P w K mg base CX0 (3 + n) T.d_count_kinds.f T.d_count_kinds.fd ["kind", "deep"] (SpN K 2 (fun ds => match ds with | [v_kind, v_deep] => m_count_kinds n v_kind v_deep | _ => Tr.bad)))
  | 0 => fn_never (spN_bad fun ds hl => match ds, hl with | [v_kind, v_deep], _ => by simp only [m_count_kinds])
  | n + 1 => by
    have ih := rk_count_kinds T n
    have ih_count_kinds := ih
    exact fn_pure (cl := T.cl) T.d_count_kinds.F sc_count_kinds (fun cdv A outer s H E hr => ⟨_, (pss_cons (ps_set (i := 2) sc_count_kinds.nd rfl (Or.inl rfl) (pe_call (ok_inner_kinds T) (hr.mono (Nat.le_trans (by decide : 3 ≤ 3) (Nat.le_add_right 3 n))) (by rfl) T.d_inner_kinds.g T.d_inner_kinds.F.kp T.d_inner_kinds.b .nil pass0 (pa_cons (pv 0) pa_nil))) (pss_cons (ps_if (PW.pt (pw_or (pt_cmpR op_isN (pv 2) pe_non (nomark _)) (pw_or1 (pt_cmpR op_lt (pv 1) pe_int (nomark _))))) (pss_cons (ps_ret pe_non) pss_nil) pss_nil) (pss_cons (ps_set (i := 3) sc_count_kinds.nd rfl (Or.inl rfl) pe_int) (pss_cons (ps_for PassesOwn.never rfl (pi_seq (pv 2)) (pg_name (i := 4) sc_count_kinds.nd rfl (Or.inl rfl)) (pss_cons (ps_set (i := 5) sc_count_kinds.nd rfl (Or.inl rfl) (pe_call ih_count_kinds (hr.mono (Nat.le_refl _)) (by rfl) T.d_count_kinds.g T.d_count_kinds.F.kp T.d_count_kinds.b .nil pass0 (pa_cons (pv 4) (pa_cons (pe_op op_sub (pv 1) pe_int) pa_nil)))) (pss_cons (ps_if (pt_cmpR op_isN (pv 5) pe_non (nomark _)) (pss_cons (ps_ret pe_non) pss_nil) pss_nil) (pss_cons (ps_aug (i := 3) sc_count_kinds.nd rfl (Or.inl rfl) (pv 5) ip_add) pss_nil)))) (pss_cons (ps_ret (pv 3)) pss_nil))))), fun ds hl => match ds, hl with
          | [v_kind, v_deep], _ => StG.eq ((st_asg (i := 2) (fun _ _ => rfl) (ev_callN (ea_cons (ev_var (i := 0) rfl) ea_nil)) (fun v_inside => (st_if (et_or (et_isN (ev_var (i := 2) rfl)) (et_cmp rc_lt (ev_var (i := 1) rfl) ev_int)) (st_ret ev_non) (st_asg (i := 3) (fun _ _ => rfl) ev_int (fun v_total => (st_forS1 (S1 := PyData) (ρs := fun (x31 : PyData) => [.dat v_kind, .dat v_deep, .dat v_inside, .dat x31, .any, .any]) (r := id) (i := 4) (s0 := v_total) (fun _ _ => rfl) (fun _ => rfl) (ev_var (i := 2) rfl) (.same _ (.same _ (.same _ (.same _ (.same _ (.same _ .nil)))))) (fun _ => rfl) (fun v_inner x31 => (st_asg (i := 5) (fun _ _ => rfl) (ev_callN (ea_cons (ev_var (i := 4) rfl) (ea_cons (ev_op rr_sub (ev_var (i := 1) rfl) ev_int) ea_nil))) (fun v_many => (st_if (et_isN (ev_var (i := 5) rfl)) (st_rt (r := Ct.rt) (fun _ => rfl) ev_non) (st_aug (i := 3) (op := fun i j => i + j) (fun _ _ => rfl) rfl (ev_var (i := 5) rfl) (fun v_total => (st_nx (b := Ct.nx v_total) (s := v_total) rfl (.same _ (.same _ (.same _ (.same _ (.any rfl (.any rfl .nil))))))))))))) (fun x31 => (st_ret (ev_var (i := 3) rfl)))))))))) (by simp only [m_count_kinds, Tr.ret_bind, Tr.bind_assoc, asB_bool, asI_int, on1_one, on2g_two])⟩)
theorem ok_count_kinds (T : Txt w K mg) : FnOk P w K mg base CX0 11 T.d_count_kinds.f T.d_count_kinds.fd ["kind", "deep"] (SpN K 2 (fun ds => match ds with | [v_kind, v_deep] => m_count_kinds 8 v_kind v_deep | _ => Tr.bad)) := (rk_count_kinds T 8)
theorem sc_check_kind : FnScope ["kind", "many"] ["kind"] (defScope s_check_kind) := ⟨rfl, rfl, rfl, by decide +kernel, rfl, by decide +kernel, by decide +kernel⟩
theorem ok_check_kind (T : Txt w K mg) : FnOk P w K mg base (Cgx.CT P w) 12 T.d_check_kind.f T.d_check_kind.fd ["kind"] (SpP K T.cl 1 (fun ds => ((fun ds => match ds with | [v_kind] => b_check_kind v_kind | _ => Tr.bad) ds).bind fun _ => Tr.ret .none)) :=
  fn_raise0 (cl := T.cl) T.d_check_kind.F sc_check_kind (fun cdv A outer s H E hr => ⟨_, (fun _ => [.any, .any]), (pss_cons (ps_set (i := 1) sc_check_kind.nd rfl (Or.inl rfl) (pe_call (ok_count_kinds T) (hr.mono (by decide)) (by rfl) T.d_count_kinds.g T.d_count_kinds.F.kp T.d_count_kinds.b .nil pass0 (pa_cons (pv 0) (pa_cons (pe_glob (v := V.int 5) (by rfl) T.k_MOST_DEEP ⟨_, rfl⟩) pa_nil)))) (pss_cons (ps_if (PW.pt (pw_or (pt_cmpR op_isN (pv 1) pe_non (nomark _)) (pw_or1 (pt_cmpR op_gt (pv 1) (pe_glob (v := V.int 20) (by rfl) T.k_MOST_KINDS ⟨_, rfl⟩) (nomark _))))) (pss_cons (Cgx.ps_raise0 rfl (Cgx.lets_of rfl rfl rfl rfl) T.e_BadKind T.g_BadKind (by rfl)) pss_nil) pss_nil) pss_nil)), fun ds hl => match ds, hl with
      | [v_kind], _ => StG.eq ((st_asg (i := 1) (fun _ _ => rfl) (ev_callX (ea_cons (ev_var (i := 0) rfl) (ea_cons ev_int ea_nil))) (fun v_many => (st_if (et_or (et_isN (ev_var (i := 1) rfl)) (et_cmp rc_gt (ev_var (i := 1) rfl) ev_int)) (st_raise (c := Ek.kind)) (st_nx (b := ()) (s := ()) rfl (.any rfl (.any rfl .nil))))))) (by simp only [b_check_kind, Tr.ret_bind, Tr.bind_assoc, asB_bool, asI_int, on1_one, on2g_two])⟩)
theorem sc_product_up_to : FnScope ["numbers", "most", "total", "number"] ["numbers", "most"] (defScope s_product_up_to) := ⟨rfl, rfl, rfl, by decide +kernel, rfl, by decide +kernel, by decide +kernel⟩
theorem ok_product_up_to (T : Txt w K mg) : FnOk P w K mg base CX0 1 T.d_product_up_to.f T.d_product_up_to.fd ["numbers", "most"] (SpN K 2 (fun ds => match ds with | [v_numbers, v_most] => m_product_up_to v_numbers v_most | _ => Tr.bad)) :=
  fn_pure (cl := T.cl) T.d_product_up_to.F sc_product_up_to (fun cdv A outer s H E hr => ⟨_, (pss_cons (ps_set (i := 2) sc_product_up_to.nd rfl (Or.inl rfl) pe_int) (pss_cons (ps_for PassesOwn.never rfl (pi_seq (pv 0)) (pg_name (i := 3) sc_product_up_to.nd rfl (Or.inl rfl)) (pss_cons (ps_aug (i := 2) sc_product_up_to.nd rfl (Or.inl rfl) (pv 3) ip_mul) (pss_cons (ps_if (pt_cmpR op_gt (pv 2) (pv 1) (nomark _)) (pss_cons (ps_ret (pv 2)) pss_nil) pss_nil) pss_nil))) (pss_cons (ps_ret (pv 2)) pss_nil))), fun ds hl => match ds, hl with
      | [v_numbers, v_most], _ => StG.eq ((st_asg (i := 2) (fun _ _ => rfl) ev_int (fun v_total => (st_forS1 (S1 := PyData) (ρs := fun (x36 : PyData) => [.dat v_numbers, .dat v_most, .dat x36, .any]) (r := id) (i := 3) (s0 := v_total) (fun _ _ => rfl) (fun _ => rfl) (ev_var (i := 0) rfl) (.same _ (.same _ (.same _ (.same _ .nil)))) (fun _ => rfl) (fun v_number x36 => (st_augM (i := 2) (fun _ _ => rfl) rfl (ev_var (i := 3) rfl) (fun v_total => (st_if (et_cmp rc_gt (ev_var (i := 2) rfl) (ev_var (i := 1) rfl)) (st_rt (r := Ct.rt) (fun _ => rfl) (ev_var (i := 2) rfl)) (st_nx (b := Ct.nx v_total) (s := v_total) rfl (.same _ (.same _ (.same _ (.any rfl .nil))))))))) (fun x36 => (st_ret (ev_var (i := 2) rfl))))))) (by simp only [m_product_up_to, Tr.ret_bind, Tr.bind_assoc, asB_bool, asI_int, on1_one, on2g_two])⟩)
theorem sc_count_values : FnScope ["kind", "most", "word", "counts", "many", "inner"] ["kind", "most"] (defScope s_count_values) := ⟨rfl, rfl, rfl, by decide +kernel, rfl, by decide +kernel, by decide +kernel⟩
theorem rk_count_values (T : Txt w K mg) : ∀ n : Nat, (FnOk P w K mg base CX0 (3 + n) T.d_count_values.f T.d_count_values.fd ["kind", "most"] (SpN K 2 (fun ds => match ds with | [v_kind, v_most] => m_count_values n v_kind v_most | _ => Tr.bad)))
  | 0 => fn_never (spN_bad fun ds hl => match ds, hl with | [v_kind, v_most], _ => by simp only [m_count_values])
  | n + 1 => by
    have ih := rk_count_values T n
    have ih_count_values := ih
    exact fn_pure (cl := T.cl) T.d_count_values.F sc_count_values (fun cdv A outer s H E hr => ⟨_, (pss_cons (ps_set (i := 2) sc_count_values.nd rfl (Or.inl rfl) (pe_ix ix_seq (pv 0) pe_int (fun _ _ => rfl))) (pss_cons (ps_if (pt_cmpR (op_inP (room65 hr)) (pv 2) (pe_tup (pa_cons pe_str (pa_cons pe_str pa_nil))) rfl) (pss_cons (ps_ret pe_non) pss_nil) pss_nil) (pss_cons (ps_setLc (i := 3) (own := [("inner", 5)]) rfl sc_count_values.nd rfl rfl (sw_true rfl rfl rfl (by decide +kernel)) (pi_seq (pe_call (ok_inner_kinds T) (hr.mono (Nat.le_trans (by decide : 3 ≤ 3) (Nat.le_add_right 3 n))) (by rfl) T.d_inner_kinds.g T.d_inner_kinds.F.kp T.d_inner_kinds.b .nil pass0 (pa_cons (pv 0) pa_nil))) (blkOk_by (N := ["kind", "most", "word", "counts", "many", "inner"]) (sc := defScope s_count_values) (by decide +kernel)) (fun _ _ _ _ _ => pg_name (i := 5) sc_count_values.nd rfl (Or.inl rfl)) (fun _ _ _ _ _ => pts_nil) (fun _ _ _ _ _ => (pe_call ih_count_values (hr.mono (Nat.le_refl _)) (by rfl) T.d_count_values.g T.d_count_values.F.kp T.d_count_values.b .nil pass0 (pa_cons (pv 5) (pa_cons (pv 1) pa_nil))))) (pss_cons (ps_if (pt_cmpR (op_inP (room65 hr)) pe_non (pv 3) rfl) (pss_cons (ps_ret pe_non) pss_nil) pss_nil) (pss_cons (ps_if (pt_cmpR (op_eqP (room64 hr)) (pv 2) pe_str (nomark _)) (pss_cons (ps_set (i := 4) sc_count_values.nd rfl (Or.inl rfl) (pe_ix ix_seq (pv 0) pe_int (fun _ _ => rfl))) pss_nil) (pss_cons (ps_if (pt_cmpR (op_eqP (room64 hr)) (pv 2) pe_str (nomark _)) (pss_cons (ps_set (i := 4) sc_count_values.nd rfl (Or.inl rfl) (pe_callB (cr_sum rfl) (by rfl) T.z_sum (by decide +kernel) (pa_cons (pv 3) pa_nil))) pss_nil) (pss_cons (ps_if (pt_cmpR (op_eqP (room64 hr)) (pv 2) pe_str (nomark _)) (pss_cons (ps_set (i := 4) sc_count_values.nd rfl (Or.inl rfl) (pe_call (ok_product_up_to T) (hr.mono (Nat.le_trans (by decide : 1 ≤ 3) (Nat.le_add_right 3 n))) (by rfl) T.d_product_up_to.g T.d_product_up_to.F.kp T.d_product_up_to.b .nil pass0 (pa_cons (pv 3) (pa_cons (pv 1) pa_nil)))) pss_nil) (pss_cons (ps_if (pt_cmpR (op_eqP (room64 hr)) (pv 2) pe_str (nomark _)) (pss_cons (ps_set (i := 4) sc_count_values.nd rfl (Or.inl rfl) (pe_call (ok_product_up_to T) (hr.mono (Nat.le_trans (by decide : 1 ≤ 3) (Nat.le_add_right 3 n))) (by rfl) T.d_product_up_to.g T.d_product_up_to.F.kp T.d_product_up_to.b .nil pass0 (pa_cons (pe_op op_mulA (pe_lst (pa_cons pe_int pa_nil)) (pe_ix ix_seq (pv 3) pe_int (fun _ _ => rfl))) (pa_cons (pv 1) pa_nil)))) pss_nil) (pss_cons (ps_set (i := 4) sc_count_values.nd rfl (Or.inl rfl) (pe_call (ok_product_up_to T) (hr.mono (Nat.le_trans (by decide : 1 ≤ 3) (Nat.le_add_right 3 n))) (by rfl) T.d_product_up_to.g T.d_product_up_to.F.kp T.d_product_up_to.b .nil pass0 (pa_cons (pe_op op_mulA (pe_lst (pa_cons (pe_op op_addA pe_int (pe_ix ix_seq (pv 3) pe_int (fun _ _ => rfl))) pa_nil)) (pe_ix ix_seq (pv 3) pe_int (fun _ _ => rfl))) (pa_cons (pv 1) pa_nil)))) pss_nil)) pss_nil)) pss_nil)) pss_nil)) (pss_cons (ps_ret (pe_ifExp (pt_cmpR op_le (pv 4) (pv 1) (nomark _)) (pv 4) pe_non)) pss_nil)))))), fun ds hl => match ds, hl with
          | [v_kind, v_most], _ => StG.eq ((st_asg (i := 2) (fun _ _ => rfl) (ev_op rr_ix (ev_var (i := 0) rfl) ev_int) (fun v_word => (st_if (et_cmp rc_in (ev_var (i := 2) rfl) (ev_tup (ea_cons ev_str (ea_cons ev_str ea_nil)))) (st_ret ev_non) (st_asg (i := 3) (fun _ _ => rfl) (ev_lcS1 (fun _ _ => rfl) (ev_callN (ea_cons (ev_var (i := 0) rfl) ea_nil)) rfl (fun v_inner => (ev_callN (ea_cons (ev_var (i := 5) rfl) (ea_cons (ev_var (i := 1) rfl) ea_nil))))) (fun v_counts => (st_if (et_cmp rc_in ev_non (ev_var (i := 3) rfl)) (st_ret ev_non) (st_ifj (S1 := PyData) (ρs := fun (x42 : PyData) => [.dat v_kind, .dat v_most, .dat v_word, .dat v_counts, .dat x42, .any]) (fun _ _ => rfl) (et_cmp rc_eq (ev_var (i := 2) rfl) ev_str) (st_asg (i := 4) (fun _ _ => rfl) (ev_op rr_ix (ev_var (i := 0) rfl) ev_int) (fun v_many => (st_nx (b := v_many) (s := v_many) rfl (.same _ (.same _ (.same _ (.same _ (.same _ (.same _ .nil))))))))) (st_ifj (S1 := PyData) (ρs := fun (x43 : PyData) => [.dat v_kind, .dat v_most, .dat v_word, .dat v_counts, .dat x43, .any]) (fun _ _ => rfl) (et_cmp rc_eq (ev_var (i := 2) rfl) ev_str) (st_asg (i := 4) (fun _ _ => rfl) (ev_cb1 rk_sum (ev_var (i := 3) rfl)) (fun v_many => (st_nx (b := v_many) (s := v_many) rfl (.same _ (.same _ (.same _ (.same _ (.same _ (.same _ .nil))))))))) (st_ifj (S1 := PyData) (ρs := fun (x44 : PyData) => [.dat v_kind, .dat v_most, .dat v_word, .dat v_counts, .dat x44, .any]) (fun _ _ => rfl) (et_cmp rc_eq (ev_var (i := 2) rfl) ev_str) (st_asg (i := 4) (fun _ _ => rfl) (ev_callN (ea_cons (ev_var (i := 3) rfl) (ea_cons (ev_var (i := 1) rfl) ea_nil))) (fun v_many => (st_nx (b := v_many) (s := v_many) rfl (.same _ (.same _ (.same _ (.same _ (.same _ (.same _ .nil))))))))) (st_ifj (S1 := PyData) (ρs := fun (x45 : PyData) => [.dat v_kind, .dat v_most, .dat v_word, .dat v_counts, .dat x45, .any]) (fun _ _ => rfl) (et_cmp rc_eq (ev_var (i := 2) rfl) ev_str) (st_asg (i := 4) (fun _ _ => rfl) (ev_callN (ea_cons (ev_op rr_mul (ev_lst (ea_cons ev_int ea_nil)) (ev_op rr_ix (ev_var (i := 3) rfl) ev_int)) (ea_cons (ev_var (i := 1) rfl) ea_nil))) (fun v_many => (st_nx (b := v_many) (s := v_many) rfl (.same _ (.same _ (.same _ (.same _ (.same _ (.same _ .nil))))))))) (st_asg (i := 4) (fun _ _ => rfl) (ev_callN (ea_cons (ev_op rr_mul (ev_lst (ea_cons (ev_op rr_add ev_int (ev_op rr_ix (ev_var (i := 3) rfl) ev_int)) ea_nil)) (ev_op rr_ix (ev_var (i := 3) rfl) ev_int)) (ea_cons (ev_var (i := 1) rfl) ea_nil))) (fun v_many => (st_nx (b := v_many) (s := v_many) rfl (.same _ (.same _ (.same _ (.same _ (.same _ (.same _ .nil))))))))) (fun x45 => (st_nx (b := x45) (s := x45) rfl (.same _ (.same _ (.same _ (.same _ (.same _ (.same _ .nil))))))))) (fun x44 => (st_nx (b := x44) (s := x44) rfl (.same _ (.same _ (.same _ (.same _ (.same _ (.same _ .nil))))))))) (fun x43 => (st_nx (b := x43) (s := x43) rfl (.same _ (.same _ (.same _ (.same _ (.same _ (.same _ .nil))))))))) (fun x42 => (st_ret (ev_if (et_cmp rc_le (ev_var (i := 4) rfl) (ev_var (i := 1) rfl)) (ev_var (i := 4) rfl) ev_non))))))))))) (by simp only [m_count_values, Tr.ret_bind, Tr.bind_assoc, asB_bool, asI_int, on1_one, on2g_two])⟩)
theorem ok_count_values (T : Txt w K mg) : FnOk P w K mg base CX0 11 T.d_count_values.f T.d_count_values.fd ["kind", "most"] (SpN K 2 (fun ds => match ds with | [v_kind, v_most] => m_count_values 8 v_kind v_most | _ => Tr.bad)) := (rk_count_values T 8)
theorem sc_few : FnScope ["kind", "most"] ["kind", "most"] (defScope s_few) := ⟨rfl, rfl, rfl, by decide +kernel, rfl, by decide +kernel, by decide +kernel⟩
theorem ok_few (T : Txt w K mg) : FnOk P w K mg base (Cgx.CT P w) 13 T.d_few.f T.d_few.fd ["kind", "most"] (SpP K T.cl 2 (fun ds => match ds with | [v_kind, v_most] => m_few v_kind v_most | _ => Tr.bad)) :=
  fn_raise (cl := T.cl) T.d_few.F sc_few (fun cdv A outer s H E hr => ⟨_, (pss_cons (ps_expr (pe_call (ok_check_kind T) (hr.mono (by decide)) (by rfl) T.d_check_kind.g T.d_check_kind.F.kp T.d_check_kind.b .nil (Cgx.lets_call (Cgx.lets_of rfl rfl rfl rfl) (fun _ _ _ _ h => h)) (pa_cons (pv 0) pa_nil))) (pss_cons (ps_ret (pe_call (ok_count_values T) (hr.mono (by decide)) (by rfl) T.d_count_values.g T.d_count_values.F.kp T.d_count_values.b .nil pass0 (pa_cons (pv 0) (pa_cons (pv 1) pa_nil)))) pss_nil)), fun ds hl => match ds, hl with
      | [v_kind, v_most], _ => StG.eq ((st_drop (fun _ _ => rfl) (ev_call (ea_cons (ev_var (i := 0) rfl) ea_nil)) (st_ret (ev_callX (ea_cons (ev_var (i := 0) rfl) (ea_cons (ev_var (i := 1) rfl) ea_nil)))))) (by simp only [m_few, Tr.ret_bind, Tr.bind_assoc, asB_bool, asI_int, on1_one, on2g_two, m_check_kind])⟩)
theorem sc_box : FnScope ["script", "x"] ["script"] (defScope s__law_box) := ⟨rfl, rfl, rfl, by decide +kernel, rfl, by decide +kernel, by decide +kernel⟩
theorem ok__law_box (T : Txt w K mg) : FnOk P w K mg base CX0 1 T.d__law_box.f T.d__law_box.fd ["script"] (SpMk K) := by
  refine T.d__law_box.F.ok sc_box (fun vs H Q E h => ?_) fun cdv A outer s H vs Q E hr h => ?_
  · obtain ⟨v, ns, G, rfl, _⟩ := h
    rfl
  · obtain ⟨v, ns, G, rfl, r, e, h⟩ := h
    refine ⟨_, pss_one (ps_ret (pe_lst (pa_cons pe_int (pa_cons pe_int (pa_cons pe_int (pa_cons
      (pe_lc (own := [("x", 1)]) (g := gName 1) (tt := tYes) rfl sc_box.nd (pi_seq (pv 0)) (blkOk_by (N := ["script", "x"]) (sc := defScope s__law_box) (by decide +kernel)) (fun _ _ _ _ _ => pg_name (i := 1) sc_box.nd rfl (Or.inl rfl)) (fun _ _ _ _ _ => pts_nil)
        (fun _ _ _ _ _ => pe_callB call_abs (by rfl) T.z_abs (by decide +kernel) (pa_cons (pe_callTy call_int1 (by rfl) T.z_int (by decide +kernel) (pa_cons (pv 1) pa_nil)) pa_nil)))
      pa_nil)))))), ?_⟩
    have S : Sta K G H [.dat (.list (ns.map PyData.int)), .any] (L2.start ["script", "x"] [v]) := sta_start (N := ["script", "x"]) (ds := [.list (ns.map PyData.int)]) (.cons r .nil) e (by show 1 ≤ 2; decide)
    have ev := ev_lcS1 (K := K) (cl := fun _ => 0) (E := fun _ => none) (ρ := [.dat (.list (ns.map PyData.int)), .any]) (i := 1) (fun _ _ => rfl) (ev_var (i := 0) rfl) rfl (fun d => ev_cb1 rk_abs (ev_cb1 rk_int (ev_var (i := 1) rfl)))
    refine (show tLc (iSeq K (tVar 0)) (gName 1) tYes (tCB _ (tCons (tCB _ (tCons (tVar 1) tNil)) tNil)) [1] (L2.start ["script", "x"] [v]) H (fun x H1 => ([V.int 0, V.int 0, V.int 0, x] : List V).length ≤ sizeLine ∧ ∀ p, H1 p = none → Q (.ref p) (upd H1 p (.lst [V.int 0, V.int 0, V.int 0, x]))) from ?_)
    refine ev G H _ S _ ?_
    have em : mapT (fun d => ((Tr.ret d).bind dInt).bind dAbs) (ns.map PyData.int) = .ret ((ns.map fun i => if i < 0 then -i else i).map PyData.int) := mapT_ints (g := fun i => if i < 0 then -i else i) (fun i => rfl) ns
    show ((mapT (fun d => ((Tr.ret d).bind dInt).bind dAbs) (ns.map PyData.int)).bind fun ys => Tr.ret (PyData.list ys)).wp _ _
    rw [em]
    intro x G1 H1 g1 S1 rx
    have no : ∀ a, Owns [.dat (.list (ns.map PyData.int)), .any] (L2.start ["script", "x"] [v]) a → False := fun a z => owns_start (n := 2) (ds := [.list (ns.map PyData.int)]) z
    have g1' : Gr (fun _ => False) G H G1 H1 := g1.less fun a z => no a z
    cases rx with
    | @lst c xs ds hs hl ha =>
      have exs := ha.ints
      subst exs
      refine ⟨by show 4 ≤ sizeLine; decide, fun p hp => ?_⟩
      have hHp : H p = none := by
        cases q : H p with
        | none => rfl
        | some o =>
          rw [g1'.fr p o id q] at hp
          cases hp
      refine h p G1 _ (g1'.trans' ⟨Ex.refl _, fun _ _ _ h => h, fun a o _ ha => by rw [upd_ne (ne_of_none ha hp)]; exact ha, fun a hn => by rw [upd_ne (fun z => hn (by rw [z]; exact hp))]; exact hn⟩) (fun a o ha => ?_) hHp ⟨S1.sub.back hp, 0, 0, 0, c, _, upd_same, hs, Int.le_refl 0⟩
      rw [upd_ne (ne_of_none (S1.sub a o ha) hp)]
      exact S1.sub a o ha
/-! ### the box's own defs -/
theorem sc_take : FnScope ["box", "m", "at", "cell", "told"] ["box", "m"] (defScope s__law_take) := ⟨rfl, rfl, rfl, by decide +kernel, rfl, by decide +kernel, by decide +kernel⟩
theorem ok__law_take (T : Txt w K mg) : FnOk P w K mg base CX0 1 T.d__law_take.f T.d__law_take.fd ["box", "m"] (SpB K 1 (on1 takeT)) := by
  refine T.d__law_take.F.ok sc_take (fun vs H Q E h => h.len) fun cdv A outer s H vs Q E hr h => ?_
  obtain ⟨b, ws, ds, G, rfl, ⟨gb, cell, k, at0, c, ns, hb, hc, h0⟩, r, hl, e, h⟩ := h
  match ds, hl with
  | [d], _ =>
  cases r with
  | cons r rt =>
  cases rt
  cases r with
  | int m =>
    have h' : (if 1 ≤ m ∧ m < 1073741824 then Tr.draw m.toNat fun i => Tr.ret (PyData.int (i : Int)) else .bad).wp (fun d => ∀ v G' H', Gr (fun a => a = b) G H G' H' → Ex G' H' → BoxOk K G' H' b → Rp K G' v d → Q v H') (fun _ => False) := h
    split at h'
    · rename_i hm
      have ex : ∀ o, Ex G (upd H b o) := fun o a u ha => by
        rw [upd_ne (fun z => by rw [z, gb] at ha; cases ha)]
        exact e a u ha
      have sq : ∀ o, SqL K (upd H b o) c (ns.map V.int) := fun o => (ex o).l hc
      have fin : ∀ (t x y z : Int), 0 ≤ t → t < m → 0 ≤ z → Q (.int t) (upd H b (.lst [.int x, .int y, .int z, .ref c])) := fun t x y z h1 h2 h3 => by
        have q := h' t.toNat (by omega) (.int t) G (upd H b (.lst [.int x, .int y, .int z, .ref c])) ⟨Ex.refl G, fun _ _ _ h => h, fun a o na ha => by rw [upd_ne na]; exact ha, fun a hn => by
          by_cases ea : a = b
          · rw [ea, upd_same]; exact fun z => nomatch z
          · rw [upd_ne ea]; exact hn⟩ (ex _) ⟨gb, x, y, z, c, ns, upd_same, hc, h3⟩ (by
            have e1 : ((t.toNat : Nat) : Int) = t := by omega
            rw [e1]
            exact .int t)
        exact q
      have modlt : ∀ x : Int, 0 ≤ x % m ∧ x % m < m := fun x => ⟨Int.emod_nonneg x (by omega), Int.emod_lt_of_pos x (by omega)⟩
      -- behind the first if
      obtain ⟨tt, htt, rt⟩ : ∃ tt, PSs (cxOf CX0 P w K mg base ["box", "m", "at", "cell", "told"] "_law_take" (defScope s__law_take) T.d__law_take.f cdv A outer s H E).nox (defBody s__law_take).tail tt ∧
          ∀ (x y z : Int) (s2 s3 s4 : Option V), 0 ≤ z → tt { nx := fun _ H' => Q .non H', rt := Q } [some (.ref b), some (.int m), s2, s3, s4] (upd H b (.lst [.int x, .int y, .int z, .ref c])) := by
        refine ⟨_, pss_cons (ps_if (pt_cmpR op_gt (pe_ix ix_list (pv 0) pe_int (fun _ _ => rfl)) pe_int (nomark _))
            (pss_cons (ps_set (i := 4) sc_take.nd rfl (Or.inl rfl) (pe_op op_mod (pe_callTy call_int1 (by rfl) T.z_int (by decide +kernel) (pa_cons (pe_ix ix_list (pv 0) pe_int (fun _ _ => rfl)) pa_nil)) (pv 1)))
            (pss_cons (ps_asg (pe_op op_fdiv (pe_ix ix_list (pv 0) pe_int (fun _ _ => rfl)) (pv 1)) (pg_sub (pv 0) pe_int set_list))
            (pss_cons (ps_asg (pe_ifExp (pt_cmpR op_gt (pe_ix ix_list (pv 0) pe_int (fun _ _ => rfl)) pe_int (nomark _)) (pe_op op_sub (pe_ix ix_list (pv 0) pe_int (fun _ _ => rfl)) pe_int) pe_int) (pg_sub (pv 0) pe_int set_list))
            (pss_one (ps_ret (pv 4)))))) pss_nil)
          (pss_cons (ps_asg (pe_op op_add (pe_ix ix_list (pv 0) pe_int (fun _ _ => rfl)) pe_int) (pg_sub (pv 0) pe_int set_list))
          (pss_cons (ps_asg (pe_op op_mod (pe_callTy call_int1 (by rfl) T.z_int (by decide +kernel) (pa_cons (pe_op op_add (pe_op op_mul (pe_ix ix_list (pv 0) pe_int (fun _ _ => rfl)) pe_int) (pe_op op_mul pe_int (pe_op op_add (pe_ix ix_list (pv 0) pe_int (fun _ _ => rfl)) pe_int))) pa_nil)) pe_int) (pg_sub (pv 0) pe_int set_list))
          (pss_one (ps_ret (pe_op op_mod (pe_op op_mod (pe_callTy call_int1 (by rfl) T.z_int (by decide +kernel) (pa_cons (pe_op op_add (pe_op op_fdiv (pe_ix ix_list (pv 0) pe_int (fun _ _ => rfl)) pe_int) (pe_ix ix_list (pv 0) pe_int (fun _ _ => rfl))) pa_nil)) pe_int) (pv 1)))))), fun x y z s2 s3 s4 hz => ?_⟩
        refine ⟨.ref b, rfl, b, _, 1, _, rfl, rfl, SqL.of upd_same, rfl, y, 0, rfl, rfl, _, rfl, ite2 (fun c1 => ?_) (fun c1 => ?_)⟩
        · refine ⟨.ref b, rfl, b, _, 0, _, rfl, rfl, SqL.of upd_same, rfl, .inl ⟨x, rfl, .int m, rfl, x, m, rfl, rfl, by show (0 : Int) < m; omega, ?_⟩⟩
          refine ⟨.ref b, rfl, b, _, 0, _, rfl, rfl, SqL.of upd_same, rfl, .int m, rfl, x, m, rfl, rfl, ⟨by omega, by omega⟩, .ref b, rfl, b, _, 0, 0, rfl, rfl, upd_same, rfl, ?_⟩
          rw [upd_upd]
          refine ⟨.ref b, rfl, b, _, 0, _, rfl, rfl, SqL.of upd_same, rfl, x / m, 0, rfl, rfl, _, rfl, ite2 (fun c2 => ?_) (fun c2 => ?_)⟩
          · refine ⟨.ref b, rfl, b, _, 1, _, rfl, rfl, SqL.of upd_same, rfl, y, 1, rfl, rfl, .ref b, rfl, b, _, 1, 1, rfl, rfl, upd_same, rfl, ?_⟩
            rw [upd_upd]
            exact ⟨.int (x % m), rfl, fin _ _ _ _ (modlt x).1 (modlt x).2 hz⟩
          · refine ⟨.ref b, rfl, b, _, 1, 1, rfl, rfl, upd_same, rfl, ?_⟩
            rw [upd_upd]
            exact ⟨.int (x % m), rfl, fin _ _ _ _ (modlt x).1 (modlt x).2 hz⟩
        · refine ⟨.ref b, rfl, b, _, 1, _, rfl, rfl, SqL.of upd_same, rfl, y, 1, rfl, rfl, .ref b, rfl, b, _, 1, 1, rfl, rfl, upd_same, rfl, ?_⟩
          rw [upd_upd]
          refine ⟨.ref b, rfl, b, _, 0, _, rfl, rfl, SqL.of upd_same, rfl, x, 48271, rfl, rfl, .inr ⟨by decide, by decide⟩, .ref b, rfl, b, _, 1, _, rfl, rfl, SqL.of upd_same, rfl, y + 1, 20, rfl, rfl, 69621, _, rfl, rfl, .inl ⟨by decide, by decide⟩, _, _, rfl, rfl, .inl ⟨_, rfl, _, 2147483647, rfl, rfl, by show (0 : Int) < 2147483647; decide, ?_⟩⟩
          refine ⟨.ref b, rfl, b, _, 0, 0, rfl, rfl, upd_same, rfl, ?_⟩
          rw [upd_upd]
          refine ⟨.ref b, rfl, b, _, 0, _, rfl, rfl, SqL.of upd_same, rfl, _, 7, rfl, rfl, ⟨by decide, by decide⟩, .ref b, rfl, b, _, 0, _, rfl, rfl, SqL.of upd_same, rfl, _, _, rfl, rfl, .inl ⟨_, rfl, _, 1000003, rfl, rfl, by show (0 : Int) < 1000003; decide, .int m, rfl, _, m, rfl, rfl, by show (0 : Int) < m; omega, ?_⟩⟩
          exact fin _ _ _ _ (modlt _).1 (modlt _).2 hz
      have hH : upd H b (.lst [.int cell, .int k, .int at0, .ref c]) = H := by
        funext a
        by_cases ea : a = b
        · rw [ea, upd_same, hb]
        · rw [upd_ne ea]
      refine ⟨_, pss_cons (ps_if (pt_cmpR op_eq (pe_ix ix_list (pv 0) pe_int (fun _ _ => rfl)) pe_int (nomark _))
          (pss_cons (ps_set (i := 2) sc_take.nd rfl (Or.inl rfl) (pe_ix ix_list (pv 0) pe_int (fun _ _ => rfl)))
          (pss_cons (ps_set (i := 3) sc_take.nd rfl (Or.inl rfl) pe_int)
          (pss_cons (ps_if (pt_cmpR op_lt (pv 2) (pe_callB call_len_seq (by rfl) T.z_len PySem.boot_len (pa_cons (pe_ix ix_list (pv 0) pe_int (fun _ _ => rfl)) pa_nil)) (nomark _))
              (pss_cons (ps_set (i := 3) sc_take.nd rfl (Or.inl rfl) (pe_ix ix_list (pe_ix ix_list (pv 0) pe_int (fun _ _ => rfl)) (pv 2) (fun _ _ => rfl)))
              (pss_cons (ps_asg (pe_ifExp (pt_cmpR op_ge (pv 3) (pe_op op_pow pe_int pe_int) (nomark _)) pe_int (pe_un un_neg pe_int)) (pg_sub (pv 0) pe_int set_list)) pss_nil)) pss_nil)
          (pss_cons (ps_asg (pe_op op_add (pv 2) pe_int) (pg_sub (pv 0) pe_int set_list))
          (pss_cons (ps_asg (pv 3) (pg_sub (pv 0) pe_int set_list))
          (pss_cons (ps_if (pt_cmpR op_eq (pe_ix ix_list (pv 0) pe_int (fun _ _ => rfl)) pe_int (nomark _)) (pss_one (ps_ret pe_int)) pss_nil) pss_nil)))))) pss_nil) htt, ?_⟩
      refine ⟨.ref b, rfl, b, _, 1, _, rfl, rfl, SqL.of hb, rfl, rfl, _, rfl, ite2 (fun c1 => ?_) (fun c1 => hH ▸ rt cell k at0 none none none h0)⟩
      -- the last three statements of the branch
      have last : ∀ (x y : Int) (cl2 : Int), (tSeq (tAsg (tOp (rI0 fun i j => .int (i + j)) (tVar 2) (tC (.int 1))) (gSub (tVar 0) (tC (.int 2)) rSetL))
          (tSeq (tAsg (tVar 3) (gSub (tVar 0) (tC (.int 0)) rSetL))
          (tSeq (tIfS (tTest (tOp rEq (tOp (rIxL K) (tVar 0) (tC (.int 1))) (tC (.int 0)))) (tRet (tC (.int 0))) tNext) tNext)))
          { nx := tt { nx := fun _ H' => Q .non H', rt := Q }, rt := Q } [some (.ref b), some (.int m), some (.int at0), some (.int cl2), none] (upd H b (.lst [.int x, .int y, .int at0, .ref c])) := fun x y cl2 => by
        refine ⟨.int at0, rfl, at0, 1, rfl, rfl, .ref b, rfl, b, _, 2, 2, rfl, rfl, upd_same, rfl, ?_⟩
        rw [upd_upd]
        refine ⟨.int cl2, rfl, .ref b, rfl, b, _, 0, 0, rfl, rfl, upd_same, rfl, ?_⟩
        rw [upd_upd]
        refine ⟨.ref b, rfl, b, _, 1, _, rfl, rfl, SqL.of upd_same, rfl, rfl, _, rfl, ite2 (fun c3 => ?_) (fun c3 => rt _ _ _ _ _ _ (by omega))⟩
        exact fin 0 _ _ _ (by omega) (by omega) (by omega)
      have sqH : SqL K H c (ns.map V.int) := e.l hc
      refine ⟨.ref b, rfl, b, _, 2, _, rfl, rfl, SqL.of hb, rfl, ?_⟩
      refine ⟨.int at0, rfl, .ref b, rfl, b, _, 3, _, rfl, rfl, SqL.of hb, rfl, c, _, rfl, .inl sqH, at0, _, rfl, rfl, _, rfl, ite2 (fun c2 => ?_) (fun c2 => hH ▸ last cell k 0)⟩
      have c2' : at0 < ((ns.map V.int).length : Int) := of_decide_eq_true c2
      rw [List.length_map] at c2'
      obtain ⟨j, ej⟩ : ∃ j : Nat, at0 = (j : Int) := ⟨at0.toNat, by omega⟩
      have hget : atI (ns.map V.int) at0 = some (.int (ns.getD j 0)) := by
        rw [ej]
        refine atI_nat ?_
        have hj : j < ns.length := by omega
        rw [List.getElem?_map, List.getElem?_eq_getElem hj, List.getD_eq_getElem?_getD, List.getElem?_eq_getElem hj]
        rfl
      refine ⟨.ref b, rfl, b, _, 3, _, rfl, rfl, SqL.of hb, rfl, .int at0, rfl, c, _, at0, _, rfl, rfl, sqH, hget, ?_⟩
      refine ⟨_, rfl, 10, 18, rfl, rfl, ⟨by decide, by decide, by decide⟩, _, _, rfl, rfl, _, rfl, ite2 (fun c3 => ?_) (fun c3 => ?_)⟩
      · exact ⟨.ref b, rfl, b, _, 1, 1, rfl, rfl, hb, rfl, last _ _ _⟩
      · exact ⟨9, rfl, .ref b, rfl, b, _, 1, 1, rfl, rfl, hb, rfl, last _ _ _⟩
    · exact h'.elim
  | _ => exact (h : False).elim
theorem sc__law_pick : FnScope ["box", "menu"] ["box", "menu"] (defScope s__law_pick) := ⟨rfl, rfl, rfl, by decide +kernel, rfl, by decide +kernel, by decide +kernel⟩
theorem ok__law_pick (T : Txt w K mg) : FnOk P w K mg base CX0 2 T.d__law_pick.f T.d__law_pick.fd ["box", "menu"] (SpB K 1 (fun ds => match ds with | [v_menu] => m__law_pick v_menu | _ => Tr.bad)) :=
  fn_box (cl := T.cl) T.d__law_pick.F sc__law_pick rfl (fun cdv A outer s H E hr => ⟨_, (pss_cons (ps_ret (pe_ix ix_seq (pv 1) (pe_call (ok__law_take T) (hr.mono (by decide)) (by rfl) T.d__law_take.g T.d__law_take.F.kp T.d__law_take.b .nil pass0 (pa_cons (pv 0) (pa_cons (pe_callB call_len_seq (by rfl) T.z_len (by decide +kernel) (pa_cons (pv 1) pa_nil)) pa_nil))) (fun _ _ => rfl))) pss_nil), fun ds hl => match ds, hl with
      | [v_menu], _ => StG.eq ((st_ret (ev_op rr_ix (ev_var (i := 1) rfl) (ev_callB (i := 0) rfl (ea_cons (ev_cb1 rk_len (ev_var (i := 1) rfl)) ea_nil))))) (by simp only [m__law_pick, Tr.ret_bind, Tr.bind_assoc, asB_bool, asI_int, on1_one, on2g_two])⟩)
theorem sc__law_kind : FnScope ["box", "deep", "sort", "k"] ["box", "deep"] (defScope s__law_kind) := ⟨rfl, rfl, rfl, by decide +kernel, rfl, by decide +kernel, by decide +kernel⟩
theorem rk__law_kind (T : Txt w K mg) : ∀ n : Nat, (FnOk P w K mg base CX0 (2 + n) T.d__law_kind.f T.d__law_kind.fd ["box", "deep"] (SpB K 1 (fun ds => match ds with | [v_deep] => m__law_kind n v_deep | _ => Tr.bad)))
  | 0 => fn_never (spB_bad fun ds hl => match ds, hl with | [v_deep], _ => by simp only [m__law_kind])
  | n + 1 => by
    have ih := rk__law_kind T n
    have ih__law_kind := ih
    exact fn_box (cl := T.cl) T.d__law_kind.F sc__law_kind rfl (fun cdv A outer s H E hr => ⟨_, (pss_cons (ps_set (i := 2) sc__law_kind.nd rfl (Or.inl rfl) (pe_call (ok__law_take T) (hr.mono (Nat.le_trans (by decide : 1 ≤ 2) (Nat.le_add_right 2 n))) (by rfl) T.d__law_take.g T.d__law_take.F.kp T.d__law_take.b .nil pass0 (pa_cons (pv 0) (pa_cons pe_int pa_nil)))) (pss_cons (ps_if (PW.pt (pw_or (pt_cmpR op_le (pv 1) pe_int (nomark _)) (pw_or1 (pt_cmpR op_lt (pv 2) pe_int (nomark _))))) (pss_cons (ps_ret (pe_tup (pa_cons pe_str (pa_cons (pe_call (ok__law_pick T) (hr.mono (Nat.le_trans (by decide : 2 ≤ 2) (Nat.le_add_right 2 n))) (by rfl) T.d__law_pick.g T.d__law_pick.F.kp T.d__law_pick.b .nil pass0 (pa_cons (pv 0) (pa_cons (pe_lst (pa_cons pe_int (pa_cons pe_int (pa_cons pe_int (pa_cons pe_int (pa_cons pe_int (pa_cons pe_int (pa_cons (pe_op op_addA pe_int (pe_call (ok__law_take T) (hr.mono (Nat.le_trans (by decide : 1 ≤ 2) (Nat.le_add_right 2 n))) (by rfl) T.d__law_take.g T.d__law_take.F.kp T.d__law_take.b .nil pass0 (pa_cons (pv 0) (pa_cons pe_int pa_nil)))) pa_nil)))))))) pa_nil))) pa_nil)))) pss_nil) pss_nil) (pss_cons (ps_if (pt_cmpR op_lt (pv 2) pe_int (nomark _)) (pss_cons (ps_ret (pe_tup (pa_cons pe_str (pa_cons (pe_callTy call_tuple_of (by rfl) T.z_tuple (by decide +kernel) (pa_cons (pe_lc (own := [("k", 3)]) rfl sc__law_kind.nd (pi_range1 (by rfl) T.z_range (pa_cons (pe_call (ok__law_pick T) (hr.mono (Nat.le_trans (by decide : 2 ≤ 2) (Nat.le_add_right 2 n))) (by rfl) T.d__law_pick.g T.d__law_pick.F.kp T.d__law_pick.b .nil pass0 (pa_cons (pv 0) (pa_cons (pe_lst (pa_cons pe_int (pa_cons pe_int (pa_cons pe_int (pa_cons pe_int (pa_cons pe_int pa_nil)))))) pa_nil))) pa_nil)) (blkOk_by (N := ["box", "deep", "sort", "k"]) (sc := defScope s__law_kind) (by decide +kernel)) (fun _ _ _ _ _ => pg_name (i := 3) sc__law_kind.nd rfl (Or.inl rfl)) (fun _ _ _ _ _ => pts_nil) (fun _ _ _ _ _ => (pe_call ih__law_kind (hr.mono (Nat.le_refl _)) (by rfl) T.d__law_kind.g T.d__law_kind.F.kp T.d__law_kind.b .nil pass0 (pa_cons (pv 0) (pa_cons (pe_op op_sub (pv 1) pe_int) pa_nil))))) pa_nil)) pa_nil)))) pss_nil) pss_nil) (pss_cons (ps_if (pt_cmpR (op_eqP (room64 hr)) (pv 2) pe_int (nomark _)) (pss_cons (ps_ret (pe_tup (pa_cons pe_str (pa_cons (pe_callTy call_tuple_of (by rfl) T.z_tuple (by decide +kernel) (pa_cons (pe_lc (own := [("k", 3)]) rfl sc__law_kind.nd (pi_range1 (by rfl) T.z_range (pa_cons (pe_call (ok__law_pick T) (hr.mono (Nat.le_trans (by decide : 2 ≤ 2) (Nat.le_add_right 2 n))) (by rfl) T.d__law_pick.g T.d__law_pick.F.kp T.d__law_pick.b .nil pass0 (pa_cons (pv 0) (pa_cons (pe_lst (pa_cons pe_int (pa_cons pe_int (pa_cons pe_int (pa_cons pe_int pa_nil))))) pa_nil))) pa_nil)) (blkOk_by (N := ["box", "deep", "sort", "k"]) (sc := defScope s__law_kind) (by decide +kernel)) (fun _ _ _ _ _ => pg_name (i := 3) sc__law_kind.nd rfl (Or.inl rfl)) (fun _ _ _ _ _ => pts_nil) (fun _ _ _ _ _ => (pe_call ih__law_kind (hr.mono (Nat.le_refl _)) (by rfl) T.d__law_kind.g T.d__law_kind.F.kp T.d__law_kind.b .nil pass0 (pa_cons (pv 0) (pa_cons (pe_op op_sub (pv 1) pe_int) pa_nil))))) pa_nil)) pa_nil)))) pss_nil) pss_nil) (pss_cons (ps_if (pt_cmpR op_lt (pv 2) pe_int (nomark _)) (pss_cons (ps_ret (pe_tup (pa_cons pe_str (pa_cons (pe_call ih__law_kind (hr.mono (Nat.le_refl _)) (by rfl) T.d__law_kind.g T.d__law_kind.F.kp T.d__law_kind.b .nil pass0 (pa_cons (pv 0) (pa_cons (pe_op op_sub (pv 1) pe_int) pa_nil))) pa_nil)))) pss_nil) pss_nil) (pss_cons (ps_if (pt_cmpR op_lt (pv 2) pe_int (nomark _)) (pss_cons (ps_ret (pe_tup (pa_cons (pe_call (ok__law_pick T) (hr.mono (Nat.le_trans (by decide : 2 ≤ 2) (Nat.le_add_right 2 n))) (by rfl) T.d__law_pick.g T.d__law_pick.F.kp T.d__law_pick.b .nil pass0 (pa_cons (pv 0) (pa_cons (pe_lst (pa_cons pe_str (pa_cons pe_str pa_nil))) pa_nil))) (pa_cons (pe_call ih__law_kind (hr.mono (Nat.le_refl _)) (by rfl) T.d__law_kind.g T.d__law_kind.F.kp T.d__law_kind.b .nil pass0 (pa_cons (pv 0) (pa_cons (pe_op op_sub (pv 1) pe_int) pa_nil))) pa_nil)))) pss_nil) pss_nil) (pss_cons (ps_ret (pe_tup (pa_cons pe_str (pa_cons (pe_call ih__law_kind (hr.mono (Nat.le_refl _)) (by rfl) T.d__law_kind.g T.d__law_kind.F.kp T.d__law_kind.b .nil pass0 (pa_cons (pv 0) (pa_cons (pe_op op_sub (pv 1) pe_int) pa_nil))) (pa_cons (pe_call ih__law_kind (hr.mono (Nat.le_refl _)) (by rfl) T.d__law_kind.g T.d__law_kind.F.kp T.d__law_kind.b .nil pass0 (pa_cons (pv 0) (pa_cons (pe_op op_sub (pv 1) pe_int) pa_nil))) pa_nil))))) pss_nil))))))), fun ds hl => match ds, hl with
          | [v_deep], _ => StG.eq ((st_asg (i := 2) (fun _ _ => rfl) (ev_callB (i := 0) rfl (ea_cons ev_int ea_nil)) (fun v_sort => (st_if (et_or (et_cmp rc_le (ev_var (i := 1) rfl) ev_int) (et_cmp rc_lt (ev_var (i := 2) rfl) ev_int)) (st_ret (ev_tup (ea_cons ev_str (ea_cons (ev_callB (i := 0) rfl (ea_cons (ev_lst (ea_cons ev_int (ea_cons ev_int (ea_cons ev_int (ea_cons ev_int (ea_cons ev_int (ea_cons ev_int (ea_cons (ev_op rr_add ev_int (ev_callB (i := 0) rfl (ea_cons ev_int ea_nil))) ea_nil)))))))) ea_nil)) ea_nil)))) (st_if (et_cmp rc_lt (ev_var (i := 2) rfl) ev_int) (st_ret (ev_tup (ea_cons ev_str (ea_cons (ev_cb1 rk_tuple (ev_lcR1n (fun _ _ => rfl) (ev_callB (i := 0) rfl (ea_cons (ev_lst (ea_cons ev_int (ea_cons ev_int (ea_cons ev_int (ea_cons ev_int (ea_cons ev_int ea_nil)))))) ea_nil)) rfl (fun v_k => (ev_callB (i := 0) rfl (ea_cons (ev_op rr_sub (ev_var (i := 1) rfl) ev_int) ea_nil))))) ea_nil)))) (st_if (et_cmp rc_eq (ev_var (i := 2) rfl) ev_int) (st_ret (ev_tup (ea_cons ev_str (ea_cons (ev_cb1 rk_tuple (ev_lcR1n (fun _ _ => rfl) (ev_callB (i := 0) rfl (ea_cons (ev_lst (ea_cons ev_int (ea_cons ev_int (ea_cons ev_int (ea_cons ev_int ea_nil))))) ea_nil)) rfl (fun v_k => (ev_callB (i := 0) rfl (ea_cons (ev_op rr_sub (ev_var (i := 1) rfl) ev_int) ea_nil))))) ea_nil)))) (st_if (et_cmp rc_lt (ev_var (i := 2) rfl) ev_int) (st_ret (ev_tup (ea_cons ev_str (ea_cons (ev_callB (i := 0) rfl (ea_cons (ev_op rr_sub (ev_var (i := 1) rfl) ev_int) ea_nil)) ea_nil)))) (st_if (et_cmp rc_lt (ev_var (i := 2) rfl) ev_int) (st_ret (ev_tup (ea_cons (ev_callB (i := 0) rfl (ea_cons (ev_lst (ea_cons ev_str (ea_cons ev_str ea_nil))) ea_nil)) (ea_cons (ev_callB (i := 0) rfl (ea_cons (ev_op rr_sub (ev_var (i := 1) rfl) ev_int) ea_nil)) ea_nil)))) (st_ret (ev_tup (ea_cons ev_str (ea_cons (ev_callB (i := 0) rfl (ea_cons (ev_op rr_sub (ev_var (i := 1) rfl) ev_int) ea_nil)) (ea_cons (ev_callB (i := 0) rfl (ea_cons (ev_op rr_sub (ev_var (i := 1) rfl) ev_int) ea_nil)) ea_nil))))))))))))) (by simp only [m__law_kind, Tr.ret_bind, Tr.bind_assoc, asB_bool, asI_int, on1_one, on2g_two])⟩)
theorem ok__law_kind (T : Txt w K mg) : FnOk P w K mg base CX0 10 T.d__law_kind.f T.d__law_kind.fd ["box", "deep"] (SpB K 1 (fun ds => match ds with | [v_deep] => m__law_kind 8 v_deep | _ => Tr.bad)) := (rk__law_kind T 8)
theorem sc__law_inner : FnScope ["kind"] ["kind"] (defScope s__law_inner) := ⟨rfl, rfl, rfl, by decide +kernel, rfl, by decide +kernel, by decide +kernel⟩
theorem ok__law_inner (T : Txt w K mg) : FnOk P w K mg base CX0 1 T.d__law_inner.f T.d__law_inner.fd ["kind"] (SpN K 1 (fun ds => match ds with | [v_kind] => m__law_inner v_kind | _ => Tr.bad)) :=
  fn_pure (cl := T.cl) T.d__law_inner.F sc__law_inner (fun cdv A outer s H E hr => ⟨_, (pss_cons (ps_if (pt_cmpR (op_inP (room65 hr)) (pe_ix ix_seq (pv 0) pe_int (fun _ _ => rfl)) (pe_tup (pa_cons pe_str (pa_cons pe_str pa_nil))) rfl) (pss_cons (ps_ret (pe_callTy call_list_of (by rfl) T.z_list (by decide +kernel) (pa_cons (pe_ix ix_seq (pv 0) pe_int (fun _ _ => rfl)) pa_nil))) pss_nil) pss_nil) (pss_cons (ps_ret (pe_ifExp (pt_cmpR (op_neP (room64 hr)) (pe_ix ix_seq (pv 0) pe_int (fun _ _ => rfl)) pe_str (nomark _)) (pe_callTy call_list_of (by rfl) T.z_list (by decide +kernel) (pa_cons (pe_slice sl_P (pv 0) (po_some pe_int) po_none) pa_nil)) (pe_lst pa_nil))) pss_nil)), fun ds hl => match ds, hl with
      | [v_kind], _ => StG.eq ((st_if (et_cmp rc_in (ev_op rr_ix (ev_var (i := 0) rfl) ev_int) (ev_tup (ea_cons ev_str (ea_cons ev_str ea_nil)))) (st_ret (ev_cb1 rk_list (ev_op rr_ix (ev_var (i := 0) rfl) ev_int))) (st_ret (ev_if (et_cmp rc_ne (ev_op rr_ix (ev_var (i := 0) rfl) ev_int) ev_str) (ev_cb1 rk_list (ev_sl rs_P (ev_var (i := 0) rfl) (eo_some ev_int) eo_none)) (ev_lst ea_nil))))) (by simp only [m__law_inner, Tr.ret_bind, Tr.bind_assoc, asB_bool, asI_int, on1_one, on2g_two])⟩)
theorem sc__law_many : FnScope ["kind", "one"] ["kind"] (defScope s__law_many) := ⟨rfl, rfl, rfl, by decide +kernel, rfl, by decide +kernel, by decide +kernel⟩
theorem rk__law_many (T : Txt w K mg) : ∀ n : Nat, (FnOk P w K mg base CX0 (1 + n) T.d__law_many.f T.d__law_many.fd ["kind"] (SpN K 1 (fun ds => match ds with | [v_kind] => m__law_many n v_kind | _ => Tr.bad)))
  | 0 => fn_never (spN_bad fun ds hl => match ds, hl with | [v_kind], _ => by simp only [m__law_many])
  | n + 1 => by
    have ih := rk__law_many T n
    have ih__law_many := ih
    exact fn_pure (cl := T.cl) T.d__law_many.F sc__law_many (fun cdv A outer s H E hr => ⟨_, (pss_cons (ps_ret (pe_op op_addA pe_int (pe_callB (cr_sum rfl) (by rfl) T.z_sum (by decide +kernel) (pa_cons (pe_lc (own := [("one", 1)]) rfl sc__law_many.nd (pi_seq (pe_call (ok__law_inner T) (hr.mono (Nat.le_trans (by decide : 1 ≤ 1) (Nat.le_add_right 1 n))) (by rfl) T.d__law_inner.g T.d__law_inner.F.kp T.d__law_inner.b .nil pass0 (pa_cons (pv 0) pa_nil))) (blkOk_by (N := ["kind", "one"]) (sc := defScope s__law_many) (by decide +kernel)) (fun _ _ _ _ _ => pg_name (i := 1) sc__law_many.nd rfl (Or.inl rfl)) (fun _ _ _ _ _ => pts_nil) (fun _ _ _ _ _ => (pe_call ih__law_many (hr.mono (Nat.le_refl _)) (by rfl) T.d__law_many.g T.d__law_many.F.kp T.d__law_many.b .nil pass0 (pa_cons (pv 1) pa_nil)))) pa_nil)))) pss_nil), fun ds hl => match ds, hl with
          | [v_kind], _ => StG.eq ((st_ret (ev_op rr_add ev_int (ev_cb1 rk_sum (ev_lcS1 (fun _ _ => rfl) (ev_callN (ea_cons (ev_var (i := 0) rfl) ea_nil)) rfl (fun v_one => (ev_callN (ea_cons (ev_var (i := 1) rfl) ea_nil)))))))) (by simp only [m__law_many, Tr.ret_bind, Tr.bind_assoc, asB_bool, asI_int, on1_one, on2g_two])⟩)
theorem ok__law_many (T : Txt w K mg) : FnOk P w K mg base CX0 13 T.d__law_many.f T.d__law_many.fd ["kind"] (SpN K 1 (fun ds => match ds with | [v_kind] => m__law_many 12 v_kind | _ => Tr.bad)) := (rk__law_many T 12)
theorem sc__law_some_kind : FnScope ["box", "kind"] ["box"] (defScope s__law_some_kind) := ⟨rfl, rfl, rfl, by decide +kernel, rfl, by decide +kernel, by decide +kernel⟩
theorem ok__law_some_kind (T : Txt w K mg) : FnOk P w K mg base CX0 14 T.d__law_some_kind.f T.d__law_some_kind.fd ["box"] (SpB K 0 (fun _ => m__law_some_kind)) :=
  fn_box (cl := T.cl) T.d__law_some_kind.F sc__law_some_kind rfl (fun cdv A outer s H E hr => ⟨_, (pss_cons (ps_set (i := 1) sc__law_some_kind.nd rfl (Or.inl rfl) (pe_call (ok__law_kind T) (hr.mono (by decide)) (by rfl) T.d__law_kind.g T.d__law_kind.F.kp T.d__law_kind.b .nil pass0 (pa_cons (pv 0) (pa_cons (pe_call (ok__law_pick T) (hr.mono (by decide)) (by rfl) T.d__law_pick.g T.d__law_pick.F.kp T.d__law_pick.b .nil pass0 (pa_cons (pv 0) (pa_cons (pe_lst (pa_cons pe_int (pa_cons pe_int (pa_cons pe_int (pa_cons pe_int (pa_cons pe_int pa_nil)))))) pa_nil))) pa_nil)))) (pss_cons (ps_ret (pe_ifExp (pt_cmpR op_le (pe_call (ok__law_many T) (hr.mono (by decide)) (by rfl) T.d__law_many.g T.d__law_many.F.kp T.d__law_many.b .nil pass0 (pa_cons (pv 1) pa_nil)) pe_int (nomark _)) (pv 1) (pe_tup (pa_cons pe_str (pa_cons (pe_tup (pa_cons pe_str (pa_cons pe_int pa_nil))) pa_nil))))) pss_nil)), fun ds hl => match ds, hl with
      | [], _ => StG.eq ((st_asg (i := 1) (fun _ _ => rfl) (ev_callB (i := 0) rfl (ea_cons (ev_callB (i := 0) rfl (ea_cons (ev_lst (ea_cons ev_int (ea_cons ev_int (ea_cons ev_int (ea_cons ev_int (ea_cons ev_int ea_nil)))))) ea_nil)) ea_nil)) (fun v_kind => (st_ret (ev_if (et_cmp rc_le (ev_callN (ea_cons (ev_var (i := 1) rfl) ea_nil)) ev_int) (ev_var (i := 1) rfl) (ev_tup (ea_cons ev_str (ea_cons (ev_tup (ea_cons ev_str (ea_cons ev_int ea_nil))) ea_nil)))))))) (by simp only [m__law_some_kind, Tr.ret_bind, Tr.bind_assoc, asB_bool, asI_int, on1_one, on2g_two])⟩)
theorem sc__law_few : FnScope ["kind", "most", "word", "found", "k", "counts", "keys", "entries", "count", "one"] ["kind", "most"] (defScope s__law_few) := ⟨rfl, rfl, rfl, by decide +kernel, rfl, by decide +kernel, by decide +kernel⟩
theorem rk__law_few (T : Txt w K mg) : ∀ n : Nat, (FnOk P w K mg base CX0 (0 + n) T.d__law_few.f T.d__law_few.fd ["kind", "most"] (SpN K 2 (fun ds => match ds with | [v_kind, v_most] => m__law_few n v_kind v_most | _ => Tr.bad)))
  | 0 => fn_never (spN_bad fun ds hl => match ds, hl with | [v_kind, v_most], _ => by simp only [m__law_few])
  | n + 1 => by
    have ih := rk__law_few T n
    have ih__law_few := ih
    exact fn_pure (cl := T.cl) T.d__law_few.F sc__law_few (fun cdv A outer s H E hr => ⟨_, (pss_cons (ps_set (i := 2) sc__law_few.nd rfl (Or.inl rfl) (pe_ix ix_seq (pv 0) pe_int (fun _ _ => rfl))) (pss_cons (ps_if (pt_cmpR (op_eqP (room64 hr)) (pv 2) pe_str (nomark _)) (pss_cons (ps_set (i := 3) sc__law_few.nd rfl (Or.inl rfl) (pe_ix ix_seq (pv 0) pe_int (fun _ _ => rfl))) pss_nil) (pss_cons (ps_if (pt_cmpR (op_inP (room65 hr)) (pv 2) (pe_tup (pa_cons pe_str (pa_cons pe_str pa_nil))) rfl) (pss_cons (ps_ret pe_non) pss_nil) (pss_cons (ps_if (pt_cmpR (op_eqP (room64 hr)) (pv 2) pe_str (nomark _)) (pss_cons (ps_set (i := 3) sc__law_few.nd rfl (Or.inl rfl) (pe_call ih__law_few (hr.mono (Nat.le_refl _)) (by rfl) T.d__law_few.g T.d__law_few.F.kp T.d__law_few.b .nil pass0 (pa_cons (pe_ix ix_seq (pv 0) pe_int (fun _ _ => rfl)) (pa_cons pe_int pa_nil)))) (pss_cons (ps_set (i := 3) sc__law_few.nd rfl (Or.inl rfl) (pe_ifExp (pt_cmpR op_isN (pv 3) pe_non (nomark _)) pe_non (pe_ix ix_seq (pe_tup (pa_cons pe_int (pa_cons pe_int (pa_cons pe_int (pa_cons pe_int (pa_cons pe_int (pa_cons pe_int (pa_cons pe_int (pa_cons pe_int (pa_cons pe_int (pa_cons pe_int (pa_cons pe_int (pa_cons pe_int (pa_cons pe_int pa_nil)))))))))))))) (pv 3) (fun _ _ => rfl)))) pss_nil)) (pss_cons (ps_if (pt_cmpR (op_eqP (room64 hr)) (pv 2) pe_str (nomark _)) (pss_cons (ps_par (i := 6) (j := 7) rfl sc__law_few.nd rfl rfl (by decide) rfl rfl (pa_cons (pe_call ih__law_few (hr.mono (Nat.le_refl _)) (by rfl) T.d__law_few.g T.d__law_few.F.kp T.d__law_few.b .nil pass0 (pa_cons (pe_ix ix_seq (pv 0) pe_int (fun _ _ => rfl)) (pa_cons pe_int pa_nil))) (pa_cons (pe_call ih__law_few (hr.mono (Nat.le_refl _)) (by rfl) T.d__law_few.g T.d__law_few.F.kp T.d__law_few.b .nil pass0 (pa_cons (pe_ix ix_seq (pv 0) pe_int (fun _ _ => rfl)) (pa_cons (pv 1) pa_nil))) pa_nil)) rfl) (pss_cons (ps_set (i := 3) sc__law_few.nd rfl (Or.inl rfl) (pe_ifExp (PW.pt (pw_or (pt_cmpR op_isN (pv 6) pe_non (nomark _)) (pw_or1 (pt_cmpR op_isN (pv 7) pe_non (nomark _))))) pe_non pe_int)) (pss_cons (ps_for PassesOwn.never rfl (pi_range1 (by rfl) T.z_range (pa_cons (pe_ifExp (pt_cmpR (op_eqP (room64 hr)) (pv 3) pe_int (nomark _)) (pv 6) pe_int) pa_nil)) (pg_name (i := 4) sc__law_few.nd rfl (Or.inl rfl)) (pss_cons (ps_set (i := 3) sc__law_few.nd rfl (Or.inl rfl) (pe_op op_mulA (pv 3) (pe_op op_addA pe_int (pv 7)))) pss_nil)) pss_nil))) (pss_cons (ps_setLc (i := 5) (own := [("one", 9)]) rfl sc__law_few.nd rfl rfl (sw_true rfl rfl rfl (by decide +kernel)) (pi_seq (pe_ix ix_seq (pv 0) pe_int (fun _ _ => rfl))) (blkOk_by (N := ["kind", "most", "word", "found", "k", "counts", "keys", "entries", "count", "one"]) (sc := defScope s__law_few) (by decide +kernel)) (fun _ _ _ _ _ => pg_name (i := 9) sc__law_few.nd rfl (Or.inl rfl)) (fun _ _ _ _ _ => pts_nil) (fun _ _ _ _ _ => (pe_call ih__law_few (hr.mono (Nat.le_refl _)) (by rfl) T.d__law_few.g T.d__law_few.F.kp T.d__law_few.b .nil pass0 (pa_cons (pv 9) (pa_cons (pv 1) pa_nil))))) (pss_cons (ps_if (pt_cmpR (op_inP (room65 hr)) pe_non (pv 5) rfl) (pss_cons (ps_ret pe_non) pss_nil) pss_nil) (pss_cons (ps_set (i := 3) sc__law_few.nd rfl (Or.inl rfl) (pe_callB (cr_sum rfl) (by rfl) T.z_sum (by decide +kernel) (pa_cons (pv 5) pa_nil))) (pss_cons (ps_if (pt_cmpR (op_eqP (room64 hr)) (pv 2) pe_str (nomark _)) (pss_cons (ps_set (i := 3) sc__law_few.nd rfl (Or.inl rfl) pe_int) (pss_cons (ps_for PassesOwn.never rfl (pi_seq (pv 5)) (pg_name (i := 8) sc__law_few.nd rfl (Or.inl rfl)) (pss_cons (ps_set (i := 3) sc__law_few.nd rfl (Or.inl rfl) (pe_op op_mulA (pv 3) (pv 8))) pss_nil)) pss_nil)) pss_nil) pss_nil))))) pss_nil)) pss_nil)) pss_nil)) (pss_cons (ps_ret (pe_ifExp (PW.pt (pw_and (pt_cmpR op_notN (pv 3) pe_non (nomark _)) (pw_and1 (pt_cmpR op_le (pv 3) (pv 1) (nomark _))))) (pv 3) pe_non)) pss_nil))), fun ds hl => match ds, hl with
          | [v_kind, v_most], _ => StG.eq ((st_asg (i := 2) (fun _ _ => rfl) (ev_op rr_ix (ev_var (i := 0) rfl) ev_int) (fun v_word => (st_ifc (S1 := PyData) (ρs := fun (x108 : PyData) => [.dat v_kind, .dat v_most, .dat v_word, .dat x108, .any, .any, .any, .any, .any, .any]) (r := id) (fun _ _ => rfl) (fun _ => rfl) (et_cmp rc_eq (ev_var (i := 2) rfl) ev_str) (st_asg (i := 3) (fun _ _ => rfl) (ev_op rr_ix (ev_var (i := 0) rfl) ev_int) (fun v_found => (st_nx (b := Ct.nx v_found) (s := v_found) rfl (.same _ (.same _ (.same _ (.same _ (.same _ (.same _ (.same _ (.same _ (.same _ (.same _ .nil))))))))))))) (st_ifc (S1 := PyData) (ρs := fun (x109 : PyData) => [.dat v_kind, .dat v_most, .dat v_word, .dat x109, .any, .any, .any, .any, .any, .any]) (r := Ct.rt) (fun _ _ => rfl) (fun _ => rfl) (et_cmp rc_in (ev_var (i := 2) rfl) (ev_tup (ea_cons ev_str (ea_cons ev_str ea_nil)))) (st_rt (r := Ct.rt) (fun _ => rfl) ev_non) (st_ifc (S1 := PyData) (ρs := fun (x110 : PyData) => [.dat v_kind, .dat v_most, .dat v_word, .dat x110, .any, .any, .any, .any, .any, .any]) (r := Ct.rt) (fun _ _ => rfl) (fun _ => rfl) (et_cmp rc_eq (ev_var (i := 2) rfl) ev_str) (st_asg (i := 3) (fun _ _ => rfl) (ev_callN (ea_cons (ev_op rr_ix (ev_var (i := 0) rfl) ev_int) (ea_cons ev_int ea_nil))) (fun v_found => (st_asg (i := 3) (fun _ _ => rfl) (ev_if (et_isN (ev_var (i := 3) rfl)) ev_non (ev_op rr_ix (ev_tup (ea_cons ev_int (ea_cons ev_int (ea_cons ev_int (ea_cons ev_int (ea_cons ev_int (ea_cons ev_int (ea_cons ev_int (ea_cons ev_int (ea_cons ev_int (ea_cons ev_int (ea_cons ev_int (ea_cons ev_int (ea_cons ev_int ea_nil)))))))))))))) (ev_var (i := 3) rfl))) (fun v_found => (st_nx (b := Ct.nx v_found) (s := v_found) rfl (.same _ (.same _ (.same _ (.same _ (.same _ (.same _ (.same _ (.same _ (.same _ (.same _ .nil))))))))))))))) (st_ifc (S1 := PyData) (ρs := fun (x112 : PyData) => [.dat v_kind, .dat v_most, .dat v_word, .dat x112, .any, .any, .any, .any, .any, .any]) (r := Ct.rt) (fun _ _ => rfl) (fun _ => rfl) (et_cmp rc_eq (ev_var (i := 2) rfl) ev_str) (st_par (i := 6) (j := 7) (fun _ _ => rfl) (ea_cons (ev_callN (ea_cons (ev_op rr_ix (ev_var (i := 0) rfl) ev_int) (ea_cons ev_int ea_nil))) (ea_cons (ev_callN (ea_cons (ev_op rr_ix (ev_var (i := 0) rfl) ev_int) (ea_cons (ev_var (i := 1) rfl) ea_nil))) ea_nil)) (fun v_keys v_entries => (st_asg (i := 3) (fun _ _ => rfl) (ev_if (et_or (et_isN (ev_var (i := 6) rfl)) (et_isN (ev_var (i := 7) rfl))) ev_non ev_int) (fun v_found => (st_forR11n (S1 := PyData) (ρs := fun (x116 : PyData) => [.dat v_kind, .dat v_most, .dat v_word, .dat x116, .any, .any, .dat v_keys, .dat v_entries, .any, .any]) (r := Ct.rt) (i := 4) (s0 := v_found) (fun _ _ => rfl) (fun _ => rfl) (ev_if (et_cmp rc_eq (ev_var (i := 3) rfl) ev_int) (ev_var (i := 6) rfl) ev_int) (.same _ (.same _ (.same _ (.same _ (.same _ (.same _ (.same _ (.same _ (.same _ (.same _ .nil)))))))))) (fun _ => rfl) (fun v_k x116 => (st_asg (i := 3) (fun _ _ => rfl) (ev_op rr_mul (ev_var (i := 3) rfl) (ev_op rr_add ev_int (ev_var (i := 7) rfl))) (fun v_found => (st_nx (b := v_found) (s := v_found) rfl (.same _ (.same _ (.same _ (.same _ (.any rfl (.same _ (.same _ (.same _ (.same _ (.same _ .nil)))))))))))))) (fun x116 => (st_nx (b := Ct.nx x116) (s := x116) rfl (.same _ (.same _ (.same _ (.same _ (.same _ (.same _ (.any rfl (.any rfl (.same _ (.same _ .nil))))))))))))))))) (st_asg (i := 5) (fun _ _ => rfl) (ev_lcS1 (fun _ _ => rfl) (ev_op rr_ix (ev_var (i := 0) rfl) ev_int) rfl (fun v_one => (ev_callN (ea_cons (ev_var (i := 9) rfl) (ea_cons (ev_var (i := 1) rfl) ea_nil))))) (fun v_counts => (st_if (et_cmp rc_in ev_non (ev_var (i := 5) rfl)) (st_rt (r := Ct.rt) (fun _ => rfl) ev_non) (st_asg (i := 3) (fun _ _ => rfl) (ev_cb1 rk_sum (ev_var (i := 5) rfl)) (fun v_found => (st_ifc (S1 := PyData) (ρs := fun (x126 : PyData) => [.dat v_kind, .dat v_most, .dat v_word, .dat x126, .any, .dat v_counts, .any, .any, .any, .any]) (r := Ct.rt) (fun _ _ => rfl) (fun _ => rfl) (et_cmp rc_eq (ev_var (i := 2) rfl) ev_str) (st_asg (i := 3) (fun _ _ => rfl) ev_int (fun v_found => (st_forS1n (S1 := PyData) (ρs := fun (x127 : PyData) => [.dat v_kind, .dat v_most, .dat v_word, .dat x127, .any, .dat v_counts, .any, .any, .any, .any]) (r := Ct.rt) (i := 8) (s0 := v_found) (fun _ _ => rfl) (fun _ => rfl) (ev_var (i := 5) rfl) (.same _ (.same _ (.same _ (.same _ (.same _ (.same _ (.same _ (.same _ (.same _ (.same _ .nil)))))))))) (fun _ => rfl) (fun v_count x127 => (st_asg (i := 3) (fun _ _ => rfl) (ev_op rr_mul (ev_var (i := 3) rfl) (ev_var (i := 8) rfl)) (fun v_found => (st_nx (b := v_found) (s := v_found) rfl (.same _ (.same _ (.same _ (.same _ (.same _ (.same _ (.same _ (.same _ (.any rfl (.same _ .nil)))))))))))))) (fun x127 => (st_nx (b := Ct.nx x127) (s := x127) rfl (.same _ (.same _ (.same _ (.same _ (.same _ (.same _ (.same _ (.same _ (.same _ (.same _ .nil))))))))))))))) (st_nx (b := Ct.nx v_found) (s := v_found) rfl (.same _ (.same _ (.same _ (.same _ (.same _ (.same _ (.same _ (.same _ (.same _ (.same _ .nil))))))))))) (fun x126 => (st_nx (b := Ct.nx x126) (s := x126) rfl (.same _ (.same _ (.same _ (.same _ (.same _ (.any rfl (.same _ (.same _ (.same _ (.same _ .nil)))))))))))))))))) (fun x112 => (st_nx (b := Ct.nx x112) (s := x112) rfl (.same _ (.same _ (.same _ (.same _ (.same _ (.same _ (.same _ (.same _ (.same _ (.same _ .nil))))))))))))) (fun x110 => (st_nx (b := Ct.nx x110) (s := x110) rfl (.same _ (.same _ (.same _ (.same _ (.same _ (.same _ (.same _ (.same _ (.same _ (.same _ .nil))))))))))))) (fun x109 => (st_nx (b := Ct.nx x109) (s := x109) rfl (.same _ (.same _ (.same _ (.same _ (.same _ (.same _ (.same _ (.same _ (.same _ (.same _ .nil))))))))))))) (fun x108 => (st_ret (ev_if (et_and (et_notN (ev_var (i := 3) rfl)) (et_cmp rc_le (ev_var (i := 3) rfl) (ev_var (i := 1) rfl))) (ev_var (i := 3) rfl) ev_non))))))) (by simp only [m__law_few, Tr.ret_bind, Tr.bind_assoc, asB_bool, asI_int, on1_one, on2g_two])⟩)
theorem ok__law_few (T : Txt w K mg) : FnOk P w K mg base CX0 8 T.d__law_few.f T.d__law_few.fd ["kind", "most"] (SpN K 2 (fun ds => match ds with | [v_kind, v_most] => m__law_few 8 v_kind v_most | _ => Tr.bad)) := (rk__law_few T 8)
theorem sc__law_class : FnScope ["e", "kinds"] ["e"] (defScope s__law_class) := ⟨rfl, rfl, rfl, by decide +kernel, rfl, by decide +kernel, by decide +kernel⟩
theorem errs_of (T : Txt w K mg) : ∀ c : Ek, Cgx.ErrC K (T.cl c)
  | .kind => T.e_BadKind
  | .value => T.e_BadValue
  | .patch => T.e_BadPatch
  | .unfit => T.e_Unfit
  | .base => T.e_CorrigendaError
theorem ok__law_class (T : Txt w K mg) (c : Ek) (t0 : Addr) : FnErr P w K mg base 1 T.d__law_class.f T.d__law_class.fd ["e"] (fun p H => Cgx.Zt (.ref (T.cl c)) (some t0) p.2 ∧ (∃ vs, p.2.data = .fields vs) ∧ H t0 = some (.tup [])) (.str (nmE c)) := by
  refine fn_err T.d__law_class.F sc__law_class fun cdv A outer s H p Q hr hot hok hq => ?_
  obtain ⟨hz, hf, ht⟩ := hok
  have hu : (A.deeper (envOfC "_law_class" (defScope s__law_class) s.heap.objs.size T.d__law_class.f cdv)).units + 65 < cLine := by
    have := hr.un
    omega
  have hu64 : (A.deeper (envOfC "_law_class" (defScope s__law_class) s.heap.objs.size T.d__law_class.f cdv)).units + 64 < cLine := Nat.lt_of_succ_lt hu
  have hu2 : (A.deeper (envOfC "_law_class" (defScope s__law_class) s.heap.objs.size T.d__law_class.f cdv)).units + 2 < cLine := by omega
  have hp : (p.1, p.2) ∈ (L2H.cxH CX0 P w K mg base ["e", "kinds"] "_law_class" (defScope s__law_class) T.d__law_class.f cdv A outer s H E0 p).nox.pn := List.mem_cons_self
  refine ⟨_, pss_cons (ps_set (i := 1) sc__law_class.nd rfl (Or.inl rfl) (pe_lst
      (pa_cons (pe_callB (call_isP (T.isE c) hp hz hf) (by rfl) T.z_isinstance (by decide +kernel) (pa_cons (pv 0) (pa_cons (pe_glob (v := V.ref (T.cl .kind)) (by rfl) T.g_BadKind rfl) pa_nil)))
      (pa_cons (pe_callB (call_isP (T.isE c) hp hz hf) (by rfl) T.z_isinstance (by decide +kernel) (pa_cons (pv 0) (pa_cons (pe_glob (v := V.ref (T.cl .value)) (by rfl) T.g_BadValue rfl) pa_nil)))
      (pa_cons (pe_callB (call_isP (T.isE c) hp hz hf) (by rfl) T.z_isinstance (by decide +kernel) (pa_cons (pv 0) (pa_cons (pe_glob (v := V.ref (T.cl .patch)) (by rfl) T.g_BadPatch rfl) pa_nil)))
      (pa_cons (pe_callB (call_isP (T.isE c) hp hz hf) (by rfl) T.z_isinstance (by decide +kernel) (pa_cons (pv 0) (pa_cons (pe_glob (v := V.ref (T.cl .unfit)) (by rfl) T.g_Unfit rfl) pa_nil))) pa_nil))))))
    (pss_cons (ps_if (PW.pt (pw_or (pt_cmpR (op_neP hu64) (pe_bm PySem.F.plainAttrs_list PySem.F.slot_list_count PySem.F.type_list_count (mt_countP hu) (pv 1) (pa_cons pe_bl pa_nil)) pe_int (nomark _))
        (pw_or (pt_not (pt_val (pe_callB (call_isP (T.isE c) hp hz hf) (by rfl) T.z_isinstance (by decide +kernel) (pa_cons (pv 0) (pa_cons (pe_bltn (v := V.ty "ValueError") (u := .type "ValueError") (by rfl) T.z_ValueError (by decide +kernel) rfl) pa_nil)))))
        (pw_or1 (pt_cmpR (op_neP hu64) (pe_callTy (call_strP hu2 (T.strE c) (errs_of T c).sb hp hz hf) (by rfl) T.z_str (by decide +kernel) (pa_cons (pv 0) pa_nil)) pe_str (nomark _))))))
      (pss_one (ps_ret pe_str)) pss_nil)
    (pss_one (ps_ret (pe_ix ix_list (pe_lst (pa_cons pe_str (pa_cons pe_str (pa_cons pe_str (pa_cons pe_str pa_nil))))) (pe_bm PySem.F.plainAttrs_list PySem.F.slot_list_index PySem.F.type_list_index mt_index (pv 1) (pa_cons pe_bl pa_nil)) (fun _ _ => rfl))))), ?_⟩
  have k := T.kOne c
  refine ⟨.ref p.1, rfl, _, _, _, rfl, fun _ z => z, k .kind, .ref p.1, rfl, _, _, _, rfl, fun _ z => z, k .value, .ref p.1, rfl, _, _, _, rfl, fun _ z => z, k .patch, .ref p.1, rfl, _, _, _, rfl, fun _ z => z, k .unfit, by show 4 ≤ sizeLine; decide, fun l hl => ?_⟩
  have hL : (upd H l (.lst [V.bl (subE c .kind), V.bl (subE c .value), V.bl (subE c .patch), V.bl (subE c .unfit)])) l = some (.lst [V.bl (subE c .kind), V.bl (subE c .value), V.bl (subE c .patch), V.bl (subE c .unfit)]) := upd_same
  have ht' : (upd H l (.lst [V.bl (subE c .kind), V.bl (subE c .value), V.bl (subE c .patch), V.bl (subE c .unfit)])) t0 = some (.tup []) := by
    rw [upd_ne (ne_of_none ht hl)]
    exact ht
  have ex : Ex H (upd H l (.lst [V.bl (subE c .kind), V.bl (subE c .value), V.bl (subE c .patch), V.bl (subE c .unfit)])) := Ex.new hl
  generalize upd H l (.lst [V.bl (subE c .kind), V.bl (subE c .value), V.bl (subE c .patch), V.bl (subE c .unfit)]) = H1 at hL ht' ex
  have dl : Dp K H1 (.ref l) (.list [.bool (subE c .kind), .bool (subE c .value), .bool (subE c .patch), .bool (subE c .unfit)]) := .lst (SqL.of hL) (.cons (.bl _) (.cons (.bl _) (.cons (.bl _) (.cons (.bl _) .nil))))
  refine ⟨.ref l, rfl, .inl ⟨rfl, _, SqL.of hL⟩, l, .bl true, .bool true, _, rfl, rfl, dl, .bl true, rfl, rfl, Nat.le_trans (Nat.min_le_right _ _) (by decide), .int _, .int 1, .int _, .int _, rfl, rfl, Nat.le_trans (Nat.min_le_right _ _) (by decide), _, rfl, ?_⟩
  by_cases hc : c = .base
  · subst hc
    refine ite2 (fun _ => hq H1 ex) (fun z => absurd ?_ z)
    decide
  · have e1 : (!PyData.eqv (.int (([PyData.bool (subE c .kind), .bool (subE c .value), .bool (subE c .patch), .bool (subE c .unfit)].countP fun z => PyData.eqv z (.bool true) : Nat) : Int)) (.int 1)) = false := by
      cases c <;> first
        | exact absurd rfl hc
        | decide
    rw [e1]
    refine iteF ?_
    refine ⟨.ref p.1, rfl, .ty "ValueError", .type "ValueError", true, rfl, fun _ z => z, T.kVE c, true, rfl, ?_⟩
    refine iteF ?_
    refine ⟨.ref p.1, rfl, rfl, ht', .str _, .str "", .str _, .str _, rfl, rfl, by decide, _, rfl, ?_⟩
    have e2 : (!PyData.eqv (.str Str.empty) (.str (Str.ofString ""))) = false := by decide
    rw [e2]
    refine iteF ?_
    refine ⟨by show 4 ≤ sizeLine; decide, fun m hm => ?_⟩
    have hL2 : (upd H1 m (.lst [.str "kind", .str "value", .str "patch", .str "unfit"])) l = some (.lst [V.bl (subE c .kind), V.bl (subE c .value), V.bl (subE c .patch), V.bl (subE c .unfit)]) := by
      rw [upd_ne (ne_of_none hL hm)]
      exact hL
    have fin := hq _ (ex.trans (Ex.new (o := .lst [.str "kind", .str "value", .str "patch", .str "unfit"]) hm))
    cases c with
    | kind => exact ⟨.ref l, rfl, .inl ⟨rfl, _, SqL.of hL2⟩, l, _, .bl true, 0, .bl true, rfl, rfl, SqL.of hL2, rfl, rfl, rfl, rfl, fun m z' h => absurd h (Nat.not_lt_zero _), m, _, 0, _, rfl, rfl, SqL.of upd_same, rfl, fin⟩
    | value => exact ⟨.ref l, rfl, .inl ⟨rfl, _, SqL.of hL2⟩, l, _, .bl true, 1, .bl true, rfl, rfl, SqL.of hL2, rfl, rfl, rfl, rfl, fun m z' h e => (by
        match m, h with
        | 0, _ => cases e; rfl), m, _, 1, _, rfl, rfl, SqL.of upd_same, rfl, fin⟩
    | patch => exact ⟨.ref l, rfl, .inl ⟨rfl, _, SqL.of hL2⟩, l, _, .bl true, 2, .bl true, rfl, rfl, SqL.of hL2, rfl, rfl, rfl, rfl, fun m z' h e => (by
        match m, h with
        | 0, _ => cases e; rfl
        | 1, _ => cases e; rfl), m, _, 2, _, rfl, rfl, SqL.of upd_same, rfl, fin⟩
    | unfit => exact ⟨.ref l, rfl, .inl ⟨rfl, _, SqL.of hL2⟩, l, _, .bl true, 3, .bl true, rfl, rfl, SqL.of hL2, rfl, rfl, rfl, rfl, fun m z' h e => (by
        match m, h with
        | 0, _ => cases e; rfl
        | 1, _ => cases e; rfl
        | 2, _ => cases e; rfl), m, _, 3, _, rfl, rfl, SqL.of upd_same, rfl, fin⟩
    | base => exact absurd rfl hc
theorem sc__law_small : FnScope ["box", "deep", "sort", "k"] ["box", "deep"] (defScope s__law_small) := ⟨rfl, rfl, rfl, by decide +kernel, rfl, by decide +kernel, by decide +kernel⟩
theorem rk__law_small (T : Txt w K mg) : ∀ n : Nat, (FnOk P w K mg base CX0 (2 + n) T.d__law_small.f T.d__law_small.fd ["box", "deep"] (SpB K 1 (fun ds => match ds with | [v_deep] => m__law_small n v_deep | _ => Tr.bad)))
  | 0 => fn_never (spB_bad fun ds hl => match ds, hl with | [v_deep], _ => by simp only [m__law_small])
  | n + 1 => by
    have ih := rk__law_small T n
    have ih__law_small := ih
    exact fn_box (cl := T.cl) T.d__law_small.F sc__law_small rfl (fun cdv A outer s H E hr => ⟨_, (pss_cons (ps_set (i := 2) sc__law_small.nd rfl (Or.inl rfl) (pe_call (ok__law_take T) (hr.mono (Nat.le_trans (by decide : 1 ≤ 2) (Nat.le_add_right 2 n))) (by rfl) T.d__law_take.g T.d__law_take.F.kp T.d__law_take.b .nil pass0 (pa_cons (pv 0) (pa_cons pe_int pa_nil)))) (pss_cons (ps_if (PW.pt (pw_or (pt_cmpR op_le (pv 1) pe_int (nomark _)) (pw_or1 (pt_cmpR op_lt (pv 2) pe_int (nomark _))))) (pss_cons (ps_ret (pe_tup (pa_cons pe_str (pa_cons (pe_call (ok__law_pick T) (hr.mono (Nat.le_trans (by decide : 2 ≤ 2) (Nat.le_add_right 2 n))) (by rfl) T.d__law_pick.g T.d__law_pick.F.kp T.d__law_pick.b .nil pass0 (pa_cons (pv 0) (pa_cons (pe_lst (pa_cons pe_int (pa_cons pe_int (pa_cons pe_int (pa_cons pe_int (pa_cons pe_int (pa_cons pe_int pa_nil))))))) pa_nil))) pa_nil)))) pss_nil) pss_nil) (pss_cons (ps_if (pt_cmpR op_lt (pv 2) pe_int (nomark _)) (pss_cons (ps_ret (pe_tup (pa_cons (pe_call (ok__law_pick T) (hr.mono (Nat.le_trans (by decide : 2 ≤ 2) (Nat.le_add_right 2 n))) (by rfl) T.d__law_pick.g T.d__law_pick.F.kp T.d__law_pick.b .nil pass0 (pa_cons (pv 0) (pa_cons (pe_lst (pa_cons pe_str (pa_cons pe_str pa_nil))) pa_nil))) (pa_cons (pe_callTy call_tuple_of (by rfl) T.z_tuple (by decide +kernel) (pa_cons (pe_lc (own := [("k", 3)]) rfl sc__law_small.nd (pi_range1 (by rfl) T.z_range (pa_cons (pe_op op_addA pe_int (pe_call (ok__law_take T) (hr.mono (Nat.le_trans (by decide : 1 ≤ 2) (Nat.le_add_right 2 n))) (by rfl) T.d__law_take.g T.d__law_take.F.kp T.d__law_take.b .nil pass0 (pa_cons (pv 0) (pa_cons pe_int pa_nil)))) pa_nil)) (blkOk_by (N := ["box", "deep", "sort", "k"]) (sc := defScope s__law_small) (by decide +kernel)) (fun _ _ _ _ _ => pg_name (i := 3) sc__law_small.nd rfl (Or.inl rfl)) (fun _ _ _ _ _ => pts_nil) (fun _ _ _ _ _ => (pe_call ih__law_small (hr.mono (Nat.le_refl _)) (by rfl) T.d__law_small.g T.d__law_small.F.kp T.d__law_small.b .nil pass0 (pa_cons (pv 0) (pa_cons (pe_op op_sub (pv 1) pe_int) pa_nil))))) pa_nil)) pa_nil)))) pss_nil) pss_nil) (pss_cons (ps_if (pt_cmpR op_lt (pv 2) pe_int (nomark _)) (pss_cons (ps_ret (pe_ifExp (pt_cmpR (op_eqP (room64 hr)) (pv 2) pe_int (nomark _)) (pe_tup (pa_cons pe_str (pa_cons (pe_call ih__law_small (hr.mono (Nat.le_refl _)) (by rfl) T.d__law_small.g T.d__law_small.F.kp T.d__law_small.b .nil pass0 (pa_cons (pv 0) (pa_cons (pe_op op_sub (pv 1) pe_int) pa_nil))) pa_nil))) (pe_tup (pa_cons pe_str (pa_cons (pe_tup (pa_cons pe_str (pa_cons (pe_call (ok__law_pick T) (hr.mono (Nat.le_trans (by decide : 2 ≤ 2) (Nat.le_add_right 2 n))) (by rfl) T.d__law_pick.g T.d__law_pick.F.kp T.d__law_pick.b .nil pass0 (pa_cons (pv 0) (pa_cons (pe_lst (pa_cons pe_int (pa_cons pe_int (pa_cons pe_int pa_nil)))) pa_nil))) pa_nil))) (pa_cons (pe_call ih__law_small (hr.mono (Nat.le_refl _)) (by rfl) T.d__law_small.g T.d__law_small.F.kp T.d__law_small.b .nil pass0 (pa_cons (pv 0) (pa_cons (pe_op op_sub (pv 1) pe_int) pa_nil))) pa_nil)))))) pss_nil) pss_nil) (pss_cons (ps_ret (pe_tup (pa_cons (pe_call (ok__law_pick T) (hr.mono (Nat.le_trans (by decide : 2 ≤ 2) (Nat.le_add_right 2 n))) (by rfl) T.d__law_pick.g T.d__law_pick.F.kp T.d__law_pick.b .nil pass0 (pa_cons (pv 0) (pa_cons (pe_lst (pa_cons pe_str (pa_cons pe_str pa_nil))) pa_nil))) (pa_cons (pe_call ih__law_small (hr.mono (Nat.le_refl _)) (by rfl) T.d__law_small.g T.d__law_small.F.kp T.d__law_small.b .nil pass0 (pa_cons (pv 0) (pa_cons (pe_op op_sub (pv 1) pe_int) pa_nil))) pa_nil)))) pss_nil))))), fun ds hl => match ds, hl with
          | [v_deep], _ => StG.eq ((st_asg (i := 2) (fun _ _ => rfl) (ev_callB (i := 0) rfl (ea_cons ev_int ea_nil)) (fun v_sort => (st_if (et_or (et_cmp rc_le (ev_var (i := 1) rfl) ev_int) (et_cmp rc_lt (ev_var (i := 2) rfl) ev_int)) (st_ret (ev_tup (ea_cons ev_str (ea_cons (ev_callB (i := 0) rfl (ea_cons (ev_lst (ea_cons ev_int (ea_cons ev_int (ea_cons ev_int (ea_cons ev_int (ea_cons ev_int (ea_cons ev_int ea_nil))))))) ea_nil)) ea_nil)))) (st_if (et_cmp rc_lt (ev_var (i := 2) rfl) ev_int) (st_ret (ev_tup (ea_cons (ev_callB (i := 0) rfl (ea_cons (ev_lst (ea_cons ev_str (ea_cons ev_str ea_nil))) ea_nil)) (ea_cons (ev_cb1 rk_tuple (ev_lcR1n (fun _ _ => rfl) (ev_op rr_add ev_int (ev_callB (i := 0) rfl (ea_cons ev_int ea_nil))) rfl (fun v_k => (ev_callB (i := 0) rfl (ea_cons (ev_op rr_sub (ev_var (i := 1) rfl) ev_int) ea_nil))))) ea_nil)))) (st_if (et_cmp rc_lt (ev_var (i := 2) rfl) ev_int) (st_ret (ev_if (et_cmp rc_eq (ev_var (i := 2) rfl) ev_int) (ev_tup (ea_cons ev_str (ea_cons (ev_callB (i := 0) rfl (ea_cons (ev_op rr_sub (ev_var (i := 1) rfl) ev_int) ea_nil)) ea_nil))) (ev_tup (ea_cons ev_str (ea_cons (ev_tup (ea_cons ev_str (ea_cons (ev_callB (i := 0) rfl (ea_cons (ev_lst (ea_cons ev_int (ea_cons ev_int (ea_cons ev_int ea_nil)))) ea_nil)) ea_nil))) (ea_cons (ev_callB (i := 0) rfl (ea_cons (ev_op rr_sub (ev_var (i := 1) rfl) ev_int) ea_nil)) ea_nil)))))) (st_ret (ev_tup (ea_cons (ev_callB (i := 0) rfl (ea_cons (ev_lst (ea_cons ev_str (ea_cons ev_str ea_nil))) ea_nil)) (ea_cons (ev_callB (i := 0) rfl (ea_cons (ev_op rr_sub (ev_var (i := 1) rfl) ev_int) ea_nil)) ea_nil)))))))))) (by simp only [m__law_small, Tr.ret_bind, Tr.bind_assoc, asB_bool, asI_int, on1_one, on2g_two])⟩)
theorem ok__law_small (T : Txt w K mg) : FnOk P w K mg base CX0 10 T.d__law_small.f T.d__law_small.fd ["box", "deep"] (SpB K 1 (fun ds => match ds with | [v_deep] => m__law_small 8 v_deep | _ => Tr.bad)) := (rk__law_small T 8)
theorem sc__law_told : FnScope ["kind", "most", "e"] ["kind", "most"] (defScope s__law_told) := ⟨rfl, rfl, rfl, by decide +kernel, rfl, by decide +kernel, by decide +kernel⟩
theorem ok__law_told (T : Txt w K mg) : FnOk P w K mg base CX0 16 T.d__law_told.f T.d__law_told.fd ["kind", "most"] (SpN K 2 (fun ds => match ds with | [v_kind, v_most] => m__law_told v_kind v_most | _ => .bad)) :=
  fn_pure (cl := T.cl) T.d__law_told.F sc__law_told (fun cdv A outer s H E hr => ⟨_, pss_one (Cgx.ps_tryAs (i := 2) (c := .ref (T.cl .base)) rfl rfl sc__law_told.nd rfl rfl ⟨by rfl, by decide, .inl T.g_CorrigendaError⟩
      (fun W pn xe tk _ => pss_cons (ps_ret (pe_callS (ok_few T) (hr.mono (by decide)) (by rfl) T.d_few.g T.d_few.F.kp T.d_few.b (fun σ => Cgx.lets_at tk σ) (pa_cons (pv 0) (pa_cons (pv 1) pa_nil)))) pss_nil)
      (fun a oe cls d pn hz hf => pss_one (ps_ret (pe_errs (cl := T.cl) (nm := nmE) (i := 2) hz hf (fun c t => ok__law_class T c t) ((L2H.roomH_of hr).mono (by decide)) (by rfl) T.d__law_class.g T.d__law_class.F.kp T.d__law_class.b rfl (Or.inl rfl))))),
    fun ds hl => match ds, hl with
    | [v_kind, v_most], _ => (st_try (nm := nmE) (i := 2) T.exm (by rfl) (by show 2 < 3; decide) (fun W => st_ret (ev_callS (ea_cons (ev_var (i := 0) rfl) (ea_cons (ev_var (i := 1) rfl) ea_nil)))) (fun c a t0 D σ H h1 h2 _ k => ⟨c, t0, rfl, rfl, h1, h2, k⟩)).eq (by simp only [m__law_told, Tr.ret_bind, Tr.bind_assoc])⟩)
theorem sc_law : FnScope ["script", "box", "turn", "kind", "many", "bounds", "most"] ["script"] (defScope s_law) := ⟨rfl, rfl, rfl, by decide +kernel, rfl, by decide +kernel, by decide +kernel⟩
theorem ok_law (T : Txt w K mg) : FnOk P w K mg base CX0 17 T.d_law.f T.d_law.fd ["script"] (SpN K 1 (fun ds => match ds with | [v_script] => m_law v_script | _ => Tr.bad)) :=
  fn_pure (cl := T.cl) T.d_law.F sc_law (fun cdv A outer s H E hr => ⟨_, (pss_cons (ps_set (i := 1) sc_law.nd rfl (Or.inl rfl) (pe_call (ok__law_box T) (hr.mono (by decide)) (by rfl) T.d__law_box.g T.d__law_box.F.kp T.d__law_box.b .nil pass0 (pa_cons (pv 0) pa_nil))) (pss_cons (ps_for PassesOwn.never rfl (pi_range1 (by rfl) T.z_range (pa_cons pe_int pa_nil)) (pg_name (i := 2) sc_law.nd rfl (Or.inl rfl)) (pss_cons (ps_set (i := 3) sc_law.nd rfl (Or.inl rfl) (pe_ifExp (pt_cmpR op_gt (pv 2) pe_int (nomark _)) (pe_call (ok__law_small T) (hr.mono (by decide)) (by rfl) T.d__law_small.g T.d__law_small.F.kp T.d__law_small.b .nil pass0 (pa_cons (pv 1) (pa_cons (pe_op op_addA pe_int (pe_call (ok__law_take T) (hr.mono (by decide)) (by rfl) T.d__law_take.g T.d__law_take.F.kp T.d__law_take.b .nil pass0 (pa_cons (pv 1) (pa_cons pe_int pa_nil)))) pa_nil))) (pe_call (ok__law_some_kind T) (hr.mono (by decide)) (by rfl) T.d__law_some_kind.g T.d__law_some_kind.F.kp T.d__law_some_kind.b .nil pass0 (pa_cons (pv 1) pa_nil)))) (pss_cons (ps_if (pt_cmpR op_gt (pe_call (ok__law_many T) (hr.mono (by decide)) (by rfl) T.d__law_many.g T.d__law_many.F.kp T.d__law_many.b .nil pass0 (pa_cons (pv 3) pa_nil)) pe_int (nomark _)) (pss_cons (ps_set (i := 3) sc_law.nd rfl (Or.inl rfl) (pe_tup (pa_cons pe_str (pa_cons (pe_tup (pa_cons pe_str (pa_cons pe_int pa_nil))) pa_nil)))) pss_nil) pss_nil) (pss_cons (ps_set (i := 4) sc_law.nd rfl (Or.inl rfl) (pe_call (ok__law_few T) (hr.mono (by decide)) (by rfl) T.d__law_few.g T.d__law_few.F.kp T.d__law_few.b .nil pass0 (pa_cons (pv 3) (pa_cons pe_int pa_nil)))) (pss_cons (ps_set (i := 5) sc_law.nd rfl (Or.inl rfl) (pe_op op_addA (pe_lst (pa_cons (pe_call (ok__law_take T) (hr.mono (by decide)) (by rfl) T.d__law_take.g T.d__law_take.F.kp T.d__law_take.b .nil pass0 (pa_cons (pv 1) (pa_cons pe_int pa_nil))) (pa_cons pe_int (pa_cons (pe_call (ok__law_pick T) (hr.mono (by decide)) (by rfl) T.d__law_pick.g T.d__law_pick.F.kp T.d__law_pick.b .nil pass0 (pa_cons (pv 1) (pa_cons (pe_lst (pa_cons pe_int (pa_cons pe_int (pa_cons pe_int (pa_cons pe_int (pa_cons pe_int pa_nil)))))) pa_nil))) pa_nil)))) (pe_ifExp (pt_cmpR op_notN (pv 4) pe_non (nomark _)) (pe_lst (pa_cons (pv 4) (pa_cons (pe_op op_sub (pv 4) pe_int) pa_nil))) (pe_lst pa_nil)))) (pss_cons (ps_for PassesOwn.never rfl (pi_seq (pv 5)) (pg_name (i := 6) sc_law.nd rfl (Or.inl rfl)) (pss_cons (ps_if (pt_cmpR (op_neP (room64 hr)) (pe_callB call_repr (by rfl) T.z_repr (by decide +kernel) (pa_cons (pe_call (ok__law_told T) (hr.mono (by decide)) (by rfl) T.d__law_told.g T.d__law_told.F.kp T.d__law_told.b .nil pass0 (pa_cons (pv 3) (pa_cons (pv 6) pa_nil))) pa_nil)) (pe_callB call_repr (by rfl) T.z_repr (by decide +kernel) (pa_cons (pe_call (ok__law_few T) (hr.mono (by decide)) (by rfl) T.d__law_few.g T.d__law_few.F.kp T.d__law_few.b .nil pass0 (pa_cons (pv 3) (pa_cons (pv 6) pa_nil))) pa_nil)) (nomark _)) (pss_cons (ps_ret pe_bl) pss_nil) pss_nil) pss_nil)) pss_nil)))))) (pss_cons (ps_ret (pe_cmpR (op_eqP (room64 hr)) (pe_call (ok__law_told T) (hr.mono (by decide)) (by rfl) T.d__law_told.g T.d__law_told.F.kp T.d__law_told.b .nil pass0 (pa_cons (pe_tup (pa_cons pe_str (pa_cons (pe_tup pa_nil) pa_nil))) (pa_cons pe_int pa_nil))) pe_str (nomark _))) pss_nil))), fun ds hl => match ds, hl with
      | [v_script], _ => StG.eq ((st_box (fun _ _ => rfl) (i := 1) (ev_var (i := 0) rfl) (st_forR11 (S1 := Unit) (ρs := fun (x159 : Unit) => [.dat v_script, .box, .any, .any, .any, .any, .any]) (r := id) (i := 2) (s0 := ()) (fun _ _ => rfl) (fun _ => rfl) ev_int (.same _ (.same _ (.same _ (.same _ (.same _ (.same _ (.same _ .nil))))))) (fun _ => rfl) (fun v_turn x159 => (st_asg (i := 3) (fun _ _ => rfl) (ev_if (et_cmp rc_gt (ev_var (i := 2) rfl) ev_int) (ev_callB (i := 1) rfl (ea_cons (ev_op rr_add ev_int (ev_callB (i := 1) rfl (ea_cons ev_int ea_nil))) ea_nil)) (ev_callB (i := 1) rfl ea_nil)) (fun v_kind => (st_ifj (S1 := PyData) (ρs := fun (x164 : PyData) => [.dat v_script, .box, .dat v_turn, .dat x164, .any, .any, .any]) (fun _ _ => rfl) (et_cmp rc_gt (ev_callN (ea_cons (ev_var (i := 3) rfl) ea_nil)) ev_int) (st_asg (i := 3) (fun _ _ => rfl) (ev_tup (ea_cons ev_str (ea_cons (ev_tup (ea_cons ev_str (ea_cons ev_int ea_nil))) ea_nil))) (fun v_kind => (st_nx (b := v_kind) (s := v_kind) rfl (.same _ (.same _ (.same _ (.same _ (.same _ (.same _ (.same _ .nil)))))))))) (st_nx (b := v_kind) (s := v_kind) rfl (.same _ (.same _ (.same _ (.same _ (.same _ (.same _ (.same _ .nil)))))))) (fun x164 => (st_asg (i := 4) (fun _ _ => rfl) (ev_callN (ea_cons (ev_var (i := 3) rfl) (ea_cons ev_int ea_nil))) (fun v_many => (st_asg (i := 5) (fun _ _ => rfl) (ev_op rr_add (ev_lst (ea_cons (ev_callB (i := 1) rfl (ea_cons ev_int ea_nil)) (ea_cons ev_int (ea_cons (ev_callB (i := 1) rfl (ea_cons (ev_lst (ea_cons ev_int (ea_cons ev_int (ea_cons ev_int (ea_cons ev_int (ea_cons ev_int ea_nil)))))) ea_nil)) ea_nil)))) (ev_if (et_notN (ev_var (i := 4) rfl)) (ev_lst (ea_cons (ev_var (i := 4) rfl) (ea_cons (ev_op rr_sub (ev_var (i := 4) rfl) ev_int) ea_nil))) (ev_lst ea_nil))) (fun v_bounds => (st_forS1 (S1 := Unit) (ρs := fun (x170 : Unit) => [.dat v_script, .box, .dat v_turn, .dat x164, .dat v_many, .dat v_bounds, .any]) (r := Ct.rt) (i := 6) (s0 := ()) (fun _ _ => rfl) (fun _ => rfl) (ev_var (i := 5) rfl) (.same _ (.same _ (.same _ (.same _ (.same _ (.same _ (.same _ .nil))))))) (fun _ => rfl) (fun v_most x170 => (st_if (et_cmp rc_ne (ev_cb1 rk_repr (ev_callN (ea_cons (ev_var (i := 3) rfl) (ea_cons (ev_var (i := 6) rfl) ea_nil)))) (ev_cb1 rk_repr (ev_callN (ea_cons (ev_var (i := 3) rfl) (ea_cons (ev_var (i := 6) rfl) ea_nil))))) (st_rt (r := Ct.rt) (fun _ => rfl) ev_bl) (st_nx (b := Ct.nx ()) (s := ()) rfl (.same _ (.same _ (.same _ (.same _ (.same _ (.same _ (.any rfl .nil)))))))))) (fun x170 => (st_nx (b := Ct.nx ()) (s := ()) rfl (.same _ (.same _ (.any rfl (.any rfl (.any rfl (.any rfl (.same _ .nil))))))))))))))))))) (fun x159 => (st_ret (ev_cmp rc_eq (ev_callN (ea_cons (ev_tup (ea_cons ev_str (ea_cons (ev_tup ea_nil) ea_nil))) (ea_cons ev_int ea_nil))) ev_str)))))) (by simp only [m_law, Tr.ret_bind, Tr.bind_assoc, asB_bool, asI_int, on1_one, on2g_two])⟩)
end
end K03
namespace K03
open PySem L2 Cg

/-! ### what comparing with a word comes to -/
def isW (a : PyData) (s : Str) : Bool := match a with
  | .str t => t == s
  | _ => false
theorem isW_yes {a : PyData} {s : Str} (h : isW a s = true) : a = .str s := by
  cases a with
  | str t =>
    rw [show t = s from eq_of_beq h]
  | _ => exact absurd h Bool.noConfusion
theorem eqv_str (a : PyData) (s : Str) : PyData.eqv a (.str s) = isW a s := by
  cases a <;> simp [PyData.eqv, isW]
theorem eqv_strL (a : PyData) (s : Str) : PyData.eqv (.str s) a = isW a s := by
  cases a with
  | str t =>
    simp only [PyData.eqv, isW]
    exact Bool.beq_comm
  | _ => simp [PyData.eqv, isW]
theorem depth_str (s : Str) : (PyData.str s).depth = 0 := by simp [PyData.depth]
theorem depth_int (s : Int) : (PyData.int s).depth = 0 := by simp [PyData.depth]
theorem depth_bool (s : Bool) : (PyData.bool s).depth = 0 := by simp [PyData.depth]
theorem cEq_str (a : PyData) (s : Str) : cEq a (.str s) = .ret (isW a s) := by
  unfold cEq
  rw [depth_str, Nat.min_zero, if_pos (by omega), eqv_str]
theorem cNe_str (a : PyData) (s : Str) : cNe a (.str s) = .ret (!isW a s) := by
  unfold cNe
  rw [depth_str, Nat.min_zero, if_pos (by omega), eqv_str]
theorem eqv_int (i j : Int) : PyData.eqv (.int i) (.int j) = decide (i = j) := by
  simp only [PyData.eqv]
  exact rfl
theorem cEq_int (i j : Int) : cEq (.int i) (.int j) = .ret (decide (i = j)) := by
  unfold cEq
  rw [depth_int, if_pos (by omega), eqv_int]
theorem cNe_int (i j : Int) : cNe (.int i) (.int j) = .ret (!decide (i = j)) := by
  unfold cNe
  rw [depth_int, if_pos (by omega), eqv_int]
theorem cIn_2 (a : PyData) (s t : Str) : cIn a (.tuple [.str s, .str t]) = .ret (isW a s || isW a t) := by
  unfold cIn
  have h : PyData.depthAll [.str s, .str t] = 0 := by simp [PyData.depthAll, PyData.depth]
  show (if min (PyData.depthAll [.str s, .str t]) a.depth ≤ 64 then Tr.ret (memD a [.str s, .str t]) else .bad) = _
  rw [h, Nat.zero_min, if_pos (by omega)]
  simp only [memD, List.any, eqv_strL, Bool.or_false]
theorem cIn_3 (a : PyData) (s t u : Str) : cIn a (.tuple [.str s, .str t, .str u]) = .ret (isW a s || (isW a t || isW a u)) := by
  unfold cIn
  have h : PyData.depthAll [.str s, .str t, .str u] = 0 := by simp [PyData.depthAll, PyData.depth]
  show (if min (PyData.depthAll [.str s, .str t, .str u]) a.depth ≤ 64 then Tr.ret (memD a [.str s, .str t, .str u]) else .bad) = _
  rw [h, Nat.zero_min, if_pos (by omega)]
  simp only [memD, List.any, eqv_strL, Bool.or_false]
theorem cLt_int (i j : Int) : cLt (.int i) (.int j) = .ret (decide (i < j)) := rfl
theorem cGt_int (i j : Int) : cGt (.int i) (.int j) = .ret (decide (j < i)) := rfl
theorem cLe_int (i j : Int) : cLe (.int i) (.int j) = .ret (decide (i ≤ j)) := rfl
theorem dLen_tup (xs : List PyData) : dLen (.tuple xs) = .ret (.int xs.length) := rfl

/-! ### kinds -/
def okNum : PyData → Bool
  | .int i => decide (2 ≤ i) && decide (i ≤ 1000)
  | _ => false
/-- the kinds right inside, where the outermost is written as one -/
def shape : PyData → Option (List PyData)
  | .tuple [w, a] => if isW w "number" then (if okNum a then some [] else none)
    else if isW w "row" || (isW w "set" || isW w "bag") then some [a]
    else if isW w "record" then (match a with
      | .tuple ys => if 1 ≤ ys.length ∧ ys.length ≤ 4 then some ys else none
      | _ => none)
    else if isW w "choice" then (match a with
      | .tuple ys => if 2 ≤ ys.length ∧ ys.length ≤ 4 then some ys else none
      | _ => none)
    else none
  | .tuple [w, a, b] => if isW w "table" then some [a, b] else none
  | _ => none
def optT : Option (List PyData) → PyData
  | some l => .tuple l
  | none => .none
theorem within_eq (x : PyData) : m_is_within x (.int 2) (.int 1000) = .ret (.bool (okNum x)) := by
  cases x with
  | int i =>
    simp only [m_is_within, m_is_whole, isInt, isBool, if_true, asB_bool, Tr.ret_bind, Bool.not_false, cLe_int, okNum]
    by_cases h : (2 : Int) ≤ i
    · simp [h]
    · simp [h]
  | _ => simp [m_is_within, m_is_whole, isInt, isBool, okNum]
theorem sl1 (w : PyData) (xs : List PyData) : dSl (.tuple (w :: xs)) (some 1) none = .ret (.tuple xs) := by
  show Tr.ret (PyData.tuple (cutD (w :: xs) (some 1) none)) = _
  have e : cutD (w :: xs) (some 1) none = xs := by
    unfold cutD
    rw [HT.sIx_none, show HT.sIx (w :: xs).length 0 (some 1) = min 1 (w :: xs).length from HT.sIx_nat _ 0 1]
    simp
  rw [e]
theorem ix_nat {xs : List PyData} {j : Nat} {d : PyData} (h : xs[j]? = some d) : dIx (.tuple xs) (.int (j : Int)) = .ret d := by
  unfold dIx
  simp only [atI_nat h]
theorem ixL_nat {xs : List PyData} {j : Nat} {d : PyData} (h : xs[j]? = some d) : dIx (.list xs) (.int (j : Int)) = .ret d := by
  unfold dIx
  simp only [atI_nat h]
theorem ix0 (w : PyData) (xs : List PyData) : dIx (.tuple (w :: xs)) (.int 0) = .ret w := ix_nat (j := 0) rfl
theorem ix1 (w a : PyData) (xs : List PyData) : dIx (.tuple (w :: a :: xs)) (.int 1) = .ret a := ix_nat (j := 1) rfl
theorem ix2 (w a b : PyData) (xs : List PyData) : dIx (.tuple (w :: a :: b :: xs)) (.int 2) = .ret b := ix_nat (j := 2) rfl
theorem kd_record : kdT tab_FEWEST_INSIDE (.str "record") = .ret (.int 1) := rfl
theorem kd_choice : kdT tab_FEWEST_INSIDE (.str "choice") = .ret (.int 2) := rfl
theorem inner_eq (x : PyData) : m_inner_kinds x = .ret (optT (shape x)) := by
  cases x with
  | tuple xs =>
    match xs with
    | [] => rfl
    | [a] => rfl
    | [w, a] =>
      unfold m_inner_kinds
      have ht : Cg.isTup (.tuple [w, a]) = true := rfl
      have hl : dLen (.tuple [w, a]) = .ret (.int 2) := rfl
      simp only [ht, hl, Tr.ret_bind, cLt_int, cGt_int, cEq_str, cEq_int, ix0, ix1, cNotIn, cIn_2, cIn_3, within_eq, asB_bool, asI_int, sl1, Bool.not_true]
      by_cases h1 : isW w "table" = true
      · cases isW_yes h1
        rfl
      · simp only [shape]
        by_cases h2 : isW w "number" = true
        · simp [h1, h2]
          cases okNum a <;> rfl
        · by_cases h3 : (isW w "row" || (isW w "set" || isW w "bag")) = true
          · simp [h1, h2, h3, optT]
          · by_cases h4 : isW w "record" = true
            · cases isW_yes h4
              cases a with
              | tuple ys =>
                have e1 : ((1 : Int) ≤ (ys.length : Int)) = (1 ≤ ys.length) := propext (by omega)
                have e2 : ((ys.length : Int) ≤ 4) = (ys.length ≤ 4) := propext (by omega)
                simp only [dLen_tup, cLe_int, e1, e2, kd_record, Tr.ret_bind]
                by_cases a1 : 1 ≤ ys.length <;> by_cases a2 : ys.length ≤ 4 <;> simp [h1, h2, h3, h4, a1, a2, optT, Cg.isTup]
              | _ => simp [h1, h2, h3, optT, Cg.isTup]
            · by_cases h5 : isW w "choice" = true
              · cases isW_yes h5
                cases a with
                | tuple ys =>
                  have e1 : ((2 : Int) ≤ (ys.length : Int)) = (2 ≤ ys.length) := propext (by omega)
                  have e2 : ((ys.length : Int) ≤ 4) = (ys.length ≤ 4) := propext (by omega)
                  simp only [dLen_tup, cLe_int, e1, e2, kd_choice, Tr.ret_bind]
                  by_cases a1 : 2 ≤ ys.length <;> by_cases a2 : ys.length ≤ 4 <;> simp [h1, h2, h3, h4, h5, a1, a2, optT, Cg.isTup]
                | _ => simp [h1, h2, h3, h4, optT, Cg.isTup]
              · simp [h1, h2, h3, h4, h5, optT]
    | [w, a, b] =>
      unfold m_inner_kinds
      have ht : Cg.isTup (.tuple [w, a, b]) = true := rfl
      have hl : dLen (.tuple [w, a, b]) = .ret (.int 3) := rfl
      simp only [ht, hl, Tr.ret_bind, cLt_int, cGt_int, cEq_str, cEq_int, ix0, asI_int, sl1, Bool.not_true, shape]
      cases isW w "table" <;> rfl
    | w :: a :: b :: c :: r =>
      unfold m_inner_kinds
      have ht : Cg.isTup (.tuple (w :: a :: b :: c :: r)) = true := rfl
      have hl : dLen (.tuple (w :: a :: b :: c :: r)) = .ret (.int ((r.length + 4 : Nat) : Int)) := rfl
      have e1 : decide (((r.length + 4 : Nat) : Int) < 2) = false := decide_eq_false (by omega)
      have e2 : decide ((2 : Int) < ((r.length + 4 : Nat) : Int)) = true := decide_eq_true (by omega)
      have e3 : decide (((r.length + 4 : Nat) : Int) = 3) = false := decide_eq_false (by omega)
      simp only [ht, hl, Tr.ret_bind, cLt_int, cGt_int, cEq_str, cEq_int, ix0, asI_int, sl1, Bool.not_true, e1, e2, e3]
      cases isW w "table" <;> rfl
  | _ => rfl

/-- the sum of what f tells of each -/
def cntAll (f : PyData → Option Int) : List PyData → Option Int
  | [] => some 0
  | y :: ys => match f y with
    | some c => (cntAll f ys).map (c + ·)
    | none => none
/-- how many kinds there are, where no more than d stand inside one another -/
def cntK : Nat → PyData → Option Int
  | 0, _ => none
  | d + 1, x => match shape x with
    | some l => (cntAll (cntK d) l).map (1 + ·)
    | none => none
def optI : Option Int → PyData
  | some c => .int c
  | none => .none
theorem optI_non (o : Option Int) : Cg.isNon (optI o) = !o.isSome := by cases o <;> rfl
theorem count_eq : ∀ (n d : Nat) (x : PyData), d < n → m_count_kinds n x (.int d) = .ret (optI (cntK d x))
  | 0, _, _, h => absurd h (by omega)
  | n + 1, d, x, h => by
    rw [m_count_kinds, inner_eq, Tr.ret_bind]
    cases d with
    | zero =>
      cases shape x with
      | none => rfl
      | some l => rfl
    | succ d =>
      cases hs : shape x with
      | none => simp only [cntK, hs]; rfl
      | some l =>
        have e0 : decide (((d + 1 : Nat) : Int) < 1) = false := decide_eq_false (by omega)
        have e1 : dSub (.int ((d + 1 : Nat) : Int)) (.int 1) = .ret (.int (d : Int)) := by
          show Tr.ret (PyData.int (((d + 1 : Nat) : Int) - 1)) = _
          congr 2
          omega
        have ni : Cg.isNon (optT (some l)) = false := rfl
        have it : items (optT (some l)) = .ret l := rfl
        simp only [ni, it, e0, e1, Tr.ret_bind, cLt_int, cntK, hs, Bool.false_eq_true, if_false]
        have key : ∀ (ys : List PyData) (t : Int), forC id (fun (v_inner : PyData) (x31 : PyData) => ((m_count_kinds n v_inner (PyData.int (d : Int))).bind fun v_many => if (Cg.isNon v_many) = true then Tr.ret (Ct.rt PyData.none) else (asI x31).bind fun a => (asI v_many).bind fun b => Tr.ret (Ct.nx (PyData.int (a + b))) : Tr (Ct (PyData)))) (fun x31 => Tr.ret x31) ys (.int t)
            = .ret (optI ((cntAll (cntK d) ys).map (t + ·))) := by
          intro ys
          induction ys with
          | nil =>
            intro t
            show Tr.ret (PyData.int t) = Tr.ret (PyData.int (t + 0))
            rw [Int.add_zero]
          | cons y ys ih =>
            intro t
            simp only [forC, count_eq n d y (by omega), Tr.ret_bind, cntAll]
            cases hc : cntK d y with
            | none => rfl
            | some c =>
              show forC _ _ _ ys (PyData.int (t + c)) = _
              rw [ih (t + c)]
              cases cntAll (cntK d) ys with
              | none => rfl
              | some r => 
                show Tr.ret (PyData.int (t + c + r)) = Tr.ret (PyData.int (t + (c + r)))
                rw [Int.add_assoc]
        exact key l 1

/-! ### the check -/
/-- a kind: at most five inside one another, at most twenty -/
def isK (x : PyData) : Bool := match cntK 5 x with
  | some c => decide (c ≤ 20)
  | none => false
theorem check_eq (x : PyData) : m_check_kind x = if isK x then .ret .none else .exc Ek.kind := by
  unfold m_check_kind b_check_kind isK
  rw [show (PyData.int 5) = PyData.int ((5 : Nat) : Int) from rfl, count_eq 8 5 x (by omega)]
  cases cntK 5 x with
  | none => rfl
  | some c =>
    show ((Tr.ret (decide (20 < c))).bind fun x35 => if x35 then Tr.exc Ek.kind else Tr.ret ()).bind (fun _ => Tr.ret PyData.none) = if decide (c ≤ 20) = true then Tr.ret PyData.none else Tr.exc Ek.kind
    by_cases h : c ≤ 20
    · rw [decide_eq_true h, decide_eq_false (show ¬ 20 < c by omega)]
      rfl
    · rw [decide_eq_false h, decide_eq_true (show 20 < c by omega)]
      rfl
/-! ### how many, as the law counts -/
theorem lawInner_eq {x : PyData} {l : List PyData} (h : shape x = some l) : m__law_inner x = .ret (.list l) := by
  cases x with
  | tuple xs =>
    match xs, h with
    | [], h => cases h
    | [_], h => cases h
    | [w, a], h =>
      unfold m__law_inner
      simp only [ix0, ix1, Tr.ret_bind, cIn_2, cNe_str, asI_int, sl1]
      simp only [shape] at h
      by_cases h1 : isW w "number" = true
      · cases isW_yes h1
        by_cases h2 : okNum a = true
        · simp [h1, h2] at h
          rw [h]
          rfl
        · simp [h1, h2] at h
      · by_cases h2 : (isW w "row" || (isW w "set" || isW w "bag")) = true
        · simp only [h1, h2, if_true, if_false, Bool.false_eq_true, Option.some.injEq] at h
          rw [← h]
          have h3 : (isW w "record" || isW w "choice") = false := by
            rcases Bool.or_eq_true_iff.mp h2 with h | h
            · cases isW_yes h
              rfl
            · rcases Bool.or_eq_true_iff.mp h with h | h
              · cases isW_yes h
                rfl
              · cases isW_yes h
                rfl
          simp [h1, h3, dList]
        · by_cases h3 : isW w "record" = true
          · cases a with
            | tuple ys =>
              simp only [h1, h2, h3, if_true, if_false, Bool.false_eq_true] at h
              split at h
              · cases h
                simp [h3, dList]
              · cases h
            | _ => simp [h1, h2, h3] at h
          · by_cases h4 : isW w "choice" = true
            · cases a with
              | tuple ys =>
                simp only [h1, h2, h3, h4, if_true, if_false, Bool.false_eq_true] at h
                split at h
                · cases h
                  simp [h3, h4, dList]
                · cases h
              | _ => simp [h1, h2, h3, h4] at h
            · simp [h1, h2, h3, h4] at h
    | [w, a, b], h =>
      simp only [shape] at h
      by_cases h1 : isW w "table" = true
      · simp [h1] at h
        cases isW_yes h1
        rw [← h]
        unfold m__law_inner
        simp only [ix0, Tr.ret_bind, cIn_2, cNe_str, asI_int, sl1]
        rfl
      · simp [h1] at h
    | _ :: _ :: _ :: _ :: _, h => cases h
  | _ => cases h
theorem asInts_map : ∀ ns : List Int, asInts (ns.map PyData.int) = some ns
  | [] => rfl
  | n :: ns => by
    show (asInts (ns.map PyData.int)).map (n :: ·) = _
    rw [asInts_map ns]
    rfl
theorem many_eq : ∀ (n d : Nat) (x : PyData) (c : Int), d < n → cntK d x = some c → m__law_many n x = .ret (.int c)
  | 0, _, _, _, h, _ => absurd h (by omega)
  | n + 1, 0, x, c, h, e => by cases e
  | n + 1, d + 1, x, c, h, e => by
    simp only [cntK] at e
    cases hs : shape x with
    | none =>
      rw [hs] at e
      cases e
    | some l =>
      rw [hs] at e
      rw [m__law_many, lawInner_eq hs]
      have key : ∀ (ys : List PyData) (t : Int), cntAll (cntK d) ys = some t → ∃ ns : List Int, mapT (fun v_one => m__law_many n v_one) ys = .ret (ns.map PyData.int) ∧ ns.sum = t := by
        intro ys
        induction ys with
        | nil =>
          intro t ht
          exact ⟨[], rfl, Option.some.inj ht⟩
        | cons y ys ih =>
          intro t ht
          simp only [cntAll] at ht
          cases hy : cntK d y with
          | none =>
            rw [hy] at ht
            cases ht
          | some k =>
            rw [hy] at ht
            cases hr : cntAll (cntK d) ys with
            | none =>
              rw [hr] at ht
              cases ht
            | some r =>
              rw [hr] at ht
              obtain ⟨ns, h1, h2⟩ := ih r hr
              refine ⟨k :: ns, ?_, ?_⟩
              · show (m__law_many n y).bind _ = _
                rw [many_eq n d y k (by omega) hy, Tr.ret_bind, h1]
                rfl
              · rw [List.sum_cons, h2]
                exact Option.some.inj ht
      cases hl : cntAll (cntK d) l with
      | none =>
        simp only [hl] at e
        cases e
      | some t =>
        simp only [hl] at e
        obtain ⟨ns, h1, h2⟩ := key l t hl
        have e3 : dSum (.list (ns.map PyData.int)) = .ret (.int t) := by
          unfold dSum
          simp only [asInts_map, h2]
        simp only [Tr.ret_bind, items, h1, e3]
        exact congrArg (fun z => Tr.ret (PyData.int z)) (Option.some.inj e)
theorem map_ret {f : PyData → Tr PyData} {g : PyData → PyData} : ∀ (ys : List PyData), (∀ y ∈ ys, f y = .ret (g y)) → mapT f ys = .ret (ys.map g)
  | [], _ => rfl
  | y :: ys, h => by
    show (f y).bind _ = _
    rw [h y (List.mem_cons_self ..), Tr.ret_bind, map_ret ys fun z hz => h z (List.mem_cons_of_mem _ hz)]
    rfl
theorem map_pure (g : PyData → PyData) (ys : List PyData) : mapT (fun y => Tr.ret (g y)) ys = .ret (ys.map g) := map_ret ys fun _ _ => rfl
/-! ### what is drawn -/
abbrev F0 : Ek → Prop := fun _ => False
def Nice (l : Nat) : Nat → PyData → Prop
  | 0, x => Cg.isTup x = false
  | d + 1, x => match x with
    | .tuple xs => xs.length ≤ l ∧ ∀ y ∈ xs, Nice l d y
    | _ => True
theorem nice_flat {l d : Nat} {x : PyData} (h : Cg.isTup x = false) : Nice l d x := by
  cases d with
  | zero => exact h
  | succ d =>
    cases x with
    | tuple xs => exact Bool.noConfusion h
    | _ => exact trivial
theorem nice_mono : ∀ (d d' l l' : Nat) (x : PyData), d ≤ d' → l ≤ l' → Nice l d x → Nice l' d' x
  | 0, d', l, l', x, _, _, h => nice_flat h
  | d + 1, 0, l, l', x, h1, _, _ => absurd h1 (by omega)
  | d + 1, d' + 1, l, l', x, h1, h2, h => by
    cases x with
    | tuple xs => exact ⟨Nat.le_trans h.1 h2, fun y hy => nice_mono d d' l l' y (by omega) h2 (h.2 y hy)⟩
    | _ => exact trivial
theorem nice_tup {l d m : Nat} {xs : List PyData} (h : xs.length ≤ l) (hx : ∀ y ∈ xs, Nice l d y) (hm : d + 1 ≤ m) : Nice l m (.tuple xs) :=
  nice_mono (d + 1) m l l _ hm (Nat.le_refl l) ⟨h, hx⟩
theorem take_wp {m : Int} {Q : PyData → Prop} (h1 : 1 ≤ m) (h2 : m < 1073741824) (h : ∀ i : Nat, (i : Int) < m → Q (.int (i : Int))) : (takeT (.int m)).wp Q F0 := by
  show Tr.wp Q F0 (if 1 ≤ m ∧ m < 1073741824 then Tr.draw m.toNat fun i => Tr.ret (PyData.int (i : Int)) else Tr.bad)
  rw [if_pos ⟨h1, h2⟩]
  exact fun i hi => h i (by omega)
/-- what a draw keeps, told of any that draws so -/
def Draws (tk : PyData → Tr PyData) : Prop := ∀ {m : Int} {Q : PyData → Prop}, 1 ≤ m → m < 1073741824 → (∀ i : Nat, (i : Int) < m → Q (.int (i : Int))) → (tk (.int m)).wp Q F0
theorem take_draws : ∃ tk, takeT = tk ∧ Draws tk := ⟨takeT, rfl, take_wp⟩
theorem pick_wp {xs : List PyData} {Q : PyData → Prop} (h1 : 1 ≤ xs.length) (h2 : xs.length < 1000000) (h : ∀ y ∈ xs, Q y) : (m__law_pick (.list xs)).wp Q F0 := by
  unfold m__law_pick
  rw [show dLen (.list xs) = .ret (.int xs.length) from rfl, Tr.ret_bind]
  refine Tr.wp_bind.mpr (take_wp (by omega) (by omega) fun i hi => ?_)
  have hi' : i < xs.length := by omega
  rw [ixL_nat (List.getElem?_eq_getElem hi')]
  exact h _ (List.getElem_mem hi')
theorem map_wp {P : PyData → Prop} {f : PyData → Tr PyData} : ∀ (xs : List PyData), (∀ x ∈ xs, (f x).wp P F0) → (mapT f xs).wp (fun ys => ys.length = xs.length ∧ ∀ y ∈ ys, P y) F0
  | [], _ => ⟨rfl, fun y hy => nomatch hy⟩
  | x :: xs, h => by
    refine Tr.wp_bind.mpr (Tr.wp_mono (fun y hy => ?_) (fun _ z => z) (h x (List.mem_cons_self ..)))
    refine Tr.wp_bind.mpr (Tr.wp_mono (fun ys hys => ?_) (fun _ z => z) (map_wp xs fun z hz => h z (List.mem_cons_of_mem _ hz)))
    refine ⟨congrArg (· + 1) hys.1, fun z hz => ?_⟩
    rcases List.mem_cons.mp hz with rfl | hz
    · exact hy
    · exact hys.2 z hz
theorem range_eq {c : Int} (h0 : 0 ≤ c) (h1 : c ≤ 1000) : rangeT (.int 0) (.int c) = .ret (rng 0 c.toNat) := by
  unfold rangeT
  show (if _ then _ else _) = _
  rw [if_pos (by refine ⟨by omega, by omega, by omega, by omega, by omega⟩), Int.sub_zero]

def KOk (d : Nat) (x : PyData) : Prop := (cntK d x).isSome = true ∧ Nice 4 (2 * d) x
theorem all_of {f : PyData → Option Int} : ∀ {ys : List PyData}, (∀ y ∈ ys, (f y).isSome = true) → ∃ t, cntAll f ys = some t
  | [], _ => ⟨0, rfl⟩
  | y :: ys, h => by
    obtain ⟨t, e⟩ := all_of (ys := ys) fun z hz => h z (List.mem_cons_of_mem _ hz)
    obtain ⟨c, e'⟩ := Option.isSome_iff_exists.mp (h y (List.mem_cons_self ..))
    exact ⟨c + t, by simp only [cntAll, e', e]; rfl⟩
theorem KOk.of {d : Nat} {x : PyData} {l : List PyData} (hs : shape x = some l) (hl : ∀ y ∈ l, KOk d y) (hn : Nice 4 (2 * (d + 1)) x) : KOk (d + 1) x := by
  refine ⟨?_, hn⟩
  obtain ⟨t, e⟩ := all_of (f := cntK d) fun y hy => (hl y hy).1
  simp only [cntK, hs, e]
  rfl
theorem KOk.num {d : Nat} {i : Int} (h1 : 2 ≤ i) (h2 : i ≤ 1000) : KOk (d + 1) (.tuple [.str "number", .int i]) := by
  refine KOk.of (l := []) ?_ (fun y hy => nomatch hy) ?_
  · have e : okNum (.int i) = true := by
      simp only [okNum, decide_eq_true h1, decide_eq_true h2, Bool.and_self]
    show (if okNum (.int i) then some [] else none) = _
    rw [if_pos e]
  · refine nice_tup (d := 0) (by show 2 ≤ 4; omega) (fun y hy => ?_) (by omega)
    rcases List.mem_cons.mp hy with rfl | hy
    · exact rfl
    · cases List.mem_singleton.mp hy
      exact rfl
theorem KOk.row {d : Nat} {w : Str} {a : PyData} (hw : w = "row" ∨ w = "set" ∨ w = "bag") (h : KOk d a) : KOk (d + 1) (.tuple [.str w, a]) := by
  refine KOk.of (l := [a]) ?_ (fun y hy => ?_) ?_
  · rcases hw with rfl | rfl | rfl <;> rfl
  · cases List.mem_singleton.mp hy
    exact h
  · refine nice_tup (d := 2 * d) (by show 2 ≤ 4; omega) (fun y hy => ?_) (by omega)
    rcases List.mem_cons.mp hy with rfl | hy
    · exact nice_flat rfl
    · cases List.mem_singleton.mp hy
      exact h.2
theorem KOk.tab {d : Nat} {a b : PyData} (ha : KOk d a) (hb : KOk d b) : KOk (d + 1) (.tuple [.str "table", a, b]) := by
  refine KOk.of (l := [a, b]) rfl (fun y hy => ?_) ?_
  · rcases List.mem_cons.mp hy with rfl | hy
    · exact ha
    · cases List.mem_singleton.mp hy
      exact hb
  · refine nice_tup (d := 2 * d) (by show 3 ≤ 4; omega) (fun y hy => ?_) (by omega)
    rcases List.mem_cons.mp hy with rfl | hy
    · exact nice_flat rfl
    · rcases List.mem_cons.mp hy with rfl | hy
      · exact ha.2
      · cases List.mem_singleton.mp hy
        exact hb.2
theorem KOk.rec {d : Nat} {w : Str} {ys : List PyData} (hw : w = "record" ∧ 1 ≤ ys.length ∨ w = "choice" ∧ 2 ≤ ys.length) (h4 : ys.length ≤ 4) (h : ∀ y ∈ ys, KOk d y) : KOk (d + 1) (.tuple [.str w, .tuple ys]) := by
  refine KOk.of (l := ys) ?_ h ?_
  · rcases hw with ⟨rfl, h1⟩ | ⟨rfl, h1⟩
    · show (if 1 ≤ ys.length ∧ ys.length ≤ 4 then some ys else none) = _
      rw [if_pos ⟨h1, h4⟩]
    · show (if 2 ≤ ys.length ∧ ys.length ≤ 4 then some ys else none) = _
      rw [if_pos ⟨h1, h4⟩]
  · refine nice_tup (d := 2 * d + 1) (by show 2 ≤ 4; omega) (fun y hy => ?_) (by omega)
    rcases List.mem_cons.mp hy with rfl | hy
    · exact nice_flat rfl
    · cases List.mem_singleton.mp hy
      exact nice_tup (d := 2 * d) h4 (fun y hy => (h y hy).2) (by omega)

theorem wp_of_eq {α : Type} {t : Tr α} {a : α} {Q : α → Prop} {E : Ek → Prop} (e : t = .ret a) (h : Q a) : t.wp Q E := by
  rw [e]
  exact h
/-- the same of a pick from a menu -/
def Picks (pk : PyData → Tr PyData) : Prop := ∀ {xs : List PyData} {Q : PyData → Prop}, 1 ≤ xs.length → xs.length < 1000000 → (∀ y ∈ xs, Q y) → (pk (.list xs)).wp Q F0
theorem pick_draws : ∃ pk, m__law_pick = pk ∧ Picks pk := ⟨m__law_pick, rfl, pick_wp⟩
theorem num_wp {tk pk : PyData → Tr PyData} (tw : Draws tk) (pw : Picks pk) (d : Nat) : (((((tk (PyData.int 999)).bind fun x39 => dAdd (PyData.int 2) x39).bind fun x40 => Tr.ret (PyData.list [(PyData.int 2), (PyData.int 2), (PyData.int 3), (PyData.int 5), (PyData.int 10), (PyData.int 1000), x40])).bind fun x41 => pk x41).bind fun x42 => Tr.ret (PyData.tuple [(PyData.str "number"), x42])).wp (KOk (d + 1)) F0 := by
  rw [Tr.wp_bind, Tr.wp_bind, Tr.wp_bind, Tr.wp_bind]
  refine tw (m := 999) (Q := fun a => _) ?_ ?_ fun i hi => ?_
  · decide
  · decide
  have hi' : (i : Int) < 999 := hi
  simp only [dAdd, Tr.wp]
  refine pw (by show 1 ≤ 7; omega) (by show 7 < 1000000; omega) fun y hy => ?_
  have hy' : y ∈ [(PyData.int 2), (PyData.int 2), (PyData.int 3), (PyData.int 5), (PyData.int 10), (PyData.int 1000), PyData.int (2 + (i : Int))] := hy
  simp only [List.mem_cons, List.not_mem_nil, or_false] at hy'
  rcases hy' with rfl | rfl | rfl | rfl | rfl | rfl | rfl
  · exact KOk.num (by omega) (by omega)
  · exact KOk.num (by omega) (by omega)
  · exact KOk.num (by omega) (by omega)
  · exact KOk.num (by omega) (by omega)
  · exact KOk.num (by omega) (by omega)
  · exact KOk.num (by omega) (by omega)
  · exact KOk.num (by omega) (by omega)
theorem kind_wp : ∀ (n d : Nat) (k : Int), d < n → k ≤ (d : Int) + 1 → (m__law_kind n (.int k)).wp (KOk (d + 1)) F0
  | 0, _, _, h, _ => absurd h (by omega)
  | n + 1, d, k, h, hk => by
    obtain ⟨tk, htk, tw⟩ := take_draws
    obtain ⟨pk, hpk, pw⟩ := pick_draws
    have num := num_wp tw pw d
    rw [m__law_kind, htk, hpk]
    refine Tr.wp_bind.mpr (tw (by decide) (by decide) fun sort hsort => ?_)
    rw [cLe_int]
    show Tr.wp _ _ ((if decide (k ≤ 1) = true then Tr.ret true else _).bind _)
    by_cases hk1 : k ≤ 1
    · simp only [decide_eq_true hk1, if_true, Tr.ret_bind]
      exact num
    · rw [decide_eq_false hk1]
      simp only [cLt_int, Tr.ret_bind, cEq_int, Bool.false_eq_true, if_false]
      by_cases s1 : (sort : Int) < 2
      · simp only [decide_eq_true s1, if_true]
        exact num
      · rw [if_neg (by rw [decide_eq_true_eq]; exact s1)]
        obtain ⟨e, rfl⟩ : ∃ e, d = e + 1 := ⟨d - 1, by omega⟩
        have ih1 : (m__law_kind n (.int (k - 1))).wp (KOk (e + 1)) F0 := kind_wp n e (k - 1) (by omega) (by omega)
        have ih2 : (m__law_kind n (.int (k - 2))).wp (KOk (e + 1)) F0 := kind_wp n e (k - 2) (by omega) (by omega)
        have d1 : dSub (.int k) (.int 1) = .ret (.int (k - 1)) := rfl
        have d2 : dSub (.int k) (.int 2) = .ret (.int (k - 2)) := rfl
        simp only [d1, d2, Tr.ret_bind]
        have many : ∀ (w : Str) (lo : Int) (menu : List PyData), 1 ≤ menu.length → menu.length < 1000000 → (∀ y ∈ menu, ∃ c : Int, y = .int c ∧ lo ≤ c ∧ c ≤ 4) → (w = "record" ∧ lo = 1 ∨ w = "choice" ∧ lo = 2) →
            ((((pk (.list menu)).bind fun x44 => (rangeT (.int 0) x44).bind fun x45 => (mapT (fun v_k => m__law_kind n (.int (k - 1))) x45).bind fun x46 => Tr.ret (PyData.list x46)).bind fun x47 => dTuple x47).bind fun x48 => Tr.ret (PyData.tuple [(PyData.str w), x48])).wp (KOk (e + 1 + 1)) F0 := by
          intro w lo menu h1 h2 hm hw
          refine Tr.wp_bind.mpr (Tr.wp_bind.mpr (Tr.wp_bind.mpr (pw h1 h2 fun y hy => ?_)))
          obtain ⟨c, rfl, hc1, hc2⟩ := hm y hy
          have hlo : 1 ≤ lo := by
            rcases hw with ⟨_, rfl⟩ | ⟨_, rfl⟩ <;> omega
          rw [range_eq (by omega) (by omega), Tr.ret_bind]
          refine Tr.wp_bind.mpr (Tr.wp_mono (fun ys hys => ?_) (fun _ z => z) (map_wp (P := KOk (e + 1)) _ fun _ _ => ih1))
          have hl : ys.length = c.toNat := by rw [hys.1, rng_len]
          refine KOk.rec ?_ (by omega) hys.2
          rcases hw with ⟨rfl, rfl⟩ | ⟨rfl, rfl⟩
          · exact .inl ⟨rfl, by omega⟩
          · exact .inr ⟨rfl, by omega⟩
        by_cases s2 : (sort : Int) < 4
        · rw [if_pos (decide_eq_true s2)]
          refine many "record" 1 _ (by show 1 ≤ 5; omega) (by show 5 < 1000000; omega) (fun y hy => ?_) (.inl ⟨rfl, rfl⟩)
          simp only [List.mem_cons, List.not_mem_nil, or_false] at hy
          rcases hy with rfl | rfl | rfl | rfl | rfl <;> exact ⟨_, rfl, by omega, by omega⟩
        · rw [if_neg (by rw [decide_eq_true_eq]; exact s2)]
          by_cases s3 : (sort : Int) = 4
          · rw [if_pos (decide_eq_true s3)]
            refine many "choice" 2 _ (by show 1 ≤ 4; omega) (by show 4 < 1000000; omega) (fun y hy => ?_) (.inr ⟨rfl, rfl⟩)
            simp only [List.mem_cons, List.not_mem_nil, or_false] at hy
            rcases hy with rfl | rfl | rfl | rfl <;> exact ⟨_, rfl, by omega, by omega⟩
          · rw [if_neg (by rw [decide_eq_true_eq]; exact s3)]
            by_cases s4 : (sort : Int) < 7
            · rw [if_pos (decide_eq_true s4)]
              exact Tr.wp_bind.mpr (Tr.wp_mono (fun a ha => KOk.row (.inl rfl) ha) (fun _ z => z) ih1)
            · rw [if_neg (by rw [decide_eq_true_eq]; exact s4)]
              by_cases s5 : (sort : Int) < 9
              · rw [if_pos (decide_eq_true s5)]
                refine Tr.wp_bind.mpr (pw (by show 1 ≤ 2; omega) (by show 2 < 1000000; omega) fun y hy => ?_)
                refine Tr.wp_bind.mpr (Tr.wp_mono (fun a ha => ?_) (fun _ z => z) ih1)
                simp only [List.mem_cons, List.not_mem_nil, or_false] at hy
                rcases hy with rfl | rfl
                · exact KOk.row (.inr (.inl rfl)) ha
                · exact KOk.row (.inr (.inr rfl)) ha
              · rw [if_neg (by rw [decide_eq_true_eq]; exact s5)]
                refine Tr.wp_bind.mpr (Tr.wp_mono (fun a ha => ?_) (fun _ z => z) ih2)
                exact Tr.wp_bind.mpr (Tr.wp_mono (fun b hb => KOk.tab ha hb) (fun _ z => z) ih1)
theorem cnt_more : ∀ (d d' : Nat) (x : PyData) (c : Int), d ≤ d' → cntK d x = some c → cntK d' x = some c
  | 0, _, _, _, _, h => by cases h
  | d + 1, 0, _, _, hd, _ => absurd hd (by omega)
  | d + 1, d' + 1, x, c, hd, h => by
    simp only [cntK] at h ⊢
    cases hs : shape x with
    | none =>
      rw [hs] at h
      cases h
    | some l =>
      simp only [hs] at h ⊢
      have key : ∀ (ys : List PyData) (t : Int), cntAll (cntK d) ys = some t → cntAll (cntK d') ys = some t := by
        intro ys
        induction ys with
        | nil => exact fun t ht => ht
        | cons y ys ih =>
          intro t ht
          simp only [cntAll] at ht ⊢
          cases hy : cntK d y with
          | none =>
            simp only [hy] at ht
            cases ht
          | some k =>
            simp only [hy] at ht
            rw [cnt_more d d' y k (by omega) hy]
            cases hr : cntAll (cntK d) ys with
            | none =>
              simp only [hr] at ht
              cases ht
            | some r =>
              simp only [hr] at ht
              simp only [ih r hr]
              exact ht
      cases hl : cntAll (cntK d) l with
      | none =>
        simp only [hl] at h
        cases h
      | some t =>
        simp only [hl] at h
        rw [key l t hl]
        exact h

/-! ### kinds by their forms -/
inductive Form : PyData → List PyData → Prop
  | num (i : Int) : 2 ≤ i → i ≤ 1000 → Form (.tuple [.str "number", .int i]) []
  | row (a : PyData) : Form (.tuple [.str "row", a]) [a]
  | bag (a : PyData) : Form (.tuple [.str "bag", a]) [a]
  | set (a : PyData) : Form (.tuple [.str "set", a]) [a]
  | record (l : List PyData) : 1 ≤ l.length → l.length ≤ 4 → Form (.tuple [.str "record", .tuple l]) l
  | choice (l : List PyData) : 2 ≤ l.length → l.length ≤ 4 → Form (.tuple [.str "choice", .tuple l]) l
  | table (a b : PyData) : Form (.tuple [.str "table", a, b]) [a, b]
theorem form_of {x : PyData} {l : List PyData} (h : shape x = some l) : Form x l := by
  cases x with
  | tuple xs =>
    match xs, h with
    | [], h => cases h
    | [_], h => cases h
    | [w, a], h =>
      simp only [shape] at h
      by_cases h1 : isW w "number" = true
      · cases isW_yes h1
        rw [if_pos h1] at h
        cases a with
        | int i =>
          by_cases q : okNum (.int i) = true
          · rw [if_pos q] at h
            cases h
            simp only [okNum, Bool.and_eq_true, decide_eq_true_eq] at q
            exact .num i q.1 q.2
          · rw [if_neg q] at h
            cases h
        | _ => cases h
      · rw [if_neg h1] at h
        by_cases h2 : (isW w "row" || (isW w "set" || isW w "bag")) = true
        · rw [if_pos h2] at h
          cases h
          rcases Bool.or_eq_true_iff.mp h2 with h | h
          · cases isW_yes h
            exact .row a
          · rcases Bool.or_eq_true_iff.mp h with h | h
            · cases isW_yes h
              exact .set a
            · cases isW_yes h
              exact .bag a
        · rw [if_neg h2] at h
          by_cases h3 : isW w "record" = true
          · rw [if_pos h3] at h
            cases isW_yes h3
            cases a with
            | tuple ys =>
              by_cases q : 1 ≤ ys.length ∧ ys.length ≤ 4
              · simp only [if_pos q] at h
                cases h
                exact .record _ q.1 q.2
              · simp only [if_neg q] at h
                cases h
            | _ => cases h
          · rw [if_neg h3] at h
            by_cases h4 : isW w "choice" = true
            · rw [if_pos h4] at h
              cases isW_yes h4
              cases a with
              | tuple ys =>
                by_cases q : 2 ≤ ys.length ∧ ys.length ≤ 4
                · simp only [if_pos q] at h
                  cases h
                  exact .choice _ q.1 q.2
                · simp only [if_neg q] at h
                  cases h
              | _ => cases h
            · rw [if_neg h4] at h
              cases h
    | [w, a, b], h =>
      simp only [shape] at h
      by_cases h1 : isW w "table" = true
      · rw [if_pos h1] at h
        cases h
        cases isW_yes h1
        exact .table a b
      · rw [if_neg h1] at h
        cases h
    | _ :: _ :: _ :: _ :: _, h => cases h
  | _ => cases h
theorem kind_of {d : Nat} {x : PyData} (h : (cntK (d + 1) x).isSome = true) : ∃ l, shape x = some l ∧ Form x l ∧ ∀ y ∈ l, (cntK d y).isSome = true := by
  simp only [cntK] at h
  cases hs : shape x with
  | none =>
    rw [hs] at h
    cases h
  | some l =>
    refine ⟨l, rfl, form_of hs, ?_⟩
    simp only [hs] at h
    have key : ∀ ys : List PyData, (cntAll (cntK d) ys).isSome = true → ∀ y ∈ ys, (cntK d y).isSome = true := by
      intro ys
      induction ys with
      | nil => exact fun _ y hy => nomatch hy
      | cons z zs ih =>
        intro h y hy
        simp only [cntAll] at h
        cases hz : cntK d z with
        | none =>
          simp only [hz] at h
          cases h
        | some c =>
          simp only [hz, Option.isSome_map] at h
          rcases List.mem_cons.mp hy with rfl | hy
          · rw [hz]
            rfl
          · exact ih h y hy
    refine key l ?_
    rw [Option.isSome_map] at h
    exact h

/-! ### numbers of values, up to a bound -/
def lim (most : Int) : Option Int → Option Int
  | some v => if v ≤ most then some v else none
  | none => none
theorem lim_some {most v : Int} (h : v ≤ most) : lim most (some v) = some v := if_pos h
theorem lim_none {most v : Int} (h : most < v) : lim most (some v) = none := if_neg (by omega)
def sumI : List Int → Int
  | [] => 0
  | c :: cs => c + sumI cs
def prodI : List Int → Int
  | [] => 1
  | c :: cs => c * prodI cs
def allO : List (Option Int) → Option (List Int)
  | [] => some []
  | some c :: os => (allO os).map (c :: ·)
  | none :: _ => none
theorem allO_some : ∀ {os : List (Option Int)} {cs : List Int}, allO os = some cs → os = cs.map some
  | [], cs, h => by
    cases h
    rfl
  | some c :: os, cs, h => by
    simp only [allO] at h
    cases e : allO os with
    | none =>
      rw [e] at h
      cases h
    | some r =>
      rw [e] at h
      cases h
      rw [List.map_cons, ← allO_some e]
  | none :: os, cs, h => by cases h
theorem allO_none : ∀ {os : List (Option Int)}, allO os = none → none ∈ os
  | [], h => by cases h
  | some c :: os, h => by
    simp only [allO] at h
    refine List.mem_cons_of_mem _ (allO_none ?_)
    cases e : allO os with
    | none => rfl
    | some r =>
      rw [e] at h
      cases h
  | none :: os, h => List.mem_cons_self ..
theorem prod_pos : ∀ {cs : List Int}, (∀ c ∈ cs, 2 ≤ c) → 1 ≤ prodI cs
  | [], _ => by
    show (1 : Int) ≤ 1
    omega
  | c :: cs, h => by
    have h1 := h c (List.mem_cons_self ..)
    have h2 := prod_pos (cs := cs) fun z hz => h z (List.mem_cons_of_mem _ hz)
    have h3 : 1 * 1 ≤ c * prodI cs := Int.mul_le_mul (by omega) h2 (by omega) (by omega)
    show 1 ≤ c * prodI cs
    omega
theorem prod_ge : ∀ {cs : List Int}, (∀ c ∈ cs, 2 ≤ c) → ∀ c ∈ cs, c ≤ prodI cs
  | [], _, c, hc => nomatch hc
  | z :: cs, h, c, hc => by
    have h1 := h z (List.mem_cons_self ..)
    have h2 := prod_pos (cs := cs) fun z hz => h z (List.mem_cons_of_mem _ hz)
    show c ≤ z * prodI cs
    rcases List.mem_cons.mp hc with rfl | hc
    · have h3 : c * 1 ≤ c * prodI cs := Int.mul_le_mul_of_nonneg_left h2 (by omega)
      omega
    · have h4 := prod_ge (cs := cs) (fun z hz => h z (List.mem_cons_of_mem _ hz)) c hc
      have h3 : 1 * prodI cs ≤ z * prodI cs := Int.mul_le_mul_of_nonneg_right (by omega) (by omega)
      omega
theorem sum_nn : ∀ {cs : List Int}, (∀ c ∈ cs, 2 ≤ c) → 0 ≤ sumI cs
  | [], _ => Int.le_refl 0
  | z :: cs, h => by
    have h1 := h z (List.mem_cons_self ..)
    have h2 := sum_nn (cs := cs) fun z hz => h z (List.mem_cons_of_mem _ hz)
    show 0 ≤ z + sumI cs
    omega
theorem sum_ge : ∀ {cs : List Int}, (∀ c ∈ cs, 2 ≤ c) → ∀ c ∈ cs, c ≤ sumI cs
  | [], _, c, hc => nomatch hc
  | z :: cs, h, c, hc => by
    have h1 := h z (List.mem_cons_self ..)
    have h2 := sum_nn (cs := cs) fun z hz => h z (List.mem_cons_of_mem _ hz)
    show c ≤ z + sumI cs
    rcases List.mem_cons.mp hc with rfl | hc
    · omega
    · have h4 := sum_ge (cs := cs) (fun z hz => h z (List.mem_cons_of_mem _ hz)) c hc
      omega
theorem sum_eq : ∀ cs : List Int, cs.sum = sumI cs
  | [] => rfl
  | c :: cs => by
    rw [List.sum_cons, sum_eq cs]
    rfl
theorem prod_rep (b : Int) : ∀ k : Nat, prodI (List.replicate k b) = b ^ k
  | 0 => by
    rw [Int.pow_zero]
    rfl
  | k + 1 => by
    show b * prodI (List.replicate k b) = b ^ (k + 1)
    rw [prod_rep b k, Int.pow_succ, Int.mul_comm]
theorem pow_cast (b : Int) (hb : 0 ≤ b) (k : Nat) : b ^ k = ((b.toNat ^ k : Nat) : Int) := by
  rw [Int.natCast_pow, Int.toNat_of_nonneg hb]
theorem pow_gt1 {c : Int} {most : Int} (h : most < c) (h2 : 2 ≤ c) : most < 2 ^ c.toNat := by
  rw [pow_cast 2 (by omega)]
  have h3 : c.toNat < 2 ^ c.toNat := Nat.lt_two_pow_self
  have e : (2 : Int).toNat = 2 := rfl
  rw [e]
  omega
theorem pow_12 {c : Int} (h : 12 < c) : (2000 : Int) < 2 ^ c.toNat := by
  rw [pow_cast 2 (by omega)]
  have e : (2 : Int).toNat = 2 := rfl
  have h3 : 2 ^ 13 ≤ 2 ^ c.toNat := Nat.pow_le_pow_right (by omega) (by omega)
  have h4 : (2 : Nat) ^ 13 = 8192 := rfl
  rw [e]
  omega
theorem pow_ge {e k : Int} (he : 2 ≤ e) (hk : 2 ≤ k) : e < (1 + e) ^ k.toNat := by
  rw [pow_cast (1 + e) (by omega)]
  have h3 : (1 + e).toNat ^ 1 ≤ (1 + e).toNat ^ k.toNat := Nat.pow_le_pow_right (by omega) (by omega)
  rw [Nat.pow_one] at h3
  omega
theorem pow_8 {e k : Int} (he : 2 ≤ e) (hk : 8 < k) : (2000 : Int) < (1 + e) ^ k.toNat := by
  rw [pow_cast (1 + e) (by omega)]
  have h2 : 3 ^ 9 ≤ (1 + e).toNat ^ 9 := Nat.pow_le_pow_left (by omega) 9
  have h3 : (1 + e).toNat ^ 9 ≤ (1 + e).toNat ^ k.toNat := Nat.pow_le_pow_right (by omega) (by omega)
  have h4 : (3 : Nat) ^ 9 = 19683 := rfl
  omega
theorem pow_gt2 {e k most : Int} (he : 2 ≤ e) (hk : most < k) (h2 : 2 ≤ k) : most < (1 + e) ^ k.toNat := by
  rw [pow_cast (1 + e) (by omega)]
  have h2' : 2 ^ k.toNat ≤ (1 + e).toNat ^ k.toNat := Nat.pow_le_pow_left (by omega) _
  have h3 : k.toNat < 2 ^ k.toNat := Nat.lt_two_pow_self
  omega

/-! ### the two counts -/
theorem cIn_none (ds : List PyData) : cIn .none (.list ds) = .ret (ds.any fun y => Cg.isNon y) := by
  unfold cIn
  show (if min (PyData.depthAll ds) PyData.none.depth ≤ 64 then Tr.ret (memD .none ds) else .bad) = _
  have e : PyData.none.depth = 0 := by simp [PyData.depth]
  rw [e, Nat.min_zero, if_pos (by omega)]
  congr 1
  unfold memD
  congr 1
  funext y
  cases y <;> simp [PyData.eqv, Cg.isNon]
theorem any_lims (most : Int) (os : List (Option Int)) : (os.map fun o => optI (lim most o)).any (fun y => Cg.isNon y) = os.any fun o => (lim most o).isNone := by
  rw [List.any_map]
  congr 1
  funext o
  show Cg.isNon (optI (lim most o)) = _
  cases lim most o <;> rfl
/-- either all are there and within, or it is told -/
theorem lims_or (most : Int) (os : List (Option Int)) : (∃ cs, allO os = some cs ∧ (∀ c ∈ cs, c ≤ most) ∧ (os.map fun o => optI (lim most o)) = cs.map PyData.int ∧ (os.any fun o => (lim most o).isNone) = false) ∨
    ((os.any fun o => (lim most o).isNone) = true ∧ (allO os = none ∨ ∃ cs, allO os = some cs ∧ ∃ c ∈ cs, most < c)) := by
  cases h : allO os with
  | none => exact .inr ⟨List.any_eq_true.mpr ⟨none, allO_none h, rfl⟩, .inl rfl⟩
  | some cs =>
    have e := allO_some h
    by_cases q : ∀ c ∈ cs, c ≤ most
    · refine .inl ⟨cs, rfl, q, ?_, ?_⟩
      · rw [e, List.map_map]
        refine List.map_congr_left fun c hc => ?_
        show optI (lim most (some c)) = _
        rw [lim_some (q c hc)]
        rfl
      · rw [e, List.any_map]
        refine List.any_eq_false.mpr fun c hc => ?_
        show ¬ (lim most (some c)).isNone = true
        rw [lim_some (q c hc)]
        exact Bool.false_ne_true
    · have q' : ∃ c ∈ cs, most < c := by
        refine Classical.byContradiction fun z => q fun c hc => ?_
        refine Classical.byContradiction fun y => z ⟨c, hc, by omega⟩
      obtain ⟨c, hc, hl⟩ := q'
      refine .inr ⟨List.any_eq_true.mpr ⟨some c, by rw [e]; exact List.mem_map_of_mem hc, ?_⟩, .inr ⟨cs, rfl, c, hc, hl⟩⟩
      rw [lim_none hl]
      rfl
theorem mulI_eq {i j : Int} (h : -(2 ^ 64) < i ∧ i < 2 ^ 64) : mulI i j = .ret (.int (i * j)) := if_pos (.inl h)
theorem dMul_eq {i j : Int} (h : -(2 ^ 64) < j ∧ j < 2 ^ 64) : dMul (.int i) (.int j) = .ret (.int (i * j)) := by
  show (if (-(2 ^ 64) < i ∧ i < 2 ^ 64) ∨ (-(2 ^ 64) < j ∧ j < 2 ^ 64) then Tr.ret (PyData.int (i * j)) else .bad) = _
  rw [if_pos (.inr h)]
/-- the product, or anything above the bound that the product is above too -/
theorem upto_eq (most : Int) (h2 : most ≤ 2000) (cs : List Int) (hc : ∀ c ∈ cs, 2 ≤ c) : ∃ t, m_product_up_to (.list (cs.map PyData.int)) (.int most) = .ret (.int t) ∧ (t ≤ most → t = prodI cs) ∧ (most < t → most < prodI cs) := by
  unfold m_product_up_to
  simp only [Tr.ret_bind, items]
  have key : ∀ (cs : List Int) (a : Int), (∀ c ∈ cs, 2 ≤ c) → 1 ≤ a → a ≤ 2000 → ∃ t, forC id (fun (v_number : PyData) (x36 : PyData) => ((asI x36).bind fun a => (asI v_number).bind fun b => (mulI a b).bind (fun v_total => (cGt v_total (.int most)).bind fun x37 => if x37 = true then Tr.ret (Ct.rt v_total) else Tr.ret (Ct.nx v_total)) : Tr (Ct (PyData)))) (fun x36 => Tr.ret x36) (cs.map PyData.int) (.int a) = .ret (.int t) ∧ (t ≤ most → t = a * prodI cs) ∧ (most < t → most < a * prodI cs) := by
    intro cs
    induction cs with
    | nil =>
      intro a _ h1 _
      refine ⟨a, rfl, fun _ => ?_, fun h => ?_⟩
      · show a = a * 1
        omega
      · show most < a * 1
        omega
    | cons c cs ih =>
      intro a hc h1 h3
      have hc1 := hc c (List.mem_cons_self ..)
      have hc2 : ∀ z ∈ cs, 2 ≤ z := fun z hz => hc z (List.mem_cons_of_mem _ hz)
      have hp := prod_pos hc2
      have ha : 1 * 1 ≤ a * c := Int.mul_le_mul h1 (by omega) (by omega) (by omega)
      have e : a * prodI (c :: cs) = a * c * prodI cs := by
        show a * (c * prodI cs) = _
        rw [Int.mul_assoc]
      rw [List.map_cons, forC]
      simp only [asI_int, Tr.ret_bind, mulI_eq (show -(2 ^ 64) < a ∧ a < 2 ^ 64 by omega), cGt_int]
      by_cases q : most < a * c
      · refine ⟨a * c, ?_, fun z => absurd z (by omega), fun _ => ?_⟩
        · rw [if_pos (decide_eq_true q)]
          rfl
        · rw [e]
          have : a * c * 1 ≤ a * c * prodI cs := Int.mul_le_mul_of_nonneg_left hp (by omega)
          omega
      · rw [if_neg (by rw [decide_eq_true_eq]; exact q), e]
        exact ih (a * c) hc2 (by omega) (by omega)
  obtain ⟨t, h1, h3, h4⟩ := key cs 1 hc (by omega) (by omega)
  rw [Int.one_mul] at h3 h4
  exact ⟨t, h1, h3, h4⟩
/-- the last test of both -/
theorem upto_lim {most : Int} (h2 : most ≤ 2000) (cs : List Int) (hc : ∀ c ∈ cs, 2 ≤ c) : ∃ t, m_product_up_to (.list (cs.map PyData.int)) (.int most) = .ret (.int t) ∧ (if decide (t ≤ most) = true then Tr.ret (PyData.int t) else Tr.ret PyData.none) = Tr.ret (optI (lim most (some (prodI cs)))) := by
  obtain ⟨t, h1, h3, h4⟩ := upto_eq most h2 cs hc
  refine ⟨t, h1, ?_⟩
  by_cases q : t ≤ most
  · rw [if_pos (decide_eq_true q), ← h3 q, lim_some q]
    rfl
  · rw [if_neg (by rw [decide_eq_true_eq]; exact q), lim_none (h4 (by omega))]
    rfl
theorem lim_if (most v : Int) : (if decide (v ≤ most) = true then Tr.ret (PyData.int v) else Tr.ret PyData.none) = Tr.ret (optI (lim most (some v))) := by
  by_cases q : v ≤ most
  · rw [if_pos (decide_eq_true q), lim_some q]
    rfl
  · rw [if_neg (by rw [decide_eq_true_eq]; exact q), lim_none (by omega)]
    rfl
theorem sum_ints (cs : List Int) : dSum (.list (cs.map PyData.int)) = .ret (.int (sumI cs)) := by
  unfold dSum
  simp only [asInts_map, sum_eq]
theorem forN_prod : ∀ (cs : List Int) (a : Int), (∀ c ∈ cs, 2 ≤ c ∧ c ≤ 2000) → forN (fun (v_count : PyData) (x127 : PyData) => ((dMul x127 v_count).bind fun v_found => Tr.ret v_found : Tr (PyData))) (cs.map PyData.int) (.int a) = .ret (.int (a * prodI cs))
  | [], a, _ => by
    show Tr.ret (PyData.int a) = Tr.ret (PyData.int (a * 1))
    rw [Int.mul_one]
  | c :: cs, a, h => by
    have h1 := h c (List.mem_cons_self ..)
    rw [List.map_cons, forN, dMul_eq (by omega), Tr.ret_bind, Tr.ret_bind, forN_prod cs (a * c) fun z hz => h z (List.mem_cons_of_mem _ hz)]
    show Tr.ret (PyData.int (a * c * prodI cs)) = Tr.ret (PyData.int (a * (c * prodI cs)))
    rw [Int.mul_assoc]
theorem forN_pow (e : Int) (h1 : 2 ≤ e) (h2 : e ≤ 2000) : ∀ (xs : List PyData) (a : Int), forN (fun (v_k : PyData) (x116 : PyData) => (((dAdd (PyData.int 1) (.int e)).bind fun x117 => dMul x116 x117).bind fun v_found => Tr.ret v_found : Tr (PyData))) xs (.int a) = .ret (.int (a * (1 + e) ^ xs.length))
  | [], a => by
    show Tr.ret (PyData.int a) = Tr.ret (PyData.int (a * (1 + e) ^ 0))
    rw [Int.pow_zero, Int.mul_one]
  | x :: xs, a => by
    have s1 : (((dAdd (PyData.int 1) (.int e)).bind fun x117 => dMul (.int a) x117).bind fun v_found => Tr.ret v_found) = Tr.ret (PyData.int (a * (1 + e))) := by
      rw [show dAdd (.int 1) (.int e) = .ret (.int (1 + e)) from rfl, Tr.ret_bind, dMul_eq (by omega), Tr.ret_bind]
    rw [forN, s1, Tr.ret_bind, forN_pow e h1 h2 xs (a * (1 + e))]
    show Tr.ret (PyData.int (a * (1 + e) * (1 + e) ^ xs.length)) = Tr.ret (PyData.int (a * (1 + e) ^ (xs.length + 1)))
    rw [Int.pow_succ, Int.mul_assoc, Int.mul_comm (1 + e)]
theorem rep_list (b : Int) (k : Int) (h : 0 ≤ k) (h2 : k ≤ 2000) : dMul (.list [.int b]) (.int k) = .ret (.list ((List.replicate k.toNat b).map PyData.int)) := by
  show (if [PyData.int b].length ≤ 100 ∧ -10000 ≤ k ∧ k ≤ 10000 then Tr.ret (PyData.list (List.replicate k.toNat [PyData.int b]).flatten) else .bad) = _
  rw [if_pos ⟨by show 1 ≤ 100; omega, by omega, by omega⟩, List.map_replicate]
  congr 2
  simp

/-- both counts tell the same of x, up to any bound -/
def Tells (x : PyData) (o : Option Int) (n : Nat) : Prop := ∀ most : Int, 0 ≤ most → most ≤ 2000 → m_count_values n x (.int most) = .ret (optI (lim most o)) ∧ m__law_few n x (.int most) = .ret (optI (lim most o))
def Same (d : Nat) (x : PyData) : Prop := ∃ o : Option Int, (∀ v, o = some v → 2 ≤ v) ∧ ∀ n, d ≤ n → Tells x o n
theorem same_all {d : Nat} : ∀ {l : List PyData}, (∀ y ∈ l, Same d y) → ∃ os : List (Option Int), os.length = l.length ∧ (∀ v, some v ∈ os → 2 ≤ v) ∧ ∀ n, d ≤ n → ∀ most : Int, 0 ≤ most → most ≤ 2000 →
    mapT (fun y => m_count_values n y (.int most)) l = .ret (os.map fun o => optI (lim most o)) ∧ mapT (fun y => m__law_few n y (.int most)) l = .ret (os.map fun o => optI (lim most o))
  | [], _ => by
    refine ⟨[], rfl, fun v h => ?_, fun n _ most _ _ => ⟨rfl, rfl⟩⟩
    cases h
  | y :: ys, h => by
    obtain ⟨o, h1, h2⟩ := h y (List.mem_cons_self ..)
    obtain ⟨os, h3, h4, h5⟩ := same_all (l := ys) fun z hz => h z (List.mem_cons_of_mem _ hz)
    refine ⟨o :: os, congrArg (· + 1) h3, fun v hv => ?_, fun n hn most a b => ?_⟩
    · rcases List.mem_cons.mp hv with e | hv
      · exact h1 v e.symm
      · exact h4 v hv
    · obtain ⟨q1, q2⟩ := h2 n hn most a b
      obtain ⟨q3, q4⟩ := h5 n hn most a b
      refine ⟨?_, ?_⟩
      · rw [mapT, q1, Tr.ret_bind, q3]
        rfl
      · rw [mapT, q2, Tr.ret_bind, q4]
        rfl
theorem wrd (s t : Str) : cEq (.str s) (.str t) = .ret (s == t) := cEq_str (.str s) t
theorem wrd2 (s t u : Str) : cIn (.str s) (.tuple [.str t, .str u]) = .ret (s == t || s == u) := cIn_2 (.str s) t u
theorem andThen_nx {S1 β : Type} (r : PyData → β) (s : S1) (k : S1 → Tr β) : andThen r (Tr.ret (Ct.nx s)) k = k s := rfl
theorem andThen_rt {S1 β : Type} (r : PyData → β) (d : PyData) (k : S1 → Tr β) : andThen r (Tr.ret (Ct.rt d)) k = .ret (r d) := rfl
theorem same_of : ∀ (d : Nat) (x : PyData), (cntK d x).isSome = true → Same d x
  | 0, x, h => by cases h
  | d + 1, x, h => by
    obtain ⟨l, hs, hf, hl⟩ := kind_of h
    have ih : ∀ y ∈ l, Same d y := fun y hy => same_of d y (hl y hy)
    have hin : m_inner_kinds x = .ret (.tuple l) := by
      rw [inner_eq, hs]
      rfl
    cases hf with
    | num i h1 h2 =>
      refine ⟨some i, fun v e => by cases e; exact h1, fun n hn => ?_⟩
      obtain ⟨n, rfl⟩ : ∃ m, n = m + 1 := ⟨n - 1, by omega⟩
      intro most m1 m2
      refine ⟨?_, ?_⟩
      · rw [m_count_values]
        simp only [hin, ix0, ix1, Tr.ret_bind, wrd, wrd2, items, mapT, cIn_none]
        show ((cLe (.int i) (.int most)).bind fun x56 => if x56 = true then Tr.ret (PyData.int i) else Tr.ret PyData.none) = _
        rw [cLe_int, Tr.ret_bind, lim_if]
      · rw [m__law_few]
        simp only [ix0, ix1, Tr.ret_bind, wrd, wrd2]
        show ((cLe (.int i) (.int most)).bind fun x56 => if x56 = true then Tr.ret (PyData.int i) else Tr.ret PyData.none) = _
        rw [cLe_int, Tr.ret_bind, lim_if]
    | row a =>
      refine ⟨none, fun v e => (by cases e), fun n hn => ?_⟩
      obtain ⟨n, rfl⟩ : ∃ m, n = m + 1 := ⟨n - 1, by omega⟩
      intro most m1 m2
      refine ⟨?_, ?_⟩
      · rw [m_count_values]
        simp only [ix0, Tr.ret_bind, wrd, wrd2]
        rfl
      · rw [m__law_few]
        simp only [ix0, Tr.ret_bind, wrd, wrd2]
        rfl
    | bag a =>
      refine ⟨none, fun v e => (by cases e), fun n hn => ?_⟩
      obtain ⟨n, rfl⟩ : ∃ m, n = m + 1 := ⟨n - 1, by omega⟩
      intro most m1 m2
      refine ⟨?_, ?_⟩
      · rw [m_count_values]
        simp only [ix0, Tr.ret_bind, wrd, wrd2]
        rfl
      · rw [m__law_few]
        simp only [ix0, Tr.ret_bind, wrd, wrd2]
        rfl
    | set a =>
      obtain ⟨o, g1, g2⟩ := ih a (List.mem_singleton.mpr rfl)
      refine ⟨o.map fun c => 2 ^ c.toNat, fun v e => ?_, fun n hn => ?_⟩
      · cases o with
        | none => cases e
        | some c =>
          cases e
          have h1 := g1 c rfl
          have h2 := pow_gt1 (most := 1) (c := c) (by omega) h1
          show (2 : Int) ≤ 2 ^ c.toNat
          omega
      · obtain ⟨n, rfl⟩ : ∃ m, n = m + 1 := ⟨n - 1, by omega⟩
        intro most m1 m2
        have q := (g2 n (by omega) most m1 m2).1
        have q' := (g2 n (by omega) 12 (by omega) (by omega)).2
        refine ⟨?_, ?_⟩
        · rw [m_count_values]
          simp only [hin, ix0, Tr.ret_bind, wrd, wrd2, items, mapT, q, cIn_none]
          cases o with
          | none => rfl
          | some c =>
            have h1 := g1 c rfl
            by_cases hc : c ≤ most
            · rw [lim_some hc]
              obtain ⟨t, e1, e2⟩ := upto_lim m2 (List.replicate c.toNat 2) (fun z hz => by rw [(List.mem_replicate.mp hz).2]; omega)
              have e3 : dIx (.list [optI (some c)]) (.int 0) = .ret (.int c) := ixL_nat (j := 0) rfl
              simp only [e3, Tr.ret_bind, rep_list 2 c (by omega) (by omega), e1]
              show ((cLe (.int t) (.int most)).bind fun x56 => if x56 = true then Tr.ret (PyData.int t) else Tr.ret PyData.none) = _
              rw [cLe_int, Tr.ret_bind, e2, prod_rep]
              rfl
            · rw [lim_none (show most < c by omega)]
              have h2 := pow_gt1 (most := most) (c := c) (by omega) h1
              show Tr.ret PyData.none = Tr.ret (optI (lim most (some (2 ^ c.toNat))))
              rw [lim_none h2]
              rfl
        · rw [m__law_few]
          simp only [ix0, ix1, Tr.ret_bind, wrd, wrd2, q']
          cases o with
          | none => rfl
          | some c =>
            have h1 := g1 c rfl
            by_cases hc : c ≤ 12
            · rw [lim_some hc]
              have e3 : dIx (.tuple [.int 1, .int 2, .int 4, .int 8, .int 16, .int 32, .int 64, .int 128, .int 256, .int 512, .int 1024, .int 2048, .int 4096]) (.int c) = .ret (.int (2 ^ c.toNat)) := by
                have hcn : c = ((c.toNat : Nat) : Int) := by omega
                have hk : c.toNat ≤ 12 := by omega
                generalize c.toNat = k at hcn hk
                subst hcn
                refine ix_nat ?_
                match k, hk with
                | 0, _ => rfl
                | 1, _ => rfl
                | 2, _ => rfl
                | 3, _ => rfl
                | 4, _ => rfl
                | 5, _ => rfl
                | 6, _ => rfl
                | 7, _ => rfl
                | 8, _ => rfl
                | 9, _ => rfl
                | 10, _ => rfl
                | 11, _ => rfl
                | 12, _ => rfl
                | k + 13, h => exact absurd h (by omega)
              have e4 : Cg.isNon (optI (some c)) = false := rfl
              have e5 : optI (some c) = PyData.int c := rfl
              simp only [e4, e5, e3, Tr.ret_bind]
              show ((cLe (.int (2 ^ c.toNat)) (.int most)).bind fun x56 => if x56 = true then Tr.ret (PyData.int (2 ^ c.toNat)) else Tr.ret PyData.none) = _
              rw [cLe_int, Tr.ret_bind, lim_if]
              rfl
            · rw [lim_none (show 12 < c by omega)]
              have h2 := pow_12 (c := c) (by omega)
              show Tr.ret PyData.none = Tr.ret (optI (lim most (some (2 ^ c.toNat))))
              rw [lim_none (by omega)]
              rfl
    | record l k1 k2 =>
      obtain ⟨os, j1, j2, j3⟩ := same_all ih
      refine ⟨(allO os).map prodI, fun v e => ?_, fun n hn => ?_⟩
      · cases ha : allO os with
        | none =>
          rw [ha] at e
          cases e
        | some cs =>
          rw [ha] at e
          cases e
          have hos := allO_some ha
          have hc : ∀ c ∈ cs, 2 ≤ c := fun c hc => j2 c (by rw [hos]; exact List.mem_map_of_mem hc)
          cases cs with
          | nil =>
            rw [hos] at j1
            have : (0 : Nat) = l.length := j1
            omega
          | cons c cs =>
            have := prod_ge hc c (List.mem_cons_self ..)
            have := hc c (List.mem_cons_self ..)
            show 2 ≤ prodI (c :: cs)
            omega
      · obtain ⟨n, rfl⟩ : ∃ m, n = m + 1 := ⟨n - 1, by omega⟩
        intro most m1 m2
        obtain ⟨q, q'⟩ := j3 n (by omega) most m1 m2
        rcases lims_or most os with ⟨cs, ha, hle, hmap, hany⟩ | ⟨hany, hno⟩
        · have hos := allO_some ha
          have hc : ∀ c ∈ cs, 2 ≤ c := fun c hc => j2 c (by rw [hos]; exact List.mem_map_of_mem hc)
          rw [hmap] at q q'
          have hn0 : ((cs.map PyData.int).any fun y => Cg.isNon y) = false := by rw [← hmap, any_lims]; exact hany
          rw [ha]
          refine ⟨?_, ?_⟩
          · rw [m_count_values]
            obtain ⟨t, e1, e2⟩ := upto_lim m2 cs hc
            simp only [hin, ix0, Tr.ret_bind, wrd, wrd2, items, q, cIn_none, hn0, e1]
            show ((cLe (.int t) (.int most)).bind fun x42 => if x42 = true then Tr.ret (PyData.int t) else Tr.ret PyData.none) = _
            rw [cLe_int, Tr.ret_bind, e2]
            rfl
          · rw [m__law_few]
            simp only [ix0, ix1, Tr.ret_bind, wrd, wrd2, items, q', cIn_none, hn0, sum_ints]
            have e1 := forN_prod cs 1 fun c h => ⟨hc c h, by have := hle c h; omega⟩
            simp only [e1, Tr.ret_bind]
            show ((cLe (.int (1 * prodI cs)) (.int most)).bind fun x56 => if x56 = true then Tr.ret (PyData.int (1 * prodI cs)) else Tr.ret PyData.none) = _
            rw [Int.one_mul, cLe_int, Tr.ret_bind, lim_if]
            rfl
        · have hlim : lim most ((allO os).map prodI) = none := by
            rcases hno with hno | ⟨cs, ha, c, hc, hl⟩
            · rw [hno]
              rfl
            · rw [ha]
              have hos := allO_some ha
              have h2 : ∀ c ∈ cs, 2 ≤ c := fun c hc => j2 c (by rw [hos]; exact List.mem_map_of_mem hc)
              have := prod_ge h2 c hc
              exact lim_none (by omega)
          have hn1 : ((os.map fun o => optI (lim most o)).any fun y => Cg.isNon y) = true := by rw [any_lims]; exact hany
          rw [hlim]
          refine ⟨?_, ?_⟩
          · rw [m_count_values]
            simp only [hin, ix0, Tr.ret_bind, wrd, wrd2, items, q, cIn_none, hn1]
            rfl
          · rw [m__law_few]
            simp only [ix0, ix1, Tr.ret_bind, wrd, wrd2, items, q', cIn_none, hn1]
            rfl
    | choice l k1 k2 =>
      obtain ⟨os, j1, j2, j3⟩ := same_all ih
      refine ⟨(allO os).map sumI, fun v e => ?_, fun n hn => ?_⟩
      · cases ha : allO os with
        | none =>
          rw [ha] at e
          cases e
        | some cs =>
          rw [ha] at e
          cases e
          have hos := allO_some ha
          have hc : ∀ c ∈ cs, 2 ≤ c := fun c hc => j2 c (by rw [hos]; exact List.mem_map_of_mem hc)
          cases cs with
          | nil =>
            rw [hos] at j1
            have : (0 : Nat) = l.length := j1
            omega
          | cons c cs =>
            have := sum_ge hc c (List.mem_cons_self ..)
            have := hc c (List.mem_cons_self ..)
            show 2 ≤ sumI (c :: cs)
            omega
      · obtain ⟨n, rfl⟩ : ∃ m, n = m + 1 := ⟨n - 1, by omega⟩
        intro most m1 m2
        obtain ⟨q, q'⟩ := j3 n (by omega) most m1 m2
        rcases lims_or most os with ⟨cs, ha, hle, hmap, hany⟩ | ⟨hany, hno⟩
        · have hos := allO_some ha
          have hc : ∀ c ∈ cs, 2 ≤ c := fun c hc => j2 c (by rw [hos]; exact List.mem_map_of_mem hc)
          rw [hmap] at q q'
          have hn0 : ((cs.map PyData.int).any fun y => Cg.isNon y) = false := by rw [← hmap, any_lims]; exact hany
          rw [ha]
          refine ⟨?_, ?_⟩
          · rw [m_count_values]
            simp only [hin, ix0, Tr.ret_bind, wrd, wrd2, items, q, cIn_none, hn0, sum_ints]
            show ((cLe (.int (sumI cs)) (.int most)).bind fun x56 => if x56 = true then Tr.ret (PyData.int (sumI cs)) else Tr.ret PyData.none) = _
            rw [cLe_int, Tr.ret_bind, lim_if]
            rfl
          · rw [m__law_few]
            simp only [ix0, ix1, Tr.ret_bind, wrd, wrd2, items, q', cIn_none, hn0, sum_ints]
            show ((cLe (.int (sumI cs)) (.int most)).bind fun x56 => if x56 = true then Tr.ret (PyData.int (sumI cs)) else Tr.ret PyData.none) = _
            rw [cLe_int, Tr.ret_bind, lim_if]
            rfl
        · have hlim : lim most ((allO os).map sumI) = none := by
            rcases hno with hno | ⟨cs, ha, c, hc, hl⟩
            · rw [hno]
              rfl
            · rw [ha]
              have hos := allO_some ha
              have h2 : ∀ c ∈ cs, 2 ≤ c := fun c hc => j2 c (by rw [hos]; exact List.mem_map_of_mem hc)
              have := sum_ge h2 c hc
              exact lim_none (by omega)
          have hn1 : ((os.map fun o => optI (lim most o)).any fun y => Cg.isNon y) = true := by rw [any_lims]; exact hany
          rw [hlim]
          refine ⟨?_, ?_⟩
          · rw [m_count_values]
            simp only [hin, ix0, Tr.ret_bind, wrd, wrd2, items, q, cIn_none, hn1]
            rfl
          · rw [m__law_few]
            simp only [ix0, ix1, Tr.ret_bind, wrd, wrd2, items, q', cIn_none, hn1]
            rfl
    | table a b =>
      obtain ⟨oa, a1, a2⟩ := ih a (List.mem_cons_self ..)
      obtain ⟨ob, b1, b2⟩ := ih b (List.mem_cons_of_mem _ (List.mem_singleton.mpr rfl))
      have hv : ∀ k e : Int, 2 ≤ k → 2 ≤ e → (2 : Int) ≤ (1 + e) ^ k.toNat := fun k e hk he => by
        have := pow_ge he hk
        omega
      refine ⟨oa.bind fun k => ob.map fun e => (1 + e) ^ k.toNat, fun v e => ?_, fun n hn => ?_⟩
      · cases oa with
        | none => cases e
        | some k =>
          cases ob with
          | none => cases e
          | some c =>
            cases e
            exact hv k c (a1 k rfl) (b1 c rfl)
      · obtain ⟨n, rfl⟩ : ∃ m, n = m + 1 := ⟨n - 1, by omega⟩
        intro most m1 m2
        have qa := (a2 n (by omega) most m1 m2).1
        have qb := (b2 n (by omega) most m1 m2).1
        have ra := (a2 n (by omega) 8 (by omega) (by omega)).2
        have rb := (b2 n (by omega) most m1 m2).2
        refine ⟨?_, ?_⟩
        · rw [m_count_values]
          simp only [hin, ix0, Tr.ret_bind, wrd, wrd2, items, mapT, qa, qb, cIn_none]
          cases oa with
          | none => rfl
          | some k =>
            have hk := a1 k rfl
            cases ob with
            | none =>
              cases lim most (some k) <;> rfl
            | some e =>
              have he := b1 e rfl
              by_cases hk2 : k ≤ most
              · by_cases he2 : e ≤ most
                · rw [lim_some hk2, lim_some he2]
                  obtain ⟨t, e1, e2⟩ := upto_lim m2 (List.replicate k.toNat (1 + e)) (fun z hz => by rw [(List.mem_replicate.mp hz).2]; omega)
                  have e3 : dIx (.list [optI (some k), optI (some e)]) (.int 0) = .ret (.int k) := ixL_nat (j := 0) rfl
                  have e4 : dIx (.list [optI (some k), optI (some e)]) (.int 1) = .ret (.int e) := ixL_nat (j := 1) rfl
                  have e5 : dAdd (.int 1) (.int e) = .ret (.int (1 + e)) := rfl
                  simp only [e3, e4, e5, Tr.ret_bind, rep_list (1 + e) k (by omega) (by omega), e1]
                  show ((cLe (.int t) (.int most)).bind fun x56 => if x56 = true then Tr.ret (PyData.int t) else Tr.ret PyData.none) = _
                  rw [cLe_int, Tr.ret_bind, e2, prod_rep]
                  rfl
                · rw [lim_some hk2, lim_none (show most < e by omega)]
                  have h2 := pow_ge he hk
                  show Tr.ret PyData.none = Tr.ret (optI (lim most (some ((1 + e) ^ k.toNat))))
                  rw [lim_none (by omega)]
                  rfl
              · rw [lim_none (show most < k by omega)]
                have h2 := pow_gt2 (most := most) he (show most < k by omega) hk
                show Tr.ret PyData.none = Tr.ret (optI (lim most (some ((1 + e) ^ k.toNat))))
                rw [lim_none h2]
                rfl
        · rw [m__law_few]
          simp only [ix0, ix1, ix2, Tr.ret_bind, wrd, wrd2, ra, rb]
          cases oa with
          | none => rfl
          | some k =>
            have hk := a1 k rfl
            cases ob with
            | none =>
              cases lim 8 (some k) <;> rfl
            | some e =>
              have he := b1 e rfl
              by_cases hk2 : k ≤ 8
              · by_cases he2 : e ≤ most
                · rw [lim_some hk2, lim_some he2]
                  have n1 : Cg.isNon (.int k) = false := rfl
                  have n2 : Cg.isNon (.int e) = false := rfl
                  have n3 : optI (some k) = PyData.int k := rfl
                  have n4 : optI (some e) = PyData.int e := rfl
                  have n5 : cEq (.int 1) (.int 1) = .ret true := by rw [cEq_int]; rfl
                  have n6 := forN_pow e he (by omega) (rng 0 k.toNat) 1
                  simp only [n1, n2, n3, n4, Tr.ret_bind, Bool.false_eq_true, if_false, n5, if_true, range_eq (show 0 ≤ k by omega) (show k ≤ 1000 by omega), n6, rng_len]
                  show ((cLe (.int (1 * (1 + e) ^ k.toNat)) (.int most)).bind fun x56 => if x56 = true then Tr.ret (PyData.int (1 * (1 + e) ^ k.toNat)) else Tr.ret PyData.none) = _
                  rw [Int.one_mul, cLe_int, Tr.ret_bind, lim_if]
                  rfl
                · rw [lim_some hk2, lim_none (show most < e by omega)]
                  have h2 := pow_ge he hk
                  show Tr.ret PyData.none = Tr.ret (optI (lim most (some ((1 + e) ^ k.toNat))))
                  rw [lim_none (by omega)]
                  rfl
              · rw [lim_none (show 8 < k by omega)]
                have h2 := pow_8 he (show 8 < k by omega)
                have h3 : lim most (some ((1 + e) ^ k.toNat)) = none := lim_none (by omega)
                show _ = Tr.ret (optI (lim most (some ((1 + e) ^ k.toNat))))
                rw [h3]
                cases lim most (some e) <;> rfl

/-! ### the draws of this law -/
theorem small_wp : ∀ (n d : Nat) (k : Int), d < n → k ≤ (d : Int) + 1 → (m__law_small n (.int k)).wp (KOk (d + 1)) F0
  | 0, _, _, h, _ => absurd h (by omega)
  | n + 1, d, k, h, hk => by
    obtain ⟨tk, htk, tw⟩ := take_draws
    obtain ⟨pk, hpk, pw⟩ := pick_draws
    rw [m__law_small, htk, hpk]
    refine Tr.wp_bind.mpr (tw (by decide) (by decide) fun sort hsort => ?_)
    have num : ((pk (PyData.list [(PyData.int 2), (PyData.int 2), (PyData.int 3), (PyData.int 4), (PyData.int 5), (PyData.int 7)])).bind fun x137 => Tr.ret (PyData.tuple [(PyData.str "number"), x137])).wp (KOk (d + 1)) F0 := by
      refine Tr.wp_bind.mpr (pw (by show 1 ≤ 6; omega) (by show 6 < 1000000; omega) fun y hy => ?_)
      simp only [List.mem_cons, List.not_mem_nil, or_false] at hy
      rcases hy with rfl | rfl | rfl | rfl | rfl | rfl <;> exact KOk.num (by omega) (by omega)
    rw [cLe_int]
    by_cases hk1 : k ≤ 1
    · simp only [decide_eq_true hk1, if_true, Tr.ret_bind]
      exact num
    · simp only [decide_eq_false hk1, Bool.false_eq_true, if_false, Tr.ret_bind, cLt_int, cEq_int]
      by_cases s1 : (sort : Int) < 2
      · simp only [decide_eq_true s1, if_true]
        exact num
      · rw [if_neg (by rw [decide_eq_true_eq]; exact s1)]
        obtain ⟨e, rfl⟩ : ∃ e, d = e + 1 := ⟨d - 1, by omega⟩
        have ih1 : (m__law_small n (.int (k - 1))).wp (KOk (e + 1)) F0 := small_wp n e (k - 1) (by omega) (by omega)
        have d1 : dSub (.int k) (.int 1) = .ret (.int (k - 1)) := rfl
        simp only [d1, Tr.ret_bind]
        by_cases s2 : (sort : Int) < 4
        · rw [if_pos (decide_eq_true s2)]
          refine Tr.wp_bind.mpr (pw (by show 1 ≤ 2; omega) (by show 2 < 1000000; omega) fun w hw => ?_)
          rw [Tr.wp_bind, Tr.wp_bind, Tr.wp_bind, Tr.wp_bind]
          refine tw (m := 2) (by decide) (by decide) fun i hi => ?_
          show Tr.wp _ F0 ((rangeT (.int 0) (.int (2 + (i : Int)))).bind _)
          rw [range_eq (by omega) (by omega), Tr.ret_bind]
          refine Tr.wp_bind.mpr (Tr.wp_mono (fun ys hys => ?_) (fun _ z => z) (map_wp (P := KOk (e + 1)) _ fun _ _ => ih1))
          have hl : ys.length = (2 + (i : Int)).toNat := by rw [hys.1, rng_len]
          simp only [List.mem_cons, List.not_mem_nil, or_false] at hw
          rcases hw with rfl | rfl
          · exact KOk.rec (.inl ⟨rfl, by omega⟩) (by omega) hys.2
          · exact KOk.rec (.inr ⟨rfl, by omega⟩) (by omega) hys.2
        · rw [if_neg (by rw [decide_eq_true_eq]; exact s2)]
          by_cases s3 : (sort : Int) < 6
          · rw [if_pos (decide_eq_true s3)]
            by_cases s4 : (sort : Int) = 4
            · rw [if_pos (decide_eq_true s4)]
              exact Tr.wp_bind.mpr (Tr.wp_mono (fun a ha => KOk.row (.inr (.inl rfl)) ha) (fun _ z => z) ih1)
            · rw [if_neg (by rw [decide_eq_true_eq]; exact s4), Tr.wp_bind, Tr.wp_bind]
              refine pw (by show 1 ≤ 3; omega) (by show 3 < 1000000; omega) fun y hy => ?_
              refine Tr.wp_bind.mpr (Tr.wp_mono (fun b hb => ?_) (fun _ z => z) ih1)
              simp only [List.mem_cons, List.not_mem_nil, or_false] at hy
              rcases hy with rfl | rfl | rfl <;> exact KOk.tab (KOk.num (by omega) (by omega)) hb
          · rw [if_neg (by rw [decide_eq_true_eq]; exact s3)]
            refine Tr.wp_bind.mpr (pw (by show 1 ≤ 2; omega) (by show 2 < 1000000; omega) fun y hy => ?_)
            refine Tr.wp_bind.mpr (Tr.wp_mono (fun a ha => ?_) (fun _ z => z) ih1)
            simp only [List.mem_cons, List.not_mem_nil, or_false] at hy
            rcases hy with rfl | rfl
            · exact KOk.row (.inl rfl) ha
            · exact KOk.row (.inr (.inr rfl)) ha
def Good (x : PyData) : Prop := ∃ c, cntK 5 x = some c
theorem some_wp : m__law_some_kind.wp Good F0 := by
  unfold m__law_some_kind
  refine Tr.wp_bind.mpr (Tr.wp_bind.mpr (pick_wp (by show 1 ≤ 5; omega) (by show 5 < 1000000; omega) fun y hy => ?_))
  have hy' : ∃ k : Int, y = .int k ∧ k ≤ 5 := by
    simp only [List.mem_cons, List.not_mem_nil, or_false] at hy
    rcases hy with rfl | rfl | rfl | rfl | rfl <;> exact ⟨_, rfl, by omega⟩
  obtain ⟨k, rfl, hk⟩ := hy'
  refine Tr.wp_mono (fun x hx => ?_) (fun _ z => z) (kind_wp 8 4 k (by omega) (by omega))
  obtain ⟨c, hc⟩ := Option.isSome_iff_exists.mp hx.1
  simp only [many_eq 12 5 x c (by omega) hc, Tr.ret_bind, cLe_int]
  by_cases h : c ≤ 20
  · rw [if_pos (decide_eq_true h)]
    exact ⟨c, hc⟩
  · rw [if_neg (by rw [decide_eq_true_eq]; exact h)]
    exact ⟨2, rfl⟩

/-! ### the law -/
theorem forC_ret {α β : Type} {r : PyData → β} {f : α → Unit → Tr (Ct Unit)} {k : Unit → Tr β} : ∀ (xs : List α), (∀ x ∈ xs, f x () = .ret (Ct.nx ())) → forC r f k xs () = k ()
  | [], _ => rfl
  | x :: xs, h => by
    show (f x ()).bind _ = _
    rw [h x (List.mem_cons_self ..), Tr.ret_bind]
    exact forC_ret xs fun y hy => h y (List.mem_cons_of_mem _ hy)
theorem forC_wp {α β : Type} {r : PyData → β} {f : α → Unit → Tr (Ct Unit)} {k : Unit → Tr β} {Q : β → Prop} (hk : (k ()).wp Q F0) : ∀ (xs : List α), (∀ x ∈ xs, (f x ()).wp (fun c => c = Ct.nx ()) F0) → (forC r f k xs ()).wp Q F0
  | [], _ => hk
  | x :: xs, h => by
    refine Tr.wp_bind.mpr (Tr.wp_mono (fun c hc => ?_) (fun _ z => z) (h x (List.mem_cons_self ..)))
    cases hc
    exact forC_wp hk xs fun y hy => h y (List.mem_cons_of_mem _ hy)
theorem add_int (i j : Int) : dAdd (.int i) (.int j) = .ret (.int (i + j)) := rfl

theorem add_lst {xs ys : List PyData} (h : xs.length + ys.length ≤ 1000000) : dAdd (.list xs) (.list ys) = .ret (.list (xs ++ ys)) := by
  show (if xs.length + ys.length ≤ 1000000 then Tr.ret (PyData.list (xs ++ ys)) else .bad) = _
  rw [if_pos h]
theorem repr_opt {o : Option Int} (h : ∀ v, o = some v → 2 ≤ v ∧ v ≤ 2000) : ∃ s, dRepr (optI o) = .ret (.str s) := by
  cases o with
  | none => exact ⟨_, rfl⟩
  | some v =>
    obtain ⟨h1, h2⟩ := h v rfl
    refine ⟨toString v, ?_⟩
    have h3 : v.natAbs.log2 < 11 := (Nat.log2_lt (by omega)).mpr (by
      have e : (2 : Nat) ^ 11 = 2048 := rfl
      omega)
    show (if v.natAbs.log2 < 1920 then Tr.ret (PyData.str (toString v)) else .bad) = _
    rw [if_pos (by omega)]
theorem told_of {x : PyData} (hx : isK x = true) {o : Option Int} (ho : ∀ n, 5 ≤ n → Tells x o n) {most : Int} (h1 : 0 ≤ most) (h2 : most ≤ 2000) : m__law_told x (.int most) = .ret (optI (lim most o)) := by
  unfold m__law_told m_few
  rw [check_eq, if_pos hx, Tr.ret_bind, (ho 8 (by omega) most h1 h2).1]
  rfl
theorem law_true : ∀ ns : List Int, ns.length ≤ 63 → (m_law (.list (ns.map PyData.int))).wp (fun d => d = .bool true) (fun _ => False) := by
  intro ns _
  obtain ⟨tk, htk, tw⟩ := take_draws
  obtain ⟨pk, hpk, pw⟩ := pick_draws
  unfold m_law
  rw [htk, hpk]
  have hb : boxT (.list (ns.map PyData.int)) = .ret () := by
    show (if (asInts (ns.map PyData.int)).isSome = true then Tr.ret () else .bad) = _
    rw [asInts_map]
    rfl
  rw [hb, Tr.ret_bind, range_eq (by omega) (by omega), Tr.ret_bind]
  refine forC_wp (Q := fun d => d = PyData.bool true) ?_ _ fun turn hturn => ?_
  · have hk : isK (.tuple [.str "set", .tuple []]) = false := rfl
    have e : m__law_told (.tuple [.str "set", .tuple []]) (.int 5) = .ret (.str "kind") := by
      unfold m__law_told m_few
      rw [check_eq, hk]
      rfl
    rw [e, Tr.ret_bind, cEq_str]
    rfl
  · obtain ⟨i, rfl⟩ : ∃ i : Int, turn = .int i := by
      unfold rng at hturn
      obtain ⟨j, _, rfl⟩ := List.mem_map.mp hturn
      exact ⟨_, rfl⟩
    rw [cGt_int, Tr.ret_bind, Tr.wp_bind]
    have h1 : (if decide (0 < i) = true then ((tk (PyData.int 4)).bind fun x160 => dAdd (PyData.int 1) x160).bind fun x161 => m__law_small 8 x161 else m__law_some_kind).wp Good F0 := by
      by_cases q : 0 < i
      · rw [if_pos (decide_eq_true q), Tr.wp_bind, Tr.wp_bind]
        refine tw (m := 4) (by decide) (by decide) fun j hj => ?_
        show (m__law_small 8 (.int (1 + (j : Int)))).wp Good F0
        refine Tr.wp_mono (fun x hx => ?_) (fun _ z => z) (small_wp 8 4 (1 + (j : Int)) (by omega) (by omega))
        exact Option.isSome_iff_exists.mp hx.1
      · rw [if_neg (by rw [decide_eq_true_eq]; exact q)]
        exact some_wp
    refine Tr.wp_mono (fun kind hkind => ?_) (fun _ z => z) h1
    obtain ⟨c, hc⟩ := hkind
    rw [many_eq 12 5 kind c (by omega) hc, Tr.ret_bind, cGt_int, Tr.ret_bind]
    have h2 : ∃ K, (if decide (20 < c) = true then ((Tr.ret (PyData.tuple [(PyData.str "set"), (PyData.tuple [(PyData.str "number"), (PyData.int 7)])])).bind fun v_kind => Tr.ret v_kind : Tr (PyData)) else Tr.ret kind) = .ret K ∧ isK K = true := by
      by_cases q : 20 < c
      · exact ⟨_, if_pos (decide_eq_true q), rfl⟩
      · refine ⟨kind, if_neg (by rw [decide_eq_true_eq]; exact q), ?_⟩
        unfold isK
        rw [hc]
        exact decide_eq_true (by omega)
    obtain ⟨K, e, hK⟩ := h2
    rw [e, Tr.ret_bind]
    have hs : (cntK 5 K).isSome = true := by
      unfold isK at hK
      cases h : cntK 5 K with
      | none =>
        rw [h] at hK
        cases hK
      | some c => rfl
    obtain ⟨o, o1, o2⟩ := same_of 5 K hs
    rw [(o2 8 (by omega) 2000 (by omega) (by omega)).2, Tr.ret_bind]
    have fin : ∀ bs : List PyData, (∀ b ∈ bs, ∃ m : Int, b = .int m ∧ 0 ≤ m ∧ m ≤ 2000) → (forC Ct.rt (fun (v_most : PyData) (x170 : Unit) => ((((m__law_told K v_most).bind fun x171 => dRepr x171).bind fun x173 => ((m__law_few 8 K v_most).bind fun x172 => dRepr x172).bind fun x174 => cNe x173 x174).bind fun x175 => if x175 = true then Tr.ret (Ct.rt (PyData.bool false)) else Tr.ret (Ct.nx ()) : Tr (Ct (Unit)))) (fun x170 => Tr.ret (Ct.nx ())) bs ()) = Tr.ret (Ct.nx ()) := by
      intro bs hbs
      refine forC_ret bs fun b hb => ?_
      obtain ⟨m, rfl, m1, m2⟩ := hbs b hb
      obtain ⟨s, es⟩ := repr_opt (o := lim m o) fun v hv => by
        cases o with
        | none => cases hv
        | some u =>
          by_cases q : u ≤ m
          · rw [lim_some q] at hv
            cases hv
            exact ⟨o1 _ rfl, by omega⟩
          · rw [lim_none (by omega)] at hv
            cases hv
      rw [told_of hK (fun n hn => o2 n hn) m1 m2, Tr.ret_bind, (o2 8 (by omega) m m1 m2).2, Tr.ret_bind, es, Tr.ret_bind, Tr.ret_bind, cNe_str, Tr.ret_bind]
      have e2 : (!isW (.str s) s) = false := by
        show (!(s == s)) = false
        rw [beq_self_eq_true]
        rfl
      rw [e2]
      rfl
    rw [Tr.wp_bind, Tr.wp_bind, Tr.wp_bind]
    refine tw (m := 2001) (by decide) (by decide) fun t ht => ?_
    rw [Tr.wp_bind]
    refine pw (by show 1 ≤ 5; omega) (by show 5 < 1000000; omega) fun p hp => ?_
    have hp' : ∃ m : Int, p = .int m ∧ 0 ≤ m ∧ m ≤ 2000 := by
      simp only [List.mem_cons, List.not_mem_nil, or_false] at hp
      rcases hp with rfl | rfl | rfl | rfl | rfl <;> exact ⟨_, rfl, by omega, by omega⟩
    obtain ⟨p, rfl, p1, p2⟩ := hp'
    have h3 : ∃ ys, (if (!Cg.isNon (optI (lim 2000 o))) = true then (dSub (optI (lim 2000 o)) (PyData.int 1)).bind fun x167 => Tr.ret (PyData.list [optI (lim 2000 o), x167]) else Tr.ret (PyData.list [])) = .ret (.list ys) ∧ ys.length ≤ 2 ∧ ∀ b ∈ ys, ∃ m : Int, b = .int m ∧ 0 ≤ m ∧ m ≤ 2000 := by
      cases o with
      | none => exact ⟨[], rfl, by show 0 ≤ 2; omega, fun b hb => nomatch hb⟩
      | some u =>
        by_cases q : u ≤ 2000
        · rw [lim_some q]
          have hu := o1 u rfl
          refine ⟨[.int u, .int (u - 1)], rfl, by show 2 ≤ 2; omega, fun b hb => ?_⟩
          simp only [List.mem_cons, List.not_mem_nil, or_false] at hb
          rcases hb with rfl | rfl
          · exact ⟨u, rfl, by omega, by omega⟩
          · exact ⟨u - 1, rfl, by omega, by omega⟩
        · rw [lim_none (by omega)]
          exact ⟨[], rfl, by show 0 ≤ 2; omega, fun b hb => nomatch hb⟩
    obtain ⟨ys, ey, ly, hy⟩ := h3
    rw [ey]
    show Tr.wp _ F0 ((Tr.ret (PyData.list ys)).bind fun x169 => dAdd (PyData.list [PyData.int (t : Int), PyData.int 2000, PyData.int p]) x169)
    rw [Tr.ret_bind, add_lst (by show 3 + ys.length ≤ 1000000; omega)]
    show Tr.wp _ F0 ((items (.list ([PyData.int (t : Int), PyData.int 2000, PyData.int p] ++ ys))).bind _)
    rw [show items (.list ([PyData.int (t : Int), PyData.int 2000, PyData.int p] ++ ys)) = .ret ([PyData.int (t : Int), PyData.int 2000, PyData.int p] ++ ys) from rfl, Tr.ret_bind]
    refine wp_of_eq (fin _ fun b hb => ?_) rfl
    rcases List.mem_append.mp hb with hb | hb
    · simp only [List.mem_cons, List.not_mem_nil, or_false] at hb
      rcases hb with rfl | rfl | rfl
      · exact ⟨_, rfl, by omega, by omega⟩
      · exact ⟨_, rfl, by omega, by omega⟩
      · exact ⟨_, rfl, by omega, by omega⟩
    · exact hy b hb
end K03
namespace K03
open PySem PySem.Spec PyProof.Rows L2 Cg
/-! ### what the top has written -/
def spLaw (K : PySem.W.Frag) : Sp := fun vs H Q _ => ∃ (a : Addr) (ns : List Int), vs = [.ref a] ∧ SqL K H a (ns.map V.int) ∧ ns.length ≤ 63 ∧ ∀ H', Q (.bl true) H'
theorem all_mk {l : PySem.W.OpenLaw} {w : World} {K : PySem.W.Frag} {h : Heap} {mg : Str → Option Value} {fa : Addr} (X : K.In h) (G : h.Ns mainGlobals mg) (hfa : mg "law" = some (.ref fa))
    {f1 : Addr} {od1 an1 : Option Addr} {sl1 : Array (Option Value)} {oc1 kV1 dc1 pm1 cd1 ct1 : Value}
    {f2 : Addr} {od2 an2 : Option Addr} {sl2 : Array (Option Value)} {oc2 kV2 dc2 pm2 cd2 ct2 : Value}
    {f3 : Addr} {od3 an3 : Option Addr} {sl3 : Array (Option Value)} {oc3 kV3 dc3 pm3 cd3 ct3 : Value}
    {f4 : Addr} {od4 an4 : Option Addr} {sl4 : Array (Option Value)} {oc4 kV4 dc4 pm4 cd4 ct4 : Value}
    {f5 : Addr} {od5 an5 : Option Addr} {sl5 : Array (Option Value)} {oc5 kV5 dc5 pm5 cd5 ct5 : Value}
    {f6 : Addr} {od6 an6 : Option Addr} {sl6 : Array (Option Value)} {oc6 kV6 dc6 pm6 cd6 ct6 : Value}
    {f7 : Addr} {od7 an7 : Option Addr} {sl7 : Array (Option Value)} {oc7 kV7 dc7 pm7 cd7 ct7 : Value}
    {f8 : Addr} {od8 an8 : Option Addr} {sl8 : Array (Option Value)} {oc8 kV8 dc8 pm8 cd8 ct8 : Value}
    {f9 : Addr} {od9 an9 : Option Addr} {sl9 : Array (Option Value)} {oc9 kV9 dc9 pm9 cd9 ct9 : Value}
    {f10 : Addr} {od10 an10 : Option Addr} {sl10 : Array (Option Value)} {oc10 kV10 dc10 pm10 cd10 ct10 : Value}
    {f11 : Addr} {od11 an11 : Option Addr} {sl11 : Array (Option Value)} {oc11 kV11 dc11 pm11 cd11 ct11 : Value}
    {f12 : Addr} {od12 an12 : Option Addr} {sl12 : Array (Option Value)} {oc12 kV12 dc12 pm12 cd12 ct12 : Value}
    {f13 : Addr} {od13 an13 : Option Addr} {sl13 : Array (Option Value)} {oc13 kV13 dc13 pm13 cd13 ct13 : Value}
    {f14 : Addr} {od14 an14 : Option Addr} {sl14 : Array (Option Value)} {oc14 kV14 dc14 pm14 cd14 ct14 : Value}
    {f15 : Addr} {od15 an15 : Option Addr} {sl15 : Array (Option Value)} {oc15 kV15 dc15 pm15 cd15 ct15 : Value}
    {f16 : Addr} {od16 an16 : Option Addr} {sl16 : Array (Option Value)} {oc16 kV16 dc16 pm16 cd16 ct16 : Value}
    {f17 : Addr} {od17 an17 : Option Addr} {sl17 : Array (Option Value)} {oc17 kV17 dc17 pm17 cd17 ct17 : Value}
    {f18 : Addr} {od18 an18 : Option Addr} {sl18 : Array (Option Value)} {oc18 kV18 dc18 pm18 cd18 ct18 : Value}
    {f19 : Addr} {od19 an19 : Option Addr} {sl19 : Array (Option Value)} {oc19 kV19 dc19 pm19 cd19 ct19 : Value}
    {f20 : Addr} {od20 an20 : Option Addr} {sl20 : Array (Option Value)} {oc20 kV20 dc20 pm20 cd20 ct20 : Value}
    {t_MOST_DEEP : Tok}
    {t_MOST_INSIDE : Tok}
    {t_MOST_KINDS : Tok}
    {t_MOST_NUMBER : Tok}
    {p_FEWEST_INSIDE : Addr} {es_FEWEST_INSIDE : Array DictEntry} {n_FEWEST_INSIDE : Nat}
    {td_FEWEST_INSIDE_record : Tok}
    {td_FEWEST_INSIDE_choice : Tok}
    {C_kind : Addr}
    {C_value : Addr}
    {C_patch : Addr}
    {C_unfit : Addr}
    {C_base : Addr}
    (a1 : PySem.W.nsIn K mainGlobals "check_kind" = some (some (.ref f1)))
    (l1 : K.lookup f1 = some ⟨oc1, od1, .func (PySem.W.fnOf "check_kind" "check_kind" (defArgs s_check_kind) (defBody s_check_kind) (defScope s_check_kind) .none kV1 dc1 pm1 an1 cd1 ct1), sl1⟩)
    (c1 : PySem.W.codeIn K cd1 "check_kind" = true)
    (k1 : PySem.W.keepIn K (.ref f1) = true)
    (a2 : PySem.W.nsIn K mainGlobals "few" = some (some (.ref f2)))
    (l2 : K.lookup f2 = some ⟨oc2, od2, .func (PySem.W.fnOf "few" "few" (defArgs s_few) (defBody s_few) (defScope s_few) .none kV2 dc2 pm2 an2 cd2 ct2), sl2⟩)
    (c2 : PySem.W.codeIn K cd2 "few" = true)
    (k2 : PySem.W.keepIn K (.ref f2) = true)
    (a3 : PySem.W.nsIn K mainGlobals "is_whole" = some (some (.ref f3)))
    (l3 : K.lookup f3 = some ⟨oc3, od3, .func (PySem.W.fnOf "is_whole" "is_whole" (defArgs s_is_whole) (defBody s_is_whole) (defScope s_is_whole) .none kV3 dc3 pm3 an3 cd3 ct3), sl3⟩)
    (c3 : PySem.W.codeIn K cd3 "is_whole" = true)
    (k3 : PySem.W.keepIn K (.ref f3) = true)
    (a4 : PySem.W.nsIn K mainGlobals "is_within" = some (some (.ref f4)))
    (l4 : K.lookup f4 = some ⟨oc4, od4, .func (PySem.W.fnOf "is_within" "is_within" (defArgs s_is_within) (defBody s_is_within) (defScope s_is_within) .none kV4 dc4 pm4 an4 cd4 ct4), sl4⟩)
    (c4 : PySem.W.codeIn K cd4 "is_within" = true)
    (k4 : PySem.W.keepIn K (.ref f4) = true)
    (a5 : PySem.W.nsIn K mainGlobals "inner_kinds" = some (some (.ref f5)))
    (l5 : K.lookup f5 = some ⟨oc5, od5, .func (PySem.W.fnOf "inner_kinds" "inner_kinds" (defArgs s_inner_kinds) (defBody s_inner_kinds) (defScope s_inner_kinds) .none kV5 dc5 pm5 an5 cd5 ct5), sl5⟩)
    (c5 : PySem.W.codeIn K cd5 "inner_kinds" = true)
    (k5 : PySem.W.keepIn K (.ref f5) = true)
    (a6 : PySem.W.nsIn K mainGlobals "count_kinds" = some (some (.ref f6)))
    (l6 : K.lookup f6 = some ⟨oc6, od6, .func (PySem.W.fnOf "count_kinds" "count_kinds" (defArgs s_count_kinds) (defBody s_count_kinds) (defScope s_count_kinds) .none kV6 dc6 pm6 an6 cd6 ct6), sl6⟩)
    (c6 : PySem.W.codeIn K cd6 "count_kinds" = true)
    (k6 : PySem.W.keepIn K (.ref f6) = true)
    (a7 : PySem.W.nsIn K mainGlobals "count_values" = some (some (.ref f7)))
    (l7 : K.lookup f7 = some ⟨oc7, od7, .func (PySem.W.fnOf "count_values" "count_values" (defArgs s_count_values) (defBody s_count_values) (defScope s_count_values) .none kV7 dc7 pm7 an7 cd7 ct7), sl7⟩)
    (c7 : PySem.W.codeIn K cd7 "count_values" = true)
    (k7 : PySem.W.keepIn K (.ref f7) = true)
    (a8 : PySem.W.nsIn K mainGlobals "product_up_to" = some (some (.ref f8)))
    (l8 : K.lookup f8 = some ⟨oc8, od8, .func (PySem.W.fnOf "product_up_to" "product_up_to" (defArgs s_product_up_to) (defBody s_product_up_to) (defScope s_product_up_to) .none kV8 dc8 pm8 an8 cd8 ct8), sl8⟩)
    (c8 : PySem.W.codeIn K cd8 "product_up_to" = true)
    (k8 : PySem.W.keepIn K (.ref f8) = true)
    (a9 : PySem.W.nsIn K mainGlobals "_law_box" = some (some (.ref f9)))
    (l9 : K.lookup f9 = some ⟨oc9, od9, .func (PySem.W.fnOf "_law_box" "_law_box" (defArgs s__law_box) (defBody s__law_box) (defScope s__law_box) .none kV9 dc9 pm9 an9 cd9 ct9), sl9⟩)
    (c9 : PySem.W.codeIn K cd9 "_law_box" = true)
    (k9 : PySem.W.keepIn K (.ref f9) = true)
    (a10 : PySem.W.nsIn K mainGlobals "_law_take" = some (some (.ref f10)))
    (l10 : K.lookup f10 = some ⟨oc10, od10, .func (PySem.W.fnOf "_law_take" "_law_take" (defArgs s__law_take) (defBody s__law_take) (defScope s__law_take) .none kV10 dc10 pm10 an10 cd10 ct10), sl10⟩)
    (c10 : PySem.W.codeIn K cd10 "_law_take" = true)
    (k10 : PySem.W.keepIn K (.ref f10) = true)
    (a11 : PySem.W.nsIn K mainGlobals "_law_pick" = some (some (.ref f11)))
    (l11 : K.lookup f11 = some ⟨oc11, od11, .func (PySem.W.fnOf "_law_pick" "_law_pick" (defArgs s__law_pick) (defBody s__law_pick) (defScope s__law_pick) .none kV11 dc11 pm11 an11 cd11 ct11), sl11⟩)
    (c11 : PySem.W.codeIn K cd11 "_law_pick" = true)
    (k11 : PySem.W.keepIn K (.ref f11) = true)
    (a12 : PySem.W.nsIn K mainGlobals "_law_kind" = some (some (.ref f12)))
    (l12 : K.lookup f12 = some ⟨oc12, od12, .func (PySem.W.fnOf "_law_kind" "_law_kind" (defArgs s__law_kind) (defBody s__law_kind) (defScope s__law_kind) .none kV12 dc12 pm12 an12 cd12 ct12), sl12⟩)
    (c12 : PySem.W.codeIn K cd12 "_law_kind" = true)
    (k12 : PySem.W.keepIn K (.ref f12) = true)
    (a13 : PySem.W.nsIn K mainGlobals "_law_inner" = some (some (.ref f13)))
    (l13 : K.lookup f13 = some ⟨oc13, od13, .func (PySem.W.fnOf "_law_inner" "_law_inner" (defArgs s__law_inner) (defBody s__law_inner) (defScope s__law_inner) .none kV13 dc13 pm13 an13 cd13 ct13), sl13⟩)
    (c13 : PySem.W.codeIn K cd13 "_law_inner" = true)
    (k13 : PySem.W.keepIn K (.ref f13) = true)
    (a14 : PySem.W.nsIn K mainGlobals "_law_many" = some (some (.ref f14)))
    (l14 : K.lookup f14 = some ⟨oc14, od14, .func (PySem.W.fnOf "_law_many" "_law_many" (defArgs s__law_many) (defBody s__law_many) (defScope s__law_many) .none kV14 dc14 pm14 an14 cd14 ct14), sl14⟩)
    (c14 : PySem.W.codeIn K cd14 "_law_many" = true)
    (k14 : PySem.W.keepIn K (.ref f14) = true)
    (a15 : PySem.W.nsIn K mainGlobals "_law_some_kind" = some (some (.ref f15)))
    (l15 : K.lookup f15 = some ⟨oc15, od15, .func (PySem.W.fnOf "_law_some_kind" "_law_some_kind" (defArgs s__law_some_kind) (defBody s__law_some_kind) (defScope s__law_some_kind) .none kV15 dc15 pm15 an15 cd15 ct15), sl15⟩)
    (c15 : PySem.W.codeIn K cd15 "_law_some_kind" = true)
    (k15 : PySem.W.keepIn K (.ref f15) = true)
    (a16 : PySem.W.nsIn K mainGlobals "_law_few" = some (some (.ref f16)))
    (l16 : K.lookup f16 = some ⟨oc16, od16, .func (PySem.W.fnOf "_law_few" "_law_few" (defArgs s__law_few) (defBody s__law_few) (defScope s__law_few) .none kV16 dc16 pm16 an16 cd16 ct16), sl16⟩)
    (c16 : PySem.W.codeIn K cd16 "_law_few" = true)
    (k16 : PySem.W.keepIn K (.ref f16) = true)
    (a17 : PySem.W.nsIn K mainGlobals "_law_class" = some (some (.ref f17)))
    (l17 : K.lookup f17 = some ⟨oc17, od17, .func (PySem.W.fnOf "_law_class" "_law_class" (defArgs s__law_class) (defBody s__law_class) (defScope s__law_class) .none kV17 dc17 pm17 an17 cd17 ct17), sl17⟩)
    (c17 : PySem.W.codeIn K cd17 "_law_class" = true)
    (k17 : PySem.W.keepIn K (.ref f17) = true)
    (a18 : PySem.W.nsIn K mainGlobals "_law_small" = some (some (.ref f18)))
    (l18 : K.lookup f18 = some ⟨oc18, od18, .func (PySem.W.fnOf "_law_small" "_law_small" (defArgs s__law_small) (defBody s__law_small) (defScope s__law_small) .none kV18 dc18 pm18 an18 cd18 ct18), sl18⟩)
    (c18 : PySem.W.codeIn K cd18 "_law_small" = true)
    (k18 : PySem.W.keepIn K (.ref f18) = true)
    (a19 : PySem.W.nsIn K mainGlobals "_law_told" = some (some (.ref f19)))
    (l19 : K.lookup f19 = some ⟨oc19, od19, .func (PySem.W.fnOf "_law_told" "_law_told" (defArgs s__law_told) (defBody s__law_told) (defScope s__law_told) .none kV19 dc19 pm19 an19 cd19 ct19), sl19⟩)
    (c19 : PySem.W.codeIn K cd19 "_law_told" = true)
    (k19 : PySem.W.keepIn K (.ref f19) = true)
    (a20 : PySem.W.nsIn K mainGlobals "law" = some (some (.ref f20)))
    (l20 : K.lookup f20 = some ⟨oc20, od20, .func (PySem.W.fnOf "law" "law" (defArgs s_law) (defBody s_law) (defScope s_law) .none kV20 dc20 pm20 an20 cd20 ct20), sl20⟩)
    (c20 : PySem.W.codeIn K cd20 "law" = true)
    (k20 : PySem.W.keepIn K (.ref f20) = true)
    (z_ValueError : PySem.W.nsIn K mainGlobals "ValueError" = some none)
    (z_abs : PySem.W.nsIn K mainGlobals "abs" = some none)
    (z_bool : PySem.W.nsIn K mainGlobals "bool" = some none)
    (z_int : PySem.W.nsIn K mainGlobals "int" = some none)
    (z_isinstance : PySem.W.nsIn K mainGlobals "isinstance" = some none)
    (z_len : PySem.W.nsIn K mainGlobals "len" = some none)
    (z_list : PySem.W.nsIn K mainGlobals "list" = some none)
    (z_range : PySem.W.nsIn K mainGlobals "range" = some none)
    (z_repr : PySem.W.nsIn K mainGlobals "repr" = some none)
    (z_str : PySem.W.nsIn K mainGlobals "str" = some none)
    (z_sum : PySem.W.nsIn K mainGlobals "sum" = some none)
    (z_tuple : PySem.W.nsIn K mainGlobals "tuple" = some none)
    (k_MOST_DEEP : PySem.W.nsIn K mainGlobals "MOST_DEEP" = some (some (.int 5 t_MOST_DEEP)))
    (k_MOST_INSIDE : PySem.W.nsIn K mainGlobals "MOST_INSIDE" = some (some (.int 4 t_MOST_INSIDE)))
    (k_MOST_KINDS : PySem.W.nsIn K mainGlobals "MOST_KINDS" = some (some (.int 20 t_MOST_KINDS)))
    (k_MOST_NUMBER : PySem.W.nsIn K mainGlobals "MOST_NUMBER" = some (some (.int 1000 t_MOST_NUMBER)))
    (g_FEWEST_INSIDE : PySem.W.nsIn K mainGlobals "FEWEST_INSIDE" = some (some (.ref p_FEWEST_INSIDE)))
    (ld_FEWEST_INSIDE : K.lookup p_FEWEST_INSIDE = some ⟨.type "dict", none, .dict es_FEWEST_INSIDE n_FEWEST_INSIDE, #[]⟩)
    (kl_FEWEST_INSIDE : PySem.W.KeysLit w.params es_FEWEST_INSIDE.toList)
    (e_FEWEST_INSIDE_record : PySem.W.nsIn K p_FEWEST_INSIDE "record" = some (some (.int 1 td_FEWEST_INSIDE_record)))
    (e_FEWEST_INSIDE_choice : PySem.W.nsIn K p_FEWEST_INSIDE "choice" = some (some (.int 2 td_FEWEST_INSIDE_choice)))
    (aC_kind : PySem.W.nsIn K mainGlobals "BadKind" = some (some (.ref C_kind)))
    (xC_kind : PySem.W.excIn K C_kind [.type "ValueError", .type "Exception", .type "BaseException", .type "object"] "ValueError.__new__" = true)
    (kC_kind : PySem.W.keepIn K (.ref C_kind) = true)
    (sC_kind : PySem.W.subIn K (.ref C_kind) (.type "BaseException") = some true)
    (tC_kind : PySem.W.typeIn K (.ref C_kind) = some (.type "type"))
    (aC_value : PySem.W.nsIn K mainGlobals "BadValue" = some (some (.ref C_value)))
    (xC_value : PySem.W.excIn K C_value [.type "ValueError", .type "Exception", .type "BaseException", .type "object"] "ValueError.__new__" = true)
    (kC_value : PySem.W.keepIn K (.ref C_value) = true)
    (sC_value : PySem.W.subIn K (.ref C_value) (.type "BaseException") = some true)
    (tC_value : PySem.W.typeIn K (.ref C_value) = some (.type "type"))
    (aC_patch : PySem.W.nsIn K mainGlobals "BadPatch" = some (some (.ref C_patch)))
    (xC_patch : PySem.W.excIn K C_patch [.type "ValueError", .type "Exception", .type "BaseException", .type "object"] "ValueError.__new__" = true)
    (kC_patch : PySem.W.keepIn K (.ref C_patch) = true)
    (sC_patch : PySem.W.subIn K (.ref C_patch) (.type "BaseException") = some true)
    (tC_patch : PySem.W.typeIn K (.ref C_patch) = some (.type "type"))
    (aC_unfit : PySem.W.nsIn K mainGlobals "Unfit" = some (some (.ref C_unfit)))
    (xC_unfit : PySem.W.excIn K C_unfit [.type "ValueError", .type "Exception", .type "BaseException", .type "object"] "ValueError.__new__" = true)
    (kC_unfit : PySem.W.keepIn K (.ref C_unfit) = true)
    (sC_unfit : PySem.W.subIn K (.ref C_unfit) (.type "BaseException") = some true)
    (tC_unfit : PySem.W.typeIn K (.ref C_unfit) = some (.type "type"))
    (aC_base : PySem.W.nsIn K mainGlobals "CorrigendaError" = some (some (.ref C_base)))
    (xC_base : PySem.W.excIn K C_base [.type "ValueError", .type "Exception", .type "BaseException", .type "object"] "ValueError.__new__" = true)
    (kC_base : PySem.W.keepIn K (.ref C_base) = true)
    (sC_base : PySem.W.subIn K (.ref C_base) (.type "BaseException") = some true)
    (tC_base : PySem.W.typeIn K (.ref C_base) = some (.type "type"))
    (hg_kind : PySem.W.findIn K (.ref C_kind) "__getattribute__" = some (some (.builtin "BaseException.__getattribute__")))
    (hk_kind : PySem.W.findIn K (.ref C_kind) "__getattr__" = some none)
    (hd_kind : PySem.W.hasDictIn K C_kind = true)
    (ha_kind : PySem.W.findIn K (.ref C_kind) "__class__" = some (some (.builtin "object.__class__")))
    (hm_kind : PySem.W.mroIn K C_kind (.type "object") = some true)
    (st_kind : PySem.W.findIn K (.ref C_kind) "__str__" = some (some (.builtin "BaseException.__str__")))
    (kv_kind : PySem.W.subIn K (.ref C_kind) (.type "ValueError") = some true)
    (ic_kind : PySem.W.isClsIn K C_kind = true)
    (sb_kind_kind : PySem.W.subIn K (.ref C_kind) (.ref C_kind) = some true)
    (sb_kind_value : PySem.W.subIn K (.ref C_kind) (.ref C_value) = some false)
    (sb_kind_patch : PySem.W.subIn K (.ref C_kind) (.ref C_patch) = some false)
    (sb_kind_unfit : PySem.W.subIn K (.ref C_kind) (.ref C_unfit) = some false)
    (sb_kind_base : PySem.W.subIn K (.ref C_kind) (.ref C_base) = some true)
    (hg_value : PySem.W.findIn K (.ref C_value) "__getattribute__" = some (some (.builtin "BaseException.__getattribute__")))
    (hk_value : PySem.W.findIn K (.ref C_value) "__getattr__" = some none)
    (hd_value : PySem.W.hasDictIn K C_value = true)
    (ha_value : PySem.W.findIn K (.ref C_value) "__class__" = some (some (.builtin "object.__class__")))
    (hm_value : PySem.W.mroIn K C_value (.type "object") = some true)
    (st_value : PySem.W.findIn K (.ref C_value) "__str__" = some (some (.builtin "BaseException.__str__")))
    (kv_value : PySem.W.subIn K (.ref C_value) (.type "ValueError") = some true)
    (ic_value : PySem.W.isClsIn K C_value = true)
    (sb_value_kind : PySem.W.subIn K (.ref C_value) (.ref C_kind) = some false)
    (sb_value_value : PySem.W.subIn K (.ref C_value) (.ref C_value) = some true)
    (sb_value_patch : PySem.W.subIn K (.ref C_value) (.ref C_patch) = some false)
    (sb_value_unfit : PySem.W.subIn K (.ref C_value) (.ref C_unfit) = some false)
    (sb_value_base : PySem.W.subIn K (.ref C_value) (.ref C_base) = some true)
    (hg_patch : PySem.W.findIn K (.ref C_patch) "__getattribute__" = some (some (.builtin "BaseException.__getattribute__")))
    (hk_patch : PySem.W.findIn K (.ref C_patch) "__getattr__" = some none)
    (hd_patch : PySem.W.hasDictIn K C_patch = true)
    (ha_patch : PySem.W.findIn K (.ref C_patch) "__class__" = some (some (.builtin "object.__class__")))
    (hm_patch : PySem.W.mroIn K C_patch (.type "object") = some true)
    (st_patch : PySem.W.findIn K (.ref C_patch) "__str__" = some (some (.builtin "BaseException.__str__")))
    (kv_patch : PySem.W.subIn K (.ref C_patch) (.type "ValueError") = some true)
    (ic_patch : PySem.W.isClsIn K C_patch = true)
    (sb_patch_kind : PySem.W.subIn K (.ref C_patch) (.ref C_kind) = some false)
    (sb_patch_value : PySem.W.subIn K (.ref C_patch) (.ref C_value) = some false)
    (sb_patch_patch : PySem.W.subIn K (.ref C_patch) (.ref C_patch) = some true)
    (sb_patch_unfit : PySem.W.subIn K (.ref C_patch) (.ref C_unfit) = some false)
    (sb_patch_base : PySem.W.subIn K (.ref C_patch) (.ref C_base) = some true)
    (hg_unfit : PySem.W.findIn K (.ref C_unfit) "__getattribute__" = some (some (.builtin "BaseException.__getattribute__")))
    (hk_unfit : PySem.W.findIn K (.ref C_unfit) "__getattr__" = some none)
    (hd_unfit : PySem.W.hasDictIn K C_unfit = true)
    (ha_unfit : PySem.W.findIn K (.ref C_unfit) "__class__" = some (some (.builtin "object.__class__")))
    (hm_unfit : PySem.W.mroIn K C_unfit (.type "object") = some true)
    (st_unfit : PySem.W.findIn K (.ref C_unfit) "__str__" = some (some (.builtin "BaseException.__str__")))
    (kv_unfit : PySem.W.subIn K (.ref C_unfit) (.type "ValueError") = some true)
    (ic_unfit : PySem.W.isClsIn K C_unfit = true)
    (sb_unfit_kind : PySem.W.subIn K (.ref C_unfit) (.ref C_kind) = some false)
    (sb_unfit_value : PySem.W.subIn K (.ref C_unfit) (.ref C_value) = some false)
    (sb_unfit_patch : PySem.W.subIn K (.ref C_unfit) (.ref C_patch) = some false)
    (sb_unfit_unfit : PySem.W.subIn K (.ref C_unfit) (.ref C_unfit) = some true)
    (sb_unfit_base : PySem.W.subIn K (.ref C_unfit) (.ref C_base) = some true)
    (hg_base : PySem.W.findIn K (.ref C_base) "__getattribute__" = some (some (.builtin "BaseException.__getattribute__")))
    (hk_base : PySem.W.findIn K (.ref C_base) "__getattr__" = some none)
    (hd_base : PySem.W.hasDictIn K C_base = true)
    (ha_base : PySem.W.findIn K (.ref C_base) "__class__" = some (some (.builtin "object.__class__")))
    (hm_base : PySem.W.mroIn K C_base (.type "object") = some true)
    (st_base : PySem.W.findIn K (.ref C_base) "__str__" = some (some (.builtin "BaseException.__str__")))
    (kv_base : PySem.W.subIn K (.ref C_base) (.type "ValueError") = some true)
    (ic_base : PySem.W.isClsIn K C_base = true)
    (sb_base_kind : PySem.W.subIn K (.ref C_base) (.ref C_kind) = some false)
    (sb_base_value : PySem.W.subIn K (.ref C_base) (.ref C_value) = some false)
    (sb_base_patch : PySem.W.subIn K (.ref C_base) (.ref C_patch) = some false)
    (sb_base_unfit : PySem.W.subIn K (.ref C_base) (.ref C_unfit) = some false)
    (sb_base_base : PySem.W.subIn K (.ref C_base) (.ref C_base) = some true)
    (hn : PySem.W.specialIn K (.builtin "object.__class__") "__get__" = some (some (.builtin "getset_descriptor.__get__")))
    (htk : PySem.W.takesIn K (.builtin "object.__class__") = some true)
    (law_true : ∀ ns : List Int, ns.length ≤ 63 → (m_law (.list (ns.map PyData.int))).wp (fun d => d = .bool true) (fun _ => False)) :
    ∃ fd : FuncData, (∀ (s : Shared) (v : Value), BindsTo s fd ⟨[v], []⟩ [("script", v)]) ∧ ∀ base : Heap, K.In base → base.Ns mainGlobals mg → FnOk l.prog w K mg base CX0 17 fa fd ["script"] (spLaw K) := by
  let T : Txt w K mg := {
    d_check_kind := ⟨f1, _, fun_mk (st := s_check_kind) l1 c1 k1, PySem.W.mg_of X G a1, (fun_mk (st := s_check_kind) l1 c1 k1).binds (ps := ["kind"]) fun _ _ _ _ _ _ us hl => match us, hl with | [_], _ => rfl⟩,
    d_few := ⟨f2, _, fun_mk (st := s_few) l2 c2 k2, PySem.W.mg_of X G a2, (fun_mk (st := s_few) l2 c2 k2).binds (ps := ["kind", "most"]) fun _ _ _ _ _ _ us hl => match us, hl with | [_, _], _ => rfl⟩,
    d_is_whole := ⟨f3, _, fun_mk (st := s_is_whole) l3 c3 k3, PySem.W.mg_of X G a3, (fun_mk (st := s_is_whole) l3 c3 k3).binds (ps := ["thing"]) fun _ _ _ _ _ _ us hl => match us, hl with | [_], _ => rfl⟩,
    d_is_within := ⟨f4, _, fun_mk (st := s_is_within) l4 c4 k4, PySem.W.mg_of X G a4, (fun_mk (st := s_is_within) l4 c4 k4).binds (ps := ["thing", "low", "high"]) fun _ _ _ _ _ _ us hl => match us, hl with | [_, _, _], _ => rfl⟩,
    d_inner_kinds := ⟨f5, _, fun_mk (st := s_inner_kinds) l5 c5 k5, PySem.W.mg_of X G a5, (fun_mk (st := s_inner_kinds) l5 c5 k5).binds (ps := ["kind"]) fun _ _ _ _ _ _ us hl => match us, hl with | [_], _ => rfl⟩,
    d_count_kinds := ⟨f6, _, fun_mk (st := s_count_kinds) l6 c6 k6, PySem.W.mg_of X G a6, (fun_mk (st := s_count_kinds) l6 c6 k6).binds (ps := ["kind", "deep"]) fun _ _ _ _ _ _ us hl => match us, hl with | [_, _], _ => rfl⟩,
    d_count_values := ⟨f7, _, fun_mk (st := s_count_values) l7 c7 k7, PySem.W.mg_of X G a7, (fun_mk (st := s_count_values) l7 c7 k7).binds (ps := ["kind", "most"]) fun _ _ _ _ _ _ us hl => match us, hl with | [_, _], _ => rfl⟩,
    d_product_up_to := ⟨f8, _, fun_mk (st := s_product_up_to) l8 c8 k8, PySem.W.mg_of X G a8, (fun_mk (st := s_product_up_to) l8 c8 k8).binds (ps := ["numbers", "most"]) fun _ _ _ _ _ _ us hl => match us, hl with | [_, _], _ => rfl⟩,
    d__law_box := ⟨f9, _, fun_mk (st := s__law_box) l9 c9 k9, PySem.W.mg_of X G a9, (fun_mk (st := s__law_box) l9 c9 k9).binds (ps := ["script"]) fun _ _ _ _ _ _ us hl => match us, hl with | [_], _ => rfl⟩,
    d__law_take := ⟨f10, _, fun_mk (st := s__law_take) l10 c10 k10, PySem.W.mg_of X G a10, (fun_mk (st := s__law_take) l10 c10 k10).binds (ps := ["box", "m"]) fun _ _ _ _ _ _ us hl => match us, hl with | [_, _], _ => rfl⟩,
    d__law_pick := ⟨f11, _, fun_mk (st := s__law_pick) l11 c11 k11, PySem.W.mg_of X G a11, (fun_mk (st := s__law_pick) l11 c11 k11).binds (ps := ["box", "menu"]) fun _ _ _ _ _ _ us hl => match us, hl with | [_, _], _ => rfl⟩,
    d__law_kind := ⟨f12, _, fun_mk (st := s__law_kind) l12 c12 k12, PySem.W.mg_of X G a12, (fun_mk (st := s__law_kind) l12 c12 k12).binds (ps := ["box", "deep"]) fun _ _ _ _ _ _ us hl => match us, hl with | [_, _], _ => rfl⟩,
    d__law_inner := ⟨f13, _, fun_mk (st := s__law_inner) l13 c13 k13, PySem.W.mg_of X G a13, (fun_mk (st := s__law_inner) l13 c13 k13).binds (ps := ["kind"]) fun _ _ _ _ _ _ us hl => match us, hl with | [_], _ => rfl⟩,
    d__law_many := ⟨f14, _, fun_mk (st := s__law_many) l14 c14 k14, PySem.W.mg_of X G a14, (fun_mk (st := s__law_many) l14 c14 k14).binds (ps := ["kind"]) fun _ _ _ _ _ _ us hl => match us, hl with | [_], _ => rfl⟩,
    d__law_some_kind := ⟨f15, _, fun_mk (st := s__law_some_kind) l15 c15 k15, PySem.W.mg_of X G a15, (fun_mk (st := s__law_some_kind) l15 c15 k15).binds (ps := ["box"]) fun _ _ _ _ _ _ us hl => match us, hl with | [_], _ => rfl⟩,
    d__law_few := ⟨f16, _, fun_mk (st := s__law_few) l16 c16 k16, PySem.W.mg_of X G a16, (fun_mk (st := s__law_few) l16 c16 k16).binds (ps := ["kind", "most"]) fun _ _ _ _ _ _ us hl => match us, hl with | [_, _], _ => rfl⟩,
    d__law_class := ⟨f17, _, fun_mk (st := s__law_class) l17 c17 k17, PySem.W.mg_of X G a17, (fun_mk (st := s__law_class) l17 c17 k17).binds (ps := ["e"]) fun _ _ _ _ _ _ us hl => match us, hl with | [_], _ => rfl⟩,
    d__law_small := ⟨f18, _, fun_mk (st := s__law_small) l18 c18 k18, PySem.W.mg_of X G a18, (fun_mk (st := s__law_small) l18 c18 k18).binds (ps := ["box", "deep"]) fun _ _ _ _ _ _ us hl => match us, hl with | [_, _], _ => rfl⟩,
    d__law_told := ⟨f19, _, fun_mk (st := s__law_told) l19 c19 k19, PySem.W.mg_of X G a19, (fun_mk (st := s__law_told) l19 c19 k19).binds (ps := ["kind", "most"]) fun _ _ _ _ _ _ us hl => match us, hl with | [_, _], _ => rfl⟩,
    d_law := ⟨f20, _, fun_mk (st := s_law) l20 c20 k20, PySem.W.mg_of X G a20, (fun_mk (st := s_law) l20 c20 k20).binds (ps := ["script"]) fun _ _ _ _ _ _ us hl => match us, hl with | [_], _ => rfl⟩,
    z_ValueError := PySem.W.mg_none_of X G z_ValueError,
    z_abs := PySem.W.mg_none_of X G z_abs,
    z_bool := PySem.W.mg_none_of X G z_bool,
    z_int := PySem.W.mg_none_of X G z_int,
    z_isinstance := PySem.W.mg_none_of X G z_isinstance,
    z_len := PySem.W.mg_none_of X G z_len,
    z_list := PySem.W.mg_none_of X G z_list,
    z_range := PySem.W.mg_none_of X G z_range,
    z_repr := PySem.W.mg_none_of X G z_repr,
    z_str := PySem.W.mg_none_of X G z_str,
    z_sum := PySem.W.mg_none_of X G z_sum,
    z_tuple := PySem.W.mg_none_of X G z_tuple,
    t_MOST_DEEP := t_MOST_DEEP,
    k_MOST_DEEP := PySem.W.mg_of X G k_MOST_DEEP,
    t_MOST_INSIDE := t_MOST_INSIDE,
    k_MOST_INSIDE := PySem.W.mg_of X G k_MOST_INSIDE,
    t_MOST_KINDS := t_MOST_KINDS,
    k_MOST_KINDS := PySem.W.mg_of X G k_MOST_KINDS,
    t_MOST_NUMBER := t_MOST_NUMBER,
    k_MOST_NUMBER := PySem.W.mg_of X G k_MOST_NUMBER,
    p_FEWEST_INSIDE := p_FEWEST_INSIDE,
    g_FEWEST_INSIDE := PySem.W.mg_of X G g_FEWEST_INSIDE,
    kd_FEWEST_INSIDE := ⟨⟨es_FEWEST_INSIDE, n_FEWEST_INSIDE, ld_FEWEST_INSIDE, kl_FEWEST_INSIDE⟩, fun q hq => by
        simp only [tab_FEWEST_INSIDE, List.mem_cons, List.not_mem_nil, or_false] at hq
        rcases hq with rfl | rfl
        · exact ⟨_, e_FEWEST_INSIDE_record⟩
        · exact ⟨_, e_FEWEST_INSIDE_choice⟩⟩,
    cl := fun c => match c with
      | .kind => C_kind
      | .value => C_value
      | .patch => C_patch
      | .unfit => C_unfit
      | .base => C_base,
    e_BadKind := ⟨xC_kind, kC_kind, sC_kind, tC_kind⟩,
    g_BadKind := PySem.W.mg_of X G aC_kind,
    e_BadValue := ⟨xC_value, kC_value, sC_value, tC_value⟩,
    g_BadValue := PySem.W.mg_of X G aC_value,
    e_BadPatch := ⟨xC_patch, kC_patch, sC_patch, tC_patch⟩,
    g_BadPatch := PySem.W.mg_of X G aC_patch,
    e_Unfit := ⟨xC_unfit, kC_unfit, sC_unfit, tC_unfit⟩,
    g_Unfit := PySem.W.mg_of X G aC_unfit,
    e_CorrigendaError := ⟨xC_base, kC_base, sC_base, tC_base⟩,
    g_CorrigendaError := PySem.W.mg_of X G aC_base,
    isE := fun c => match c with
      | .kind => ⟨hg_kind, hk_kind, sC_kind, hd_kind, ha_kind, hn, htk, hm_kind⟩
      | .value => ⟨hg_value, hk_value, sC_value, hd_value, ha_value, hn, htk, hm_value⟩
      | .patch => ⟨hg_patch, hk_patch, sC_patch, hd_patch, ha_patch, hn, htk, hm_patch⟩
      | .unfit => ⟨hg_unfit, hk_unfit, sC_unfit, hd_unfit, ha_unfit, hn, htk, hm_unfit⟩
      | .base => ⟨hg_base, hk_base, sC_base, hd_base, ha_base, hn, htk, hm_base⟩,
    strE := fun c => match c with
      | .kind => st_kind
      | .value => st_value
      | .patch => st_patch
      | .unfit => st_unfit
      | .base => st_base,
    kVE := fun c => match c with
      | .kind => kit_typ (by decide +kernel) kv_kind
      | .value => kit_typ (by decide +kernel) kv_value
      | .patch => kit_typ (by decide +kernel) kv_patch
      | .unfit => kit_typ (by decide +kernel) kv_unfit
      | .base => kit_typ (by decide +kernel) kv_base,
    exm := fun c => match c with
      | .kind => PySem.W.exm_ref sC_base hd_base tC_base sb_kind_base
      | .value => PySem.W.exm_ref sC_base hd_base tC_base sb_value_base
      | .patch => PySem.W.exm_ref sC_base hd_base tC_base sb_patch_base
      | .unfit => PySem.W.exm_ref sC_base hd_base tC_base sb_unfit_base
      | .base => PySem.W.exm_ref sC_base hd_base tC_base sb_base_base,
    kOne := fun c d => match c, d with
      | .kind, .kind => kit_ref ic_kind tC_kind sb_kind_kind sb_kind_kind
      | .kind, .value => kit_ref ic_value tC_value sb_kind_value sb_value_value
      | .kind, .patch => kit_ref ic_patch tC_patch sb_kind_patch sb_patch_patch
      | .kind, .unfit => kit_ref ic_unfit tC_unfit sb_kind_unfit sb_unfit_unfit
      | .kind, .base => kit_ref ic_base tC_base sb_kind_base sb_base_base
      | .value, .kind => kit_ref ic_kind tC_kind sb_value_kind sb_kind_kind
      | .value, .value => kit_ref ic_value tC_value sb_value_value sb_value_value
      | .value, .patch => kit_ref ic_patch tC_patch sb_value_patch sb_patch_patch
      | .value, .unfit => kit_ref ic_unfit tC_unfit sb_value_unfit sb_unfit_unfit
      | .value, .base => kit_ref ic_base tC_base sb_value_base sb_base_base
      | .patch, .kind => kit_ref ic_kind tC_kind sb_patch_kind sb_kind_kind
      | .patch, .value => kit_ref ic_value tC_value sb_patch_value sb_value_value
      | .patch, .patch => kit_ref ic_patch tC_patch sb_patch_patch sb_patch_patch
      | .patch, .unfit => kit_ref ic_unfit tC_unfit sb_patch_unfit sb_unfit_unfit
      | .patch, .base => kit_ref ic_base tC_base sb_patch_base sb_base_base
      | .unfit, .kind => kit_ref ic_kind tC_kind sb_unfit_kind sb_kind_kind
      | .unfit, .value => kit_ref ic_value tC_value sb_unfit_value sb_value_value
      | .unfit, .patch => kit_ref ic_patch tC_patch sb_unfit_patch sb_patch_patch
      | .unfit, .unfit => kit_ref ic_unfit tC_unfit sb_unfit_unfit sb_unfit_unfit
      | .unfit, .base => kit_ref ic_base tC_base sb_unfit_base sb_base_base
      | .base, .kind => kit_ref ic_kind tC_kind sb_base_kind sb_kind_kind
      | .base, .value => kit_ref ic_value tC_value sb_base_value sb_value_value
      | .base, .patch => kit_ref ic_patch tC_patch sb_base_patch sb_patch_patch
      | .base, .unfit => kit_ref ic_unfit tC_unfit sb_base_unfit sb_unfit_unfit
      | .base, .base => kit_ref ic_base tC_base sb_base_base sb_base_base }
  obtain rfl : fa = f20 := by
    have e := hfa.symm.trans (PySem.W.mg_of X G a20)
    cases e
    rfl
  refine ⟨_, fun s v => .of_eq rfl, fun base _ _ => FnOk.imp (ok_law (P := l.prog) (w := w) (base := base) T) fun vs H Q E hs => ?_⟩
  obtain ⟨a, ns, rfl, hS, h63, q⟩ := hs
  refine ⟨[.list (ns.map PyData.int)], H, .cons (.lst hS (by rw [List.length_map, sizeLine_eq]; omega) (RpAll.ofInts ns)) .nil, rfl, Ex.refl H, Tr.wp_mono (fun d hd v G' H' g e rv => ?_) (fun _ z => z) (law_true ns h63)⟩
  subst hd
  cases rv
  exact q H'
end K03
open PySem PySem.W PyProof.Rows
set_option maxRecDepth 100000 in
set_option maxHeartbeats 0 in
theorem PySem.Challenge.cw_corrigenda_k03_how_many_values_holds : PySem.Challenge.rw_corrigenda_k03_how_many_values.Holds := by
  w_on; o_law; k_head; (case hw => w_witness2)
  k_fill
  refine L2.walk_of (l := PySem.Challenge.rw_corrigenda_k03_how_many_values) (n := 63) (k := 17) (x := "script") (CX := fun _ => L2.CX0) (sp := fun w => K03.spLaw _) rfl (by decide) rfl ⟨rfl, by decide, by decide⟩ (fun w h Y => PySem.W.kIn_of Y) ?F (fun _ _ a ns hl _ hS => ⟨a, ns, rfl, hS, hl, fun _ => rfl⟩) (fun _ _ _ _ _ h => h)
  case F =>
    intro w mg fa h KX G hmg
    refine' K03.all_mk KX G hmg ?a1 ?l1 ?c1 ?k1 ?a2 ?l2 ?c2 ?k2 ?a3 ?l3 ?c3 ?k3 ?a4 ?l4 ?c4 ?k4 ?a5 ?l5 ?c5 ?k5 ?a6 ?l6 ?c6 ?k6 ?a7 ?l7 ?c7 ?k7 ?a8 ?l8 ?c8 ?k8 ?a9 ?l9 ?c9 ?k9 ?a10 ?l10 ?c10 ?k10 ?a11 ?l11 ?c11 ?k11 ?a12 ?l12 ?c12 ?k12 ?a13 ?l13 ?c13 ?k13 ?a14 ?l14 ?c14 ?k14 ?a15 ?l15 ?c15 ?k15 ?a16 ?l16 ?c16 ?k16 ?a17 ?l17 ?c17 ?k17 ?a18 ?l18 ?c18 ?k18 ?a19 ?l19 ?c19 ?k19 ?a20 ?l20 ?c20 ?k20 ?z_ValueError ?z_abs ?z_bool ?z_int ?z_isinstance ?z_len ?z_list ?z_range ?z_repr ?z_str ?z_sum ?z_tuple ?k_MOST_DEEP ?k_MOST_INSIDE ?k_MOST_KINDS ?k_MOST_NUMBER ?g_FEWEST_INSIDE ?ld_FEWEST_INSIDE ?kl_FEWEST_INSIDE ?e_FEWEST_INSIDE_record ?e_FEWEST_INSIDE_choice ?aC_kind ?xC_kind ?kC_kind ?sC_kind ?tC_kind ?aC_value ?xC_value ?kC_value ?sC_value ?tC_value ?aC_patch ?xC_patch ?kC_patch ?sC_patch ?tC_patch ?aC_unfit ?xC_unfit ?kC_unfit ?sC_unfit ?tC_unfit ?aC_base ?xC_base ?kC_base ?sC_base ?tC_base ?hg_kind ?hk_kind ?hd_kind ?ha_kind ?hm_kind ?st_kind ?kv_kind ?ic_kind ?sb_kind_kind ?sb_kind_value ?sb_kind_patch ?sb_kind_unfit ?sb_kind_base ?hg_value ?hk_value ?hd_value ?ha_value ?hm_value ?st_value ?kv_value ?ic_value ?sb_value_kind ?sb_value_value ?sb_value_patch ?sb_value_unfit ?sb_value_base ?hg_patch ?hk_patch ?hd_patch ?ha_patch ?hm_patch ?st_patch ?kv_patch ?ic_patch ?sb_patch_kind ?sb_patch_value ?sb_patch_patch ?sb_patch_unfit ?sb_patch_base ?hg_unfit ?hk_unfit ?hd_unfit ?ha_unfit ?hm_unfit ?st_unfit ?kv_unfit ?ic_unfit ?sb_unfit_kind ?sb_unfit_value ?sb_unfit_patch ?sb_unfit_unfit ?sb_unfit_base ?hg_base ?hk_base ?hd_base ?ha_base ?hm_base ?st_base ?kv_base ?ic_base ?sb_base_kind ?sb_base_value ?sb_base_patch ?sb_base_unfit ?sb_base_base ?hn ?htk K03.law_true
    (case a1 => k_is)
    (case l1 => k_is)
    (case c1 => k_is)
    (case k1 => k_is)
    (case a2 => k_is)
    (case l2 => k_is)
    (case c2 => k_is)
    (case k2 => k_is)
    (case a3 => k_is)
    (case l3 => k_is)
    (case c3 => k_is)
    (case k3 => k_is)
    (case a4 => k_is)
    (case l4 => k_is)
    (case c4 => k_is)
    (case k4 => k_is)
    (case a5 => k_is)
    (case l5 => k_is)
    (case c5 => k_is)
    (case k5 => k_is)
    (case a6 => k_is)
    (case l6 => k_is)
    (case c6 => k_is)
    (case k6 => k_is)
    (case a7 => k_is)
    (case l7 => k_is)
    (case c7 => k_is)
    (case k7 => k_is)
    (case a8 => k_is)
    (case l8 => k_is)
    (case c8 => k_is)
    (case k8 => k_is)
    (case a9 => k_is)
    (case l9 => k_is)
    (case c9 => k_is)
    (case k9 => k_is)
    (case a10 => k_is)
    (case l10 => k_is)
    (case c10 => k_is)
    (case k10 => k_is)
    (case a11 => k_is)
    (case l11 => k_is)
    (case c11 => k_is)
    (case k11 => k_is)
    (case a12 => k_is)
    (case l12 => k_is)
    (case c12 => k_is)
    (case k12 => k_is)
    (case a13 => k_is)
    (case l13 => k_is)
    (case c13 => k_is)
    (case k13 => k_is)
    (case a14 => k_is)
    (case l14 => k_is)
    (case c14 => k_is)
    (case k14 => k_is)
    (case a15 => k_is)
    (case l15 => k_is)
    (case c15 => k_is)
    (case k15 => k_is)
    (case a16 => k_is)
    (case l16 => k_is)
    (case c16 => k_is)
    (case k16 => k_is)
    (case a17 => k_is)
    (case l17 => k_is)
    (case c17 => k_is)
    (case k17 => k_is)
    (case a18 => k_is)
    (case l18 => k_is)
    (case c18 => k_is)
    (case k18 => k_is)
    (case a19 => k_is)
    (case l19 => k_is)
    (case c19 => k_is)
    (case k19 => k_is)
    (case a20 => k_is)
    (case l20 => k_is)
    (case c20 => k_is)
    (case k20 => k_is)
    (case z_ValueError => k_is)
    (case z_abs => k_is)
    (case z_bool => k_is)
    (case z_int => k_is)
    (case z_isinstance => k_is)
    (case z_len => k_is)
    (case z_list => k_is)
    (case z_range => k_is)
    (case z_repr => k_is)
    (case z_str => k_is)
    (case z_sum => k_is)
    (case z_tuple => k_is)
    (case k_MOST_DEEP => k_is)
    (case k_MOST_INSIDE => k_is)
    (case k_MOST_KINDS => k_is)
    (case k_MOST_NUMBER => k_is)
    (case g_FEWEST_INSIDE => k_is)
    (case ld_FEWEST_INSIDE => k_is)
    (case kl_FEWEST_INSIDE => k_keys)
    (case e_FEWEST_INSIDE_record => k_is)
    (case e_FEWEST_INSIDE_choice => k_is)
    (case aC_kind => k_is)
    (case xC_kind => k_exc)
    (case kC_kind => k_is)
    (case sC_kind => k_is)
    (case tC_kind => k_is)
    (case aC_value => k_is)
    (case xC_value => k_exc)
    (case kC_value => k_is)
    (case sC_value => k_is)
    (case tC_value => k_is)
    (case aC_patch => k_is)
    (case xC_patch => k_exc)
    (case kC_patch => k_is)
    (case sC_patch => k_is)
    (case tC_patch => k_is)
    (case aC_unfit => k_is)
    (case xC_unfit => k_exc)
    (case kC_unfit => k_is)
    (case sC_unfit => k_is)
    (case tC_unfit => k_is)
    (case aC_base => k_is)
    (case xC_base => k_exc)
    (case kC_base => k_is)
    (case sC_base => k_is)
    (case tC_base => k_is)
    (case hg_kind => k_is)
    (case hk_kind => k_is)
    (case hd_kind => k_is)
    (case ha_kind => k_is)
    (case hm_kind => k_is)
    (case st_kind => k_is)
    (case kv_kind => k_is)
    (case ic_kind => k_is)
    (case sb_kind_kind => first | rfl | k_is)
    (case sb_kind_value => first | rfl | k_is)
    (case sb_kind_patch => first | rfl | k_is)
    (case sb_kind_unfit => first | rfl | k_is)
    (case sb_kind_base => first | rfl | k_is)
    (case hg_value => k_is)
    (case hk_value => k_is)
    (case hd_value => k_is)
    (case ha_value => k_is)
    (case hm_value => k_is)
    (case st_value => k_is)
    (case kv_value => k_is)
    (case ic_value => k_is)
    (case sb_value_kind => first | rfl | k_is)
    (case sb_value_value => first | rfl | k_is)
    (case sb_value_patch => first | rfl | k_is)
    (case sb_value_unfit => first | rfl | k_is)
    (case sb_value_base => first | rfl | k_is)
    (case hg_patch => k_is)
    (case hk_patch => k_is)
    (case hd_patch => k_is)
    (case ha_patch => k_is)
    (case hm_patch => k_is)
    (case st_patch => k_is)
    (case kv_patch => k_is)
    (case ic_patch => k_is)
    (case sb_patch_kind => first | rfl | k_is)
    (case sb_patch_value => first | rfl | k_is)
    (case sb_patch_patch => first | rfl | k_is)
    (case sb_patch_unfit => first | rfl | k_is)
    (case sb_patch_base => first | rfl | k_is)
    (case hg_unfit => k_is)
    (case hk_unfit => k_is)
    (case hd_unfit => k_is)
    (case ha_unfit => k_is)
    (case hm_unfit => k_is)
    (case st_unfit => k_is)
    (case kv_unfit => k_is)
    (case ic_unfit => k_is)
    (case sb_unfit_kind => first | rfl | k_is)
    (case sb_unfit_value => first | rfl | k_is)
    (case sb_unfit_patch => first | rfl | k_is)
    (case sb_unfit_unfit => first | rfl | k_is)
    (case sb_unfit_base => first | rfl | k_is)
    (case hg_base => k_is)
    (case hk_base => k_is)
    (case hd_base => k_is)
    (case ha_base => k_is)
    (case hm_base => k_is)
    (case st_base => k_is)
    (case kv_base => k_is)
    (case ic_base => k_is)
    (case sb_base_kind => first | rfl | k_is)
    (case sb_base_value => first | rfl | k_is)
    (case sb_base_patch => first | rfl | k_is)
    (case sb_base_unfit => first | rfl | k_is)
    (case sb_base_base => first | rfl | k_is)
    (case hn => k_is)
    (case htk => k_is)
