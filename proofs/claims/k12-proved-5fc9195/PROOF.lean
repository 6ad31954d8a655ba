import PyProof.Rows.All
import Wide.All
import OpenK.AllK
import Wide.FinOn
import KE.KStateDown
import HandS.ForMost
import HandS.Exc
import HandS.ExcOwn
import HandS.ExcInit
import HandS.TryOnly
import HandS.WordsExc
import HandS.CallSlots
import HandS.IsInst
import HandS.ExcField
import HandS.ExcIs
import HandS.Style
import HandS.Flow
import HandS.Zip
import HandS.Strs
import HandS.SetKeys
import HandS.StrMore
import HandS.Defaults
import HandS.HeadEnd
import HandS.HeadHook1
import HandS.HeadHook2
import HandS.Head0
import HandS.Head1
import HandS.Head2
import HandS.More
import HandS.Codes
import KE.KExcIs
import HandS.HeadHook3
import HandS.HeadHook4
import HandS.Iter
import PyProof.NeKinds
import HandS.TupSets
import PySem.Challenge.RW_meltback_k12_steps_refused
set_option Elab.async false
set_option linter.all false
set_option maxRecDepth 100000
set_option maxHeartbeats 4000000
namespace DL
open PySem L2

/-! ### data -/
inductive D where
  | non | bl (b : Bool) | int (i : Int) | str (x : Str) | lst (xs : List D) | tup (xs : List D)
  | obj (C : Addr) (fs : List (Str × D)) | fx (v : V) | scr (xs : List D)

abbrev Fg := PySem.W.Frag

mutual
inductive Rep (K : Fg) (G : Hp) : V → D → Prop
  | non : Rep K G .non .non
  | bl (b : Bool) : Rep K G (.bl b) (.bl b)
  | int (i : Int) : Rep K G (.int i) (.int i)
  | str (x : Str) : Rep K G (.str x) (.str x)
  | lst {a : Addr} {xs : List V} {ds : List D} : G a = some (.lst xs) → RepL K G xs ds → Rep K G (.ref a) (.lst ds)
  | tup {a : Addr} {xs : List V} {ds : List D} : SqT K G a xs → RepL K G xs ds → Rep K G (.ref a) (.tup ds)
  | obj {a C dx : Addr} {fs : List (Str × V)} {ds : List (Str × D)} : G a = some (.ins C dx fs) → RepF K G fs ds → Rep K G (.ref a) (.obj C ds)
  | fx (v : V) : Rep K G v (.fx v)
  | scr {a : Addr} {xs : List V} {ds : List D} : SqL K G a xs → RepL K G xs ds → Rep K G (.ref a) (.scr ds)
inductive RepL (K : Fg) (G : Hp) : List V → List D → Prop
  | nil : RepL K G [] []
  | cons {v : V} {vs : List V} {d : D} {ds : List D} : Rep K G v d → RepL K G vs ds → RepL K G (v :: vs) (d :: ds)
inductive RepF (K : Fg) (G : Hp) : List (Str × V) → List (Str × D) → Prop
  | nil : RepF K G [] []
  | cons {f : Str} {v : V} {vs : List (Str × V)} {d : D} {ds : List (Str × D)} : Rep K G v d → RepF K G vs ds → RepF K G ((f, v) :: vs) ((f, d) :: ds)
end

theorem same_l {K : Fg} {G G' : Hp} {a : Addr} {xs : List V} (s : Same G G') (h : SqL K G a xs) : SqL K G' a xs := by
  rcases h with (h | ⟨o, h⟩) | h
  · exact .inl (.inl (s _ _ h))
  · exact .inl (.inr ⟨o, s _ _ h⟩)
  · exact .inr h
theorem same_t {K : Fg} {G G' : Hp} {a : Addr} {xs : List V} (s : Same G G') (h : SqT K G a xs) : SqT K G' a xs := by
  rcases h with (h | ⟨o, h⟩) | h
  · exact .inl (.inl (s _ _ h))
  · exact .inl (.inr ⟨o, s _ _ h⟩)
  · exact .inr h

section
variable {K : Fg} {G G' : Hp}
mutual
theorem Rep.mono (s : Same G G') : ∀ {v : V} {d : D}, Rep K G v d → Rep K G' v d
  | _, _, .non => .non
  | _, _, .bl b => .bl b
  | _, _, .int i => .int i
  | _, _, .str x => .str x
  | _, _, .lst h r => .lst (s _ _ h) (RepL.mono s r)
  | _, _, .tup h r => .tup (same_t s h) (RepL.mono s r)
  | _, _, .obj h r => .obj (s _ _ h) (RepF.mono s r)
  | _, _, .fx v => .fx v
  | _, _, .scr h r => .scr (same_l s h) (RepL.mono s r)
theorem RepL.mono (s : Same G G') : ∀ {vs : List V} {ds : List D}, RepL K G vs ds → RepL K G' vs ds
  | _, _, .nil => .nil
  | _, _, .cons a r => .cons (Rep.mono s a) (RepL.mono s r)
theorem RepF.mono (s : Same G G') : ∀ {vs : List (Str × V)} {ds : List (Str × D)}, RepF K G vs ds → RepF K G' vs ds
  | _, _, .nil => .nil
  | _, _, .cons a r => .cons (Rep.mono s a) (RepF.mono s r)
end
theorem RepL.length : ∀ {xs : List V} {ds : List D}, RepL K G xs ds → xs.length = ds.length
  | _, _, .nil => rfl
  | _, _, .cons _ r => congrArg Nat.succ (RepL.length r)
theorem RepL.get : ∀ {xs : List V} {ds : List D} {i : Nat} {d : D}, RepL K G xs ds → ds[i]? = some d → ∃ x, xs[i]? = some x ∧ Rep K G x d
  | _, _, _, _, .nil, e => by simp at e
  | _, _, 0, _, .cons a _, e => by simp at e; subst e; exact ⟨_, rfl, a⟩
  | _, _, i + 1, _, .cons _ r, e => by
    obtain ⟨x, h1, h2⟩ := RepL.get (i := i) r (by simpa using e)
    exact ⟨x, by simpa using h1, h2⟩
theorem RepL.got : ∀ {xs : List V} {ds : List D} {i : Nat} {x : V}, RepL K G xs ds → xs[i]? = some x → ∃ d, ds[i]? = some d ∧ Rep K G x d
  | _, _, _, _, .nil, e => by simp at e
  | _, _, 0, _, .cons a _, e => by simp at e; subst e; exact ⟨_, rfl, a⟩
  | _, _, i + 1, _, .cons _ r, e => by
    obtain ⟨x, h1, h2⟩ := RepL.got (i := i) r (by simpa using e)
    exact ⟨x, by simpa using h1, h2⟩
theorem RepL.append : ∀ {xs ys : List V} {ds es : List D}, RepL K G xs ds → RepL K G ys es → RepL K G (xs ++ ys) (ds ++ es)
  | _, _, _, _, .nil, s => s
  | _, _, _, _, .cons a r, s => .cons a (RepL.append r s)
theorem RepL.take : ∀ {xs : List V} {ds : List D} (n : Nat), RepL K G xs ds → RepL K G (xs.take n) (ds.take n)
  | _, _, 0, _ => .nil
  | _, _, _ + 1, .nil => .nil
  | _, _, n + 1, .cons a r => .cons a (RepL.take n r)
theorem RepL.drop : ∀ {xs : List V} {ds : List D} (n : Nat), RepL K G xs ds → RepL K G (xs.drop n) (ds.drop n)
  | _, _, 0, r => r
  | _, _, _ + 1, .nil => .nil
  | _, _, n + 1, .cons _ r => RepL.drop n r
theorem RepL.set : ∀ {xs : List V} {ds : List D} {v : V} {d : D} (n : Nat), Rep K G v d → RepL K G xs ds → RepL K G (xs.set n v) (ds.set n d)
  | _, _, _, _, _, _, .nil => .nil
  | _, _, _, _, 0, q, .cons _ r => .cons q r
  | _, _, _, _, n + 1, q, .cons a r => .cons a (RepL.set n q r)
theorem RepL.rev {xs : List V} {ds : List D} (h : RepL K G xs ds) : RepL K G xs.reverse ds.reverse := by
  induction xs generalizing ds with
  | nil => cases h; exact .nil
  | cons x xs ih =>
    cases h with
    | cons a r =>
      rw [List.reverse_cons, List.reverse_cons]
      exact (ih r).append (.cons a .nil)
theorem RepL.erase : ∀ {xs : List V} {ds : List D} (n : Nat), RepL K G xs ds → RepL K G (xs.eraseIdx n) (ds.eraseIdx n)
  | _, _, _, .nil => .nil
  | _, _, 0, .cons _ r => r
  | _, _, n + 1, .cons a r => .cons a (RepL.erase n r)
theorem RepL.rep {xs : List V} {ds : List D} (h : RepL K G xs ds) : ∀ n : Nat, RepL K G (List.replicate n xs).flatten (List.replicate n ds).flatten
  | 0 => .nil
  | n + 1 => by
    rw [List.replicate_succ, List.replicate_succ, List.flatten_cons, List.flatten_cons]
    exact h.append (RepL.rep h n)
theorem RepL.ints : ∀ {ns : List Int} {ds : List D}, RepL K G (ns.map V.int) ds → ds = ns.map D.int ∨ True := fun _ => .inr trivial
theorem Rep.int_of {v : V} {i : Int} (h : Rep K G v (.int i)) : v = .int i := by cases h; rfl
theorem Rep.bl_of {v : V} {b : Bool} (h : Rep K G v (.bl b)) : v = .bl b := by cases h; rfl
theorem Rep.str_of {v : V} {x : Str} (h : Rep K G v (.str x)) : v = .str x := by cases h; rfl
theorem Rep.non_of {v : V} (h : Rep K G v .non) : v = .non := by cases h; rfl
theorem Rep.fx_of {v u : V} (h : Rep K G v (.fx u)) : v = u := by cases h; rfl
theorem Rep.lst_of {v : V} {ds : List D} (h : Rep K G v (.lst ds)) : ∃ a xs, v = .ref a ∧ G a = some (.lst xs) ∧ RepL K G xs ds := by
  cases h with
  | lst a b => exact ⟨_, _, rfl, a, b⟩
theorem Rep.tup_of {v : V} {ds : List D} (h : Rep K G v (.tup ds)) : ∃ a xs, v = .ref a ∧ SqT K G a xs ∧ RepL K G xs ds := by
  cases h with
  | tup a b => exact ⟨_, _, rfl, a, b⟩
theorem Rep.obj_of {v : V} {C : Addr} {ds : List (Str × D)} (h : Rep K G v (.obj C ds)) : ∃ a dx fs, v = .ref a ∧ G a = some (.ins C dx fs) ∧ RepF K G fs ds := by
  cases h with
  | obj a b => exact ⟨_, _, _, rfl, a, b⟩
theorem Rep.scr_of {v : V} {ds : List D} (h : Rep K G v (.scr ds)) : ∃ a xs, v = .ref a ∧ SqL K G a xs ∧ RepL K G xs ds := by
  cases h with
  | scr a b => exact ⟨_, _, rfl, a, b⟩
theorem RepF.look : ∀ {fs : List (Str × V)} {ds : List (Str × D)} {f : Str} {d : D}, RepF K G fs ds → ds.lookup f = some d → ∃ v, fs.lookup f = some v ∧ Rep K G v d
  | _, _, _, _, .nil, e => by simp at e
  | _, _, f, d, .cons (f := g) a r, e => by
    by_cases h : f = g
    · subst h
      simp [List.lookup] at e ⊢
      subst e
      exact a
    · have hb : (f == g) = false := beq_eq_false_iff_ne.mpr h
      simp only [List.lookup, hb] at e ⊢
      exact RepF.look r e
theorem RepF.none_ : ∀ {fs : List (Str × V)} {ds : List (Str × D)} {f : Str}, RepF K G fs ds → ds.lookup f = none → fs.lookup f = none
  | _, _, _, .nil, e => rfl
  | _, _, f, .cons (f := g) a r, e => by
    by_cases h : f = g
    · subst h
      simp [List.lookup] at e
    · have hb : (f == g) = false := beq_eq_false_iff_ne.mpr h
      simp only [List.lookup, hb] at e ⊢
      exact RepF.none_ r e
end

/-! ### the two heaps: H what is tracked, G the part of it that stays -/
def DealAt (H : Hp) (p l : Addr) : Prop := ∃ (ns : List Int) (m : Int), H p = some (.lst [.ref l, .int m]) ∧ H l = some (.lst (ns.map V.int)) ∧ ns.length ≤ 1000 ∧ 0 ≤ m ∧ m < 2147483647 ∧ ∀ n ∈ ns, 0 ≤ n
theorem DealAt.ne {H : Hp} {p l : Addr} (h : DealAt H p l) : p ≠ l := by
  obtain ⟨ns, m, h1, h2, _⟩ := h
  intro e
  subst e
  rw [h1] at h2
  have e2 := HO.lst.inj (Option.some.inj h2)
  cases ns with
  | nil => cases e2
  | cons n r => cases (List.cons.inj e2).1
abbrev Dl := Option (Addr × Addr)
def NotDl (dl : Dl) (a : Addr) : Prop := ∀ p l, dl = some (p, l) → a ≠ p ∧ a ≠ l
def DlOk (dl : Dl) (H G : Hp) : Prop := ∀ p l, dl = some (p, l) → DealAt H p l ∧ G p = none ∧ G l = none
structure Go (dl : Dl) (H G H' G' : Hp) : Prop where
  keep : ∀ a o, H a = some o → NotDl dl a → H' a = some o
  grow : Same G G'
  sub : Same G' H'
  new : ∀ a o, G' a = some o → G a = some o ∨ H a = none
  deal : DlOk dl H' G'
theorem NotDl.non {a : Addr} : NotDl none a := fun _ _ h => nomatch h
theorem Go.refl {dl : Dl} {H G : Hp} (s : Same G H) (d : DlOk dl H G) : Go dl H G H G := ⟨fun _ _ h _ => h, Same.refl _, s, fun _ _ h => .inl h, d⟩
theorem Go.trans {dl : Dl} {H0 G0 H G H' G' : Hp} (a : Go dl H0 G0 H G) (b : Go dl H G H' G') : Go dl H0 G0 H' G' where
  keep := fun x o h n => b.keep x o (a.keep x o h n) n
  grow := a.grow.trans b.grow
  sub := b.sub
  new := fun x o h => by
    rcases b.new x o h with h | h
    · exact a.new x o h
    · right
      cases q : H0 x with
      | none => rfl
      | some u =>
        by_cases n : NotDl dl x
        · rw [a.keep x u q n] at h
          cases h
        · exfalso
          apply n
          intro p l e
          obtain ⟨⟨ns, m, h1, h2, _⟩, _⟩ := a.deal p l e
          exact ⟨fun z => (by rw [z, h1] at h; cases h), fun z => (by rw [z, h2] at h; cases h)⟩
  deal := b.deal
/-- a step that does not touch the deal -/
theorem Go.lift {dl : Dl} {H G H' G' : Hp} (d : DlOk dl H G) (b : Go none H G H' G') : Go dl H G H' G' where
  keep := fun x o h _ => b.keep x o h .non
  grow := b.grow
  sub := b.sub
  new := b.new
  deal := fun p l e => by
    obtain ⟨⟨ns, m, h1, h2, h3⟩, g1, g2⟩ := d p l e
    refine ⟨⟨ns, m, b.keep _ _ h1 .non, b.keep _ _ h2 .non, h3⟩, ?_, ?_⟩
    · cases q : G' p with
      | none => rfl
      | some o => rcases b.new _ _ q with z | z
                  · rw [g1] at z; cases z
                  · rw [h1] at z; cases z
    · cases q : G' l with
      | none => rfl
      | some o => rcases b.new _ _ q with z | z
                  · rw [g2] at z; cases z
                  · rw [h2] at z; cases z
/-- a new object, known at once -/
theorem Go.laid {H G : Hp} {p : Addr} {o : HO} (s : Same G H) (n : H p = none) : Go none H G (upd H p o) (upd G p o) where
  keep := fun a u h _ => by rw [upd_ne (ne_of_none h n)]; exact h
  grow := fun a u h => by rw [upd_ne (ne_of_none (s _ _ h) n)]; exact h
  sub := fun a u h => by
    by_cases e : a = p
    · subst e
      rw [upd_same] at h ⊢
      exact h
    · rw [upd_ne e] at h ⊢
      exact s _ _ h
  new := fun a u h => by
    by_cases e : a = p
    · subst e
      exact .inr n
    · rw [upd_ne e] at h
      exact .inl h
  deal := fun _ _ h => nomatch h
/-- a new object, one's own -/
theorem Go.mine {H G : Hp} {p : Addr} {o : HO} (s : Same G H) (n : H p = none) : Go none H G (upd H p o) G where
  keep := fun a u h _ => by rw [upd_ne (ne_of_none h n)]; exact h
  grow := Same.refl _
  sub := fun a u h => by rw [upd_ne (ne_of_none (s _ _ h) n)]; exact s _ _ h
  new := fun a u h => .inl h
  deal := fun _ _ h => nomatch h

/-! ### the state -/
def ExcIs (K : Fg) (G : Hp) (d : Option Addr) (fs : List (Str × D)) : Prop := (fs = [] ∧ d = none) ∨ ∃ dd fv, d = some dd ∧ G dd = some (.xd fv) ∧ RepF K G fv fs
theorem ExcIs.mono {K : Fg} {G G' : Hp} {d : Option Addr} {fs : List (Str × D)} (s : Same G G') (h : ExcIs K G d fs) : ExcIs K G' d fs := by
  rcases h with h | ⟨dd, fv, h1, h2, h3⟩
  · exact .inl h
  · exact .inr ⟨dd, fv, h1, s _ _ h2, h3.mono s⟩
inductive Sl where
  | un | dat (d : D) | own (ds : List D) | deal | exn (a C : Addr) (d : Option Addr) (fs : List (Str × D)) | self (C : Addr) (fs : List (Str × D))
structure Ct where
  dl : Dl
  sf : Option Addr
  He : Hp
  Ge : Hp
structure Cr (c : Ct) (H G : Hp) : Prop where
  keep : ∀ a o, c.He a = some o → NotDl c.dl a → c.sf ≠ some a → H a = some o
  grow : Same c.Ge G
  sub : Same G H
  new : ∀ a o, G a = some o → c.Ge a = some o ∨ c.He a = none
  dlok : DlOk c.dl H G
  he : ∀ p l, c.dl = some (p, l) → c.He p ≠ none ∧ c.He l ≠ none
  sfo : ∀ a, c.sf = some a → ∃ C dx fv, H a = some (.ins C dx fv)
theorem NotDl.of_ins {dl : Dl} {H G : Hp} (d : DlOk dl H G) {a C dx : Addr} {fv : List (Str × V)} (h : H a = some (.ins C dx fv)) : NotDl dl a := fun p l e => by
  obtain ⟨⟨ns, m, h1, h2, _⟩, _⟩ := d p l e
  exact ⟨fun z => (by rw [z, h1] at h; cases h), fun z => (by rw [z, h2] at h; cases h)⟩
theorem Cr.step {c : Ct} {H G H' G' : Hp} (a : Cr c H G) (b : Go c.dl H G H' G') : Cr c H' G' where
  keep := fun x o h n m => b.keep x o (a.keep x o h n m) n
  grow := a.grow.trans b.grow
  sub := b.sub
  new := fun x o h => by
    rcases b.new x o h with h | h
    · exact a.new x o h
    · right
      cases q : c.He x with
      | none => rfl
      | some u =>
        by_cases n : NotDl c.dl x
        · by_cases m : c.sf = some x
          · obtain ⟨C, dx, fv, e⟩ := a.sfo x m
            rw [h] at e
            cases e
          · rw [a.keep x u q n m] at h
            cases h
        · exfalso
          apply n
          intro p l e
          obtain ⟨⟨ns, m, h1, h2, _⟩, _⟩ := a.dlok p l e
          exact ⟨fun z => (by rw [z, h1] at h; cases h), fun z => (by rw [z, h2] at h; cases h)⟩
  dlok := b.deal
  he := a.he
  sfo := fun x e => by
    obtain ⟨C, dx, fv, h⟩ := a.sfo x e
    exact ⟨C, dx, fv, b.keep x _ h (NotDl.of_ins a.dlok h)⟩
theorem Cr.go {c : Ct} {H G : Hp} (a : Cr c H G) (h : c.sf = none) : Go c.dl c.He c.Ge H G :=
  ⟨fun x o q n => a.keep x o q n (by rw [h]; exact fun z => nomatch z), a.grow, a.sub, a.new, a.dlok⟩
def SlotOk (K : Fg) (c : Ct) (H G : Hp) (x : Option V) : Sl → Prop
  | .un => True
  | .dat d => ∃ v, x = some v ∧ Rep K G v d
  | .own ds => ∃ p xs, x = some (.ref p) ∧ H p = some (.lst xs) ∧ G p = none ∧ c.He p = none ∧ RepL K G xs ds
  | .deal => ∃ p l, c.dl = some (p, l) ∧ x = some (.ref p)
  | .exn a C d fs => x = some (.ref a) ∧ ExcIs K G d fs
  | .self C fs => ∃ a dx fv, x = some (.ref a) ∧ c.sf = some a ∧ H a = some (.ins C dx fv) ∧ G a = none ∧ fv.length ≤ 900 ∧ RepF K G fv fs
structure RS (K : Fg) (c : Ct) (H G : Hp) (σ : St) (δ : List Sl) : Prop where
  len : σ.length = δ.length
  at_ : ∀ (i : Nat) (s : Sl), δ[i]? = some s → ∃ x, σ[i]? = some x ∧ SlotOk K c H G x s
  sep : ∀ (i j : Nat) (p : Addr) (ds es : List D), i ≠ j → δ[i]? = some (.own ds) → δ[j]? = some (.own es) → σ[i]? = some (some (.ref p)) → σ[j]? ≠ some (some (.ref p))
theorem SlotOk.step {K : Fg} {c : Ct} {H G H' G' : Hp} (cr : Cr c H G) (b : Go c.dl H G H' G') {x : Option V} {s : Sl} (h : SlotOk K c H G x s) : SlotOk K c H' G' x s := by
  cases s with
  | un => trivial
  | dat d =>
    obtain ⟨v, e, r⟩ := h
    exact ⟨v, e, r.mono b.grow⟩
  | own ds =>
    obtain ⟨p, xs, e, h1, h2, h3, r⟩ := h
    refine ⟨p, xs, e, b.keep _ _ h1 fun p' l' e' => ?_, ?_, h3, r.mono b.grow⟩
    · obtain ⟨q1, q2⟩ := cr.he _ _ e'
      exact ⟨fun z => q1 (z ▸ h3), fun z => q2 (z ▸ h3)⟩
    · cases q : G' p with
      | none => rfl
      | some o => rcases b.new _ _ q with z | z
                  · rw [h2] at z; cases z
                  · rw [h1] at z; cases z
  | deal => exact h
  | exn a C d fs => exact ⟨h.1, h.2.mono b.grow⟩
  | self C fs =>
    obtain ⟨a, dx, fv, e, h1, h2, h3, h4, r⟩ := h
    refine ⟨a, dx, fv, e, h1, b.keep _ _ h2 (NotDl.of_ins cr.dlok h2), ?_, h4, r.mono b.grow⟩
    cases q : G' a with
    | none => rfl
    | some o => rcases b.new _ _ q with z | z
                · rw [h3] at z; cases z
                · rw [h2] at z; cases z
theorem RS.step {K : Fg} {c : Ct} {H G H' G' : Hp} {σ : St} {δ : List Sl} (r : RS K c H G σ δ) (cr : Cr c H G) (b : Go c.dl H G H' G') : RS K c H' G' σ δ :=
  ⟨r.len, fun i s e => let ⟨x, h1, h2⟩ := r.at_ i s e; ⟨x, h1, h2.step cr b⟩, r.sep⟩
/-- a slot takes a value that is known -/
theorem RS.set {K : Fg} {c : Ct} {H G : Hp} {σ : St} {δ : List Sl} (r : RS K c H G σ δ) {v : V} {d : D} (i : Nat) (q : Rep K G v d) : RS K c H G (σ.set i (some v)) (δ.set i (.dat d)) where
  len := by rw [List.length_set, List.length_set]; exact r.len
  at_ := fun j s e => by
    by_cases h : i = j
    · subst h
      have hl : i < δ.length := by
        have := (List.getElem?_eq_some_iff.mp e).1
        rwa [List.length_set] at this
      rw [List.getElem?_set_self hl] at e
      cases e
      exact ⟨some v, by rw [List.getElem?_set_self (by rw [r.len]; exact hl)], v, rfl, q⟩
    · rw [List.getElem?_set_ne h] at e ⊢
      exact r.at_ j s e
  sep := fun j k p ds es n e1 e2 h => by
    have nj : i ≠ j := fun z => by
      subst z
      have hl : i < δ.length := by
        have := (List.getElem?_eq_some_iff.mp e1).1
        rwa [List.length_set] at this
      rw [List.getElem?_set_self hl] at e1
      cases e1
    have nk : i ≠ k := fun z => by
      subst z
      have hl : i < δ.length := by
        have := (List.getElem?_eq_some_iff.mp e2).1
        rwa [List.length_set] at this
      rw [List.getElem?_set_self hl] at e2
      cases e2
    rw [List.getElem?_set_ne nj] at e1 h
    rw [List.getElem?_set_ne nk] at e2 ⊢
    exact r.sep j k p ds es n e1 e2 h
/-- a slot is forgotten -/
theorem RS.forget {K : Fg} {c : Ct} {H G : Hp} {σ : St} {δ : List Sl} (r : RS K c H G σ δ) (i : Nat) (x : Option V) : RS K c H G (σ.set i x) (δ.set i .un) where
  len := by rw [List.length_set, List.length_set]; exact r.len
  at_ := fun j s e => by
    by_cases h : i = j
    · subst h
      have hl : i < δ.length := by
        have := (List.getElem?_eq_some_iff.mp e).1
        rwa [List.length_set] at this
      rw [List.getElem?_set_self hl] at e
      cases e
      exact ⟨x, by rw [List.getElem?_set_self (by rw [r.len]; exact hl)], trivial⟩
    · rw [List.getElem?_set_ne h] at e ⊢
      exact r.at_ j s e
  sep := fun j k p ds es n e1 e2 h => by
    have nj : i ≠ j := fun z => by
      subst z
      have hl : i < δ.length := by
        have := (List.getElem?_eq_some_iff.mp e1).1
        rwa [List.length_set] at this
      rw [List.getElem?_set_self hl] at e1
      cases e1
    have nk : i ≠ k := fun z => by
      subst z
      have hl : i < δ.length := by
        have := (List.getElem?_eq_some_iff.mp e2).1
        rwa [List.length_set] at this
      rw [List.getElem?_set_self hl] at e2
      cases e2
    rw [List.getElem?_set_ne nj] at e1 h
    rw [List.getElem?_set_ne nk] at e2 ⊢
    exact r.sep j k p ds es n e1 e2 h
end DL

set_option Elab.async false
set_option linter.all false
set_option maxRecDepth 100000
set_option maxHeartbeats 4000000
namespace DL
open PySem L2

/-! ### judgements -/
abbrev XD := Addr × List (Str × D)
abbrev XC := XD → Prop
abbrev ME := List Sl → (D → Prop) → XC → Prop
abbrev MT := List Sl → (Bool → Prop) → XC → Prop
abbrev MA := List Sl → (List D → Prop) → XC → Prop
def XW (K : Fg) (c : Ct) (H G : Hp) (σ : St) (X : XC) (W : WX) : Prop := ∀ C fs d H' G', Go c.dl H G H' G' → ExcIs K G' d fs → X (C, fs) → W (.ref C) d σ H'
theorem XW.step {K : Fg} {c : Ct} {H G H' G' : Hp} {σ : St} {X : XC} {W : WX} (x : XW K c H G σ X W) (b : Go c.dl H G H' G') : XW K c H' G' σ X W := fun C fs d H2 G2 g e q => x C fs d H2 G2 (b.trans g) e q
theorem XW.no {K : Fg} {c : Ct} {H G : Hp} {σ : St} {W : WX} : XW K c H G σ (fun _ => False) W := fun _ _ _ _ _ _ _ q => q.elim

def WE (K : Fg) (c : Ct) (W : WX) (t : TE) (m : ME) : Prop := ∀ H G σ δ (F : D → Prop) (X : XC) (Q : VK), Cr c H G → RS K c H G σ δ → m δ F X →
  (∀ v d H' G', Go c.dl H G H' G' → Rep K G' v d → F d → Q v H') → XW K c H G σ X W → t σ H Q
def WT (K : Fg) (c : Ct) (W : WX) (t : TT) (m : MT) : Prop := ∀ H G σ δ (F : Bool → Prop) (X : XC) (Q : Bool → Hp → Prop), Cr c H G → RS K c H G σ δ → m δ F X →
  (∀ b H' G', Go c.dl H G H' G' → F b → Q b H') → XW K c H G σ X W → t σ H Q
def WA (K : Fg) (c : Ct) (W : WX) (t : TA) (m : MA) : Prop := ∀ H G σ δ (F : List D → Prop) (X : XC) (Q : List V → Hp → Prop), Cr c H G → RS K c H G σ δ → m δ F X →
  (∀ vs ds H' G', Go c.dl H G H' G' → RepL K G' vs ds → F ds → Q vs H') → XW K c H G σ X W → t σ H Q
structure DE (X : Cx) (c : Ct) (W : WX) (e : Expr) (t : TE) (m : ME) : Prop where
  p : PE X e t
  w : WE X.K c W t m
structure DT (X : Cx) (c : Ct) (W : WX) (e : Expr) (t : TT) (m : MT) : Prop where
  p : PT X e t
  w : WT X.K c W t m
structure DW (X : Cx) (c : Ct) (W : WX) (e : Expr) (t : TT) (m : MT) : Prop where
  p : PW X e t
  w : WT X.K c W t m
structure DA (X : Cx) (c : Ct) (W : WX) (es : List Expr) (t : TA) (m : MA) : Prop where
  p : PA X es t
  w : WA X.K c W t m

section
variable {X : Cx} {c : Ct} {W : WX} {e a b : Expr} {es : List Expr} {pos : Pos} {m ma mb : ME} {K : Fg} {te ta tb : TE}

theorem Cr.rfl' {c : Ct} {H G : Hp} (cr : Cr c H G) : Go c.dl H G H G := Go.refl cr.sub cr.dlok

/-! ### names, constants -/
def mVar (i : Nat) : ME := fun δ F _ => match δ[i]? with
  | some (.dat d) => F d
  | _ => False
def mC (d : D) : ME := fun _ F _ => F d
theorem we_var {i : Nat} : WE K c W (tVar i) (mVar i) := fun H G σ δ F X Q cr rs h q _ => by
  unfold mVar at h
  split at h
  · rename_i d e
    obtain ⟨x, h1, v, h2, h3⟩ := rs.at_ _ _ e
    subst h2
    exact ⟨v, h1, q v d H G cr.rfl' h3 h⟩
  · exact h.elim
theorem we_c {v : V} {d : D} (r : ∀ G, Rep K G v d) : WE K c W (tC v) (mC d) := fun H G σ δ F X Q cr rs h q _ => q v d H G cr.rfl' (r G) h
theorem de_var (i : Nat) {x : Str} (hN : X.N[i]? = some x := by rfl) (hv : Vis X.env.scope x := by first | exact Or.inl rfl | exact Or.inr (Or.inl rfl) | exact Or.inr (Or.inr rfl)) (hd : (x == ("__debug__" : Str)) = false := by decide)
    (hcd : (x == ("__classdict__" : Str)) = false := by decide) : DE X c W (.Name x pos) (tVar i) (mVar i) := ⟨pe_var hN hv hd hcd, we_var⟩
theorem de_int {i j} : DE X c W (.Constant (.int i) j pos) (tC (.int i)) (mC (.int i)) := ⟨pe_int, we_c fun _ => .int i⟩
theorem de_bl {i j} : DE X c W (.Constant (.bool i) j pos) (tC (.bl i)) (mC (.bl i)) := ⟨pe_bl, we_c fun _ => .bl i⟩
theorem de_non {j} : DE X c W (.Constant .none j pos) (tC .non) (mC .non) := ⟨pe_non, we_c fun _ => .non⟩
theorem de_str {i j} : DE X c W (.Constant (.str i) j pos) (tC (.str i)) (mC (.str i)) := ⟨pe_str, we_c fun _ => .str i⟩
theorem de_glob {x : Str} {v : V} {u : Value} {d : D} (hg : Gl X x) (hm : X.mg x = some u) (r : RelV v u) (k : ∀ G, Rep X.K G v d) (hd : (x == ("__debug__" : Str)) = false := by decide) : DE X c W (.Name x pos) (tC v) (mC d) :=
  ⟨pe_glob hg hm r hd, we_c k⟩
theorem de_bltn {x : Str} {v : V} {u : Value} (hg : Gl X x) (hm : X.mg x = none) (hv : bootBuiltins x = some u) (r : RelV v u) (hn : x ≠ "__name__" := by decide) (hd : (x == ("__debug__" : Str)) = false := by decide) : DE X c W (.Name x pos) (tC v) (mC (.fx v)) :=
  ⟨pe_bltn hg hm hv r hn hd, we_c fun _ => .fx v⟩

/-! ### operators -/
/-- an operation's reading, by data -/
def RD (K : Fg) (r : R2) (g : D → D → (D → Prop) → Prop) : Prop := ∀ H G x y d e (F : D → Prop) (Q : VK), Same G H → Rep K G x d → Rep K G y e → g d e F → (∀ v d' H' G', Go none H G H' G' → Rep K G' v d' → F d' → Q v H') → r x y H Q
def mOp (g : D → D → (D → Prop) → Prop) (ma mb : ME) : ME := fun δ F X => ma δ (fun d => mb δ (fun e => g d e F) X) X
theorem we_op {r : R2} {g : D → D → (D → Prop) → Prop} {ta tb : TE} (hr : RD K r g) (ha : WE K c W ta ma) (hb : WE K c W tb mb) : WE K c W (tOp r ta tb) (mOp g ma mb) := fun H G σ δ F X Q cr rs h q x => by
  refine ha H G σ δ _ X _ cr rs h (fun v d H1 G1 g1 r1 h1 => ?_) x
  refine hb H1 G1 σ δ _ X _ (cr.step g1) (rs.step cr g1) h1 (fun u e H2 G2 g2 r2 h2 => ?_) (x.step g1)
  exact hr H2 G2 v u d e F Q g2.sub (r1.mono g2.grow) r2 h2 fun w d' H' G' g3 r3 f => q w d' H' G' ((g1.trans g2).trans (g3.lift g2.deal)) r3 f
theorem de_op {op : Operator} {r : R2} {g : D → D → (D → Prop) → Prop} (ho : OpR X (binaryOp op) r) (hr : RD X.K r g) (ha : DE X c W a ta ma) (hb : DE X c W b tb mb) : DE X c W (.BinOp a op b pos) (tOp r ta tb) (mOp g ma mb) := by
  obtain ⟨pa, wa⟩ := ha
  obtain ⟨pb, wb⟩ := hb
  exact ⟨pe_op ho pa pb, we_op hr wa wb⟩
theorem de_cmp {op : CmpOp} {r : R2} {g : D → D → (D → Prop) → Prop} (ho : OpR X (compareOp op) r) (hr : RD X.K r g) (ha : DE X c W a ta ma) (hb : DE X c W b tb mb) (hm : behindInMarks op b = false) : DE X c W (.Compare a [op] [b] pos) (tOp r ta tb) (mOp g ma mb) := by
  obtain ⟨pa, wa⟩ := ha
  obtain ⟨pb, wb⟩ := hb
  exact ⟨pe_cmpR ho pa pb hm, we_op hr wa wb⟩
/-- a test of a value that is a bool -/
def mB (m : ME) : MT := fun δ F X => m δ (fun d => match d with
  | .bl b => F b
  | _ => False) X
theorem wt_B {t : TE} (h : WE K c W t m) : WT K c W (tTest t) (mB m) := fun H G σ δ F X Q cr rs hm q x => by
  refine h H G σ δ _ X _ cr rs hm (fun v d H' G' g r f => ?_) x
  split at f
  · rename_i b
    exact ⟨b, r.bl_of, q b H' G' g f⟩
  · exact f.elim
theorem dt_cmp {op : CmpOp} {r : R2} {g : D → D → (D → Prop) → Prop} (ho : OpR X (compareOp op) r) (hr : RD X.K r g) (ha : DE X c W a ta ma) (hb : DE X c W b tb mb) (hm : behindInMarks op b = false) : DT X c W (.Compare a [op] [b] pos) (tTest (tOp r ta tb)) (mB (mOp g ma mb)) := by
  obtain ⟨pa, wa⟩ := ha
  obtain ⟨pb, wb⟩ := hb
  exact ⟨pt_cmpR ho pa pb hm, wt_B (we_op hr wa wb)⟩
/-- truth -/
def truD : D → Option Bool
  | .non => some false
  | .bl b => some b
  | .int i => some (i != 0)
  | .str x => if x.length ≤ sizeLine then some ((x.length : Int) != 0) else none
  | .lst xs => some (!xs.isEmpty)
  | .tup xs => some (!xs.isEmpty)
  | _ => none
theorem RepL.isEmpty {G : Hp} {xs : List V} {ds : List D} (r : RepL K G xs ds) : xs.isEmpty = ds.isEmpty := by cases r <;> rfl
theorem tru_of {G H : Hp} (s : Same G H) {v : V} {d : D} {k : Bool} (r : Rep K G v d) (e : truD d = some k) : TruV K v H k := by
  cases r with
  | non => cases e; exact rfl
  | bl b => cases e; exact rfl
  | int i => cases e; exact rfl
  | str x =>
    have e : (if x.length ≤ sizeLine then some ((x.length : Int) != 0) else none) = some k := e
    split at e
    · rename_i hx
      cases e
      exact ⟨hx, rfl⟩
    · cases e
  | lst h1 h2 => cases e; exact .inl ⟨_, SqL.of (s _ _ h1), by rw [h2.isEmpty]⟩
  | tup h1 h2 => cases e; exact .inr (.inl ⟨_, same_t s h1, by rw [h2.isEmpty]⟩)
  | obj _ _ => cases e
  | fx _ => cases e
  | scr _ _ => cases e
def mTru (m : ME) : MT := fun δ F X => m δ (fun d => match truD d with
  | some b => F b
  | none => False) X
theorem dt_truth (ha : DE X c W a ta ma) (he : ∀ whole, isTrue a X.env whole = (do let v ← whole; standAt a.pos; holding [v] (truthy v)) := by intro _; rfl) : DT X c W a (fun σ H Q => ta σ H fun x H' => ∃ k, TruV X.K x H' k ∧ Q k H') (mTru ma) := by
  obtain ⟨pa, wa⟩ := ha
  refine ⟨pt_truth pa he, fun H G σ δ F X Q cr rs hm q x => ?_⟩
  refine wa H G σ δ _ X _ cr rs hm (fun v d H' G' g r f => ?_) x
  split at f
  · rename_i k e
    exact ⟨k, tru_of g.sub r e, q k H' G' g f⟩
  · exact f.elim
/-! and, or, not as tests -/
def mtAnd (p q : MT) : MT := fun δ F X => p δ (fun b => if b = true then q δ F X else F false) X
def mtOr (p q : MT) : MT := fun δ F X => p δ (fun b => if b = true then F true else q δ F X) X
def mtNot (p : MT) : MT := fun δ F X => p δ (fun b => F (!b)) X
variable {rest : List Expr} {p q : MT} {tp tq : TT}
theorem DW.dt (h : DW X c W e tp p) : DT X c W e tp p := ⟨h.p.pt, h.w⟩
theorem dw_and1 (h : DT X c W a tp p) : DW X c W (.BoolOp .And [a] pos) tp p := ⟨pw_and1 h.p, h.w⟩
theorem dw_or1 (h : DT X c W a tp p) : DW X c W (.BoolOp .Or [a] pos) tp p := ⟨pw_or1 h.p, h.w⟩
theorem dw_and (ha : DT X c W a tp p) (hb : DW X c W (.BoolOp .And (b :: rest) pos) tq q) : DW X c W (.BoolOp .And (a :: b :: rest) pos) (tAnd tp tq) (mtAnd p q) := by
  obtain ⟨pa, wa⟩ := ha
  obtain ⟨pb, wb⟩ := hb
  refine ⟨pw_and pa pb, fun H G σ δ F X Q cr rs hm k x => ?_⟩
  refine wa H G σ δ _ X _ cr rs hm (fun z H1 G1 g1 f => ?_) x
  cases z with
  | true => exact wb H1 G1 σ δ F X Q (cr.step g1) (rs.step cr g1) f (fun z H2 G2 g2 f2 => k z H2 G2 (g1.trans g2) f2) (x.step g1)
  | false => exact k false H1 G1 g1 f
theorem dw_or (ha : DT X c W a tp p) (hb : DW X c W (.BoolOp .Or (b :: rest) pos) tq q) : DW X c W (.BoolOp .Or (a :: b :: rest) pos) (tOr tp tq) (mtOr p q) := by
  obtain ⟨pa, wa⟩ := ha
  obtain ⟨pb, wb⟩ := hb
  refine ⟨pw_or pa pb, fun H G σ δ F X Q cr rs hm k x => ?_⟩
  refine wa H G σ δ _ X _ cr rs hm (fun z H1 G1 g1 f => ?_) x
  cases z with
  | true => exact k true H1 G1 g1 f
  | false => exact wb H1 G1 σ δ F X Q (cr.step g1) (rs.step cr g1) f (fun z H2 G2 g2 f2 => k z H2 G2 (g1.trans g2) f2) (x.step g1)
theorem dt_not (ha : DT X c W a tp p) : DT X c W (.UnaryOp .Not a pos) (tNot tp) (mtNot p) := by
  obtain ⟨pa, wa⟩ := ha
  exact ⟨pt_not pa, fun H G σ δ F X Q cr rs hm k x => wa H G σ δ _ X _ cr rs hm (fun z H1 G1 g1 f => k _ H1 G1 g1 f) x⟩
/-! as values, by truth -/
def mOrV (ma mb : ME) : ME := fun δ F X => ma δ (fun d => match truD d with
  | some true => F d
  | some false => mb δ F X
  | none => False) X
def mAndV (ma mb : ME) : ME := fun δ F X => ma δ (fun d => match truD d with
  | some false => F d
  | some true => mb δ F X
  | none => False) X
def mNotV (ma : ME) : ME := fun δ F X => ma δ (fun d => match truD d with
  | some b => F (.bl (!b))
  | none => False) X
theorem de_one {op} (h : DE X c W a ta m) : DE X c W (.BoolOp op [a] pos) ta m := ⟨pe_one h.p, h.w⟩
theorem de_or (ha : DE X c W a ta ma) (hb : DE X c W (.BoolOp .Or (b :: rest) pos) tb mb) : DE X c W (.BoolOp .Or (a :: b :: rest) pos) (tOrT X.K ta tb) (mOrV ma mb) := by
  obtain ⟨pa, wa⟩ := ha
  obtain ⟨pb, wb⟩ := hb
  refine ⟨pe_orT pa pb, fun H G σ δ F X Q cr rs hm k x => ?_⟩
  refine wa H G σ δ _ X _ cr rs hm (fun v d H1 G1 g1 r1 f => ?_) x
  split at f
  · rename_i e
    exact ⟨true, tru_of g1.sub r1 e, iteT (k v d H1 G1 g1 r1 f)⟩
  · rename_i e
    exact ⟨false, tru_of g1.sub r1 e, iteF (wb H1 G1 σ δ F X Q (cr.step g1) (rs.step cr g1) f (fun z d2 H2 G2 g2 r2 f2 => k z d2 H2 G2 (g1.trans g2) r2 f2) (x.step g1))⟩
  · exact f.elim
theorem de_and (ha : DE X c W a ta ma) (hb : DE X c W (.BoolOp .And (b :: rest) pos) tb mb) : DE X c W (.BoolOp .And (a :: b :: rest) pos) (tAndT X.K ta tb) (mAndV ma mb) := by
  obtain ⟨pa, wa⟩ := ha
  obtain ⟨pb, wb⟩ := hb
  refine ⟨pe_andT pa pb, fun H G σ δ F X Q cr rs hm k x => ?_⟩
  refine wa H G σ δ _ X _ cr rs hm (fun v d H1 G1 g1 r1 f => ?_) x
  split at f
  · rename_i e
    exact ⟨false, tru_of g1.sub r1 e, iteF (k v d H1 G1 g1 r1 f)⟩
  · rename_i e
    exact ⟨true, tru_of g1.sub r1 e, iteT (wb H1 G1 σ δ F X Q (cr.step g1) (rs.step cr g1) f (fun z d2 H2 G2 g2 r2 f2 => k z d2 H2 G2 (g1.trans g2) r2 f2) (x.step g1))⟩
  · exact f.elim
theorem de_not (ha : DE X c W a ta ma) : DE X c W (.UnaryOp .Not a pos) (tNotT X.K ta) (mNotV ma) := by
  obtain ⟨pa, wa⟩ := ha
  refine ⟨pe_notT pa, fun H G σ δ F X Q cr rs hm k x => ?_⟩
  refine wa H G σ δ _ X _ cr rs hm (fun v d H1 G1 g1 r1 f => ?_) x
  split at f
  · rename_i b e
    exact ⟨b, tru_of g1.sub r1 e, k _ _ H1 G1 g1 (.bl _) f⟩
  · exact f.elim
/-- a if t else b -/
def mIf (p : MT) (ma mb : ME) : ME := fun δ F X => p δ (fun z => if z = true then ma δ F X else mb δ F X) X
theorem de_if {t : Expr} (ht : DT X c W t tp p) (ha : DE X c W a ta ma) (hb : DE X c W b tb mb) : DE X c W (.IfExp t a b pos) (tIf tp ta tb) (mIf p ma mb) := by
  obtain ⟨pt, wt⟩ := ht
  obtain ⟨pa, wa⟩ := ha
  obtain ⟨pb, wb⟩ := hb
  refine ⟨pe_ifExp pt pa pb, fun H G σ δ F X Q cr rs hm k x => ?_⟩
  refine wt H G σ δ _ X _ cr rs hm (fun z H1 G1 g1 f => ?_) x
  cases z with
  | true => exact wa H1 G1 σ δ F X Q (cr.step g1) (rs.step cr g1) f (fun z d2 H2 G2 g2 r2 f2 => k z d2 H2 G2 (g1.trans g2) r2 f2) (x.step g1)
  | false => exact wb H1 G1 σ δ F X Q (cr.step g1) (rs.step cr g1) f (fun z d2 H2 G2 g2 r2 f2 => k z d2 H2 G2 (g1.trans g2) r2 f2) (x.step g1)
/-- a op b op' c -/
def mChain (g g' : D → D → (D → Prop) → Prop) (ma mb mc : ME) : ME := fun δ F X => ma δ (fun d => mb δ (fun e => g d e fun z => match z with
  | .bl true => mc δ (fun f => g' e f F) X
  | .bl false => F (.bl false)
  | _ => False) X) X
theorem we_chain {r r' : R2} {g g' : D → D → (D → Prop) → Prop} {ta tb tc : TE} {mc : ME} (hr : RD K r g) (hr' : RD K r' g') (wa : WE K c W ta ma) (wb : WE K c W tb mb) (wc : WE K c W tc mc) : WE K c W (tChain r r' ta tb tc) (mChain g g' ma mb mc) := fun H G σ δ F X Q cr rs h q x => by
  refine wa H G σ δ _ X _ cr rs h (fun v d H1 G1 g1 r1 h1 => ?_) x
  refine wb H1 G1 σ δ _ X _ (cr.step g1) (rs.step cr g1) h1 (fun u e H2 G2 g2 r2 h2 => ?_) (x.step g1)
  refine hr H2 G2 v u d e _ _ g2.sub (r1.mono g2.grow) r2 h2 fun w d' H3 G3 g3 r3 f => ?_
  have g13 := (g1.trans g2).trans (g3.lift g2.deal)
  split at f
  · refine ⟨true, r3.bl_of, iteT ?_⟩
    refine wc H3 G3 σ δ _ X _ (cr.step g13) (rs.step cr g13) f (fun y f' H4 G4 g4 r4 h4 => ?_) (x.step g13)
    refine hr' H4 G4 u y e f' F Q g4.sub ((r2.mono g3.grow).mono g4.grow) r4 h4 fun w2 d2 H5 G5 g5 r5 f5 => ?_
    exact q w2 d2 H5 G5 ((g13.trans g4).trans (g5.lift g4.deal)) r5 f5
  · exact ⟨false, r3.bl_of, iteF (q (.bl false) _ H3 G3 g13 (.bl false) f)⟩
  · exact f.elim
theorem de_chain {op op' : CmpOp} {r r' : R2} {g g' : D → D → (D → Prop) → Prop} {cc : Expr} {mc : ME} {tc : TE} (ho : OpR X (compareOp op) r) (ho' : OpR X (compareOp op') r') (hr : RD X.K r g) (hr' : RD X.K r' g') (ha : DE X c W a ta ma) (hb : DE X c W b tb mb) (hc : DE X c W cc tc mc) (hm : lastMarks [op, op'] [b, cc] = false := by rfl) :
    DE X c W (.Compare a [op, op'] [b, cc] pos) (tChain r r' ta tb tc) (mChain g g' ma mb mc) := by
  obtain ⟨pa, wa⟩ := ha
  obtain ⟨pb, wb⟩ := hb
  obtain ⟨pc, wc⟩ := hc
  exact ⟨pe_chain ho ho' pa pb pc hm, we_chain hr hr' wa wb wc⟩
theorem dt_chain {op op' : CmpOp} {r r' : R2} {g g' : D → D → (D → Prop) → Prop} {cc : Expr} {mc : ME} {tc : TE} (ho : OpR X (compareOp op) r) (ho' : OpR X (compareOp op') r') (hr : RD X.K r g) (hr' : RD X.K r' g') (ha : DE X c W a ta ma) (hb : DE X c W b tb mb) (hc : DE X c W cc tc mc) (hm : lastMarks [op, op'] [b, cc] = false := by rfl) :
    DT X c W (.Compare a [op, op'] [b, cc] pos) (tTest (tChain r r' ta tb tc)) (mB (mChain g g' ma mb mc)) := by
  obtain ⟨pa, wa⟩ := ha
  obtain ⟨pb, wb⟩ := hb
  obtain ⟨pc, wc⟩ := hc
  exact ⟨pt_chain ho ho' pa pb pc hm, wt_B (we_chain hr hr' wa wb wc)⟩

/-! ### argument lists, displays -/
def maNil : MA := fun _ F _ => F []
def maCons (ma : ME) (mr : MA) : MA := fun δ F X => ma δ (fun d => mr δ (fun ds => F (d :: ds)) X) X
theorem da_nil : DA X c W [] tNil maNil := ⟨pa_nil, fun H G σ δ F X Q cr rs h q _ => q [] [] H G cr.rfl' .nil h⟩
theorem da_cons {mr : MA} {tr : TA} (ha : DE X c W e ta ma) (hr : DA X c W es tr mr) (hs : starEach (e :: es) X.env = (false, eval e X.env) :: starEach es X.env := by rfl) : DA X c W (e :: es) (tCons ta tr) (maCons ma mr) := by
  obtain ⟨pa, wa⟩ := ha
  obtain ⟨pr, wr⟩ := hr
  refine ⟨pa_cons pa pr hs, fun H G σ δ F X Q cr rs h q x => ?_⟩
  refine wa H G σ δ _ X _ cr rs h (fun v d H1 G1 g1 r1 h1 => ?_) x
  exact wr H1 G1 σ δ _ X _ (cr.step g1) (rs.step cr g1) h1 (fun vs ds H2 G2 g2 r2 h2 => q _ _ H2 G2 (g1.trans g2) (.cons (r1.mono g2.grow) r2) h2) (x.step g1)
theorem RepL.len_le {G : Hp} {xs : List V} {ds : List D} (r : RepL K G xs ds) {n : Nat} (h : ds.length ≤ n) : xs.length ≤ n := by rw [r.length]; exact h
def mTup (m : MA) : ME := fun δ F X => m δ (fun ds => ds.length ≤ sizeLine ∧ F (.tup ds)) X
def mLst (m : MA) : ME := fun δ F X => m δ (fun ds => ds.length ≤ sizeLine ∧ F (.lst ds)) X
theorem de_tup {x1} {mr : MA} {tr : TA} (h : DA X c W es tr mr) : DE X c W (.Tuple es x1 pos) (tTup tr) (mTup mr) := by
  obtain ⟨p, w⟩ := h
  refine ⟨pe_tup p, fun H G σ δ F X Q cr rs h q x => ?_⟩
  refine w H G σ δ _ X _ cr rs h (fun vs ds H1 G1 g1 r1 h1 => ⟨r1.len_le h1.1, fun p hp => ?_⟩) x
  have g2 := Go.laid (o := .tup vs) g1.sub hp
  exact q _ _ _ _ (g1.trans (g2.lift g1.deal)) (.tup (SqT.of upd_same) (r1.mono g2.grow)) h1.2
theorem de_lst {mr : MA} {tr : TA} (h : DA X c W es tr mr) : DE X c W (.List es pos) (tLst tr) (mLst mr) := by
  obtain ⟨p, w⟩ := h
  refine ⟨pe_lst p, fun H G σ δ F X Q cr rs h q x => ?_⟩
  refine w H G σ δ _ X _ cr rs h (fun vs ds H1 G1 g1 r1 h1 => ⟨r1.len_le h1.1, fun p hp => ?_⟩) x
  have g2 := Go.laid (o := .lst vs) g1.sub hp
  exact q _ _ _ _ (g1.trans (g2.lift g1.deal)) (.lst upd_same (r1.mono g2.grow)) h1.2
end

/-! ### the operations by data -/
def gI (C : Int → Int → Prop) (g : Int → Int → D) (d e : D) (F : D → Prop) : Prop := match d, e with
  | .int i, .int j => C i j ∧ F (g i j)
  | _, _ => False
theorem rd_I {K : Fg} {C : Int → Int → Prop} {g : Int → Int → V} {g' : Int → Int → D} (hg : ∀ i j G, Rep K G (g i j) (g' i j)) : RD K (rI C g) (gI C g') := fun H G x y d e F Q s rx ry h q => by
  unfold gI at h
  split at h
  · rename_i i j
    exact ⟨i, j, rx.int_of, ry.int_of, h.1, q _ _ H G (Go.refl s fun _ _ z => nomatch z) (hg i j G) h.2⟩
  · exact h.elim
def gI0 (g : Int → Int → D) (d e : D) (F : D → Prop) : Prop := match d, e with
  | .int i, .int j => F (g i j)
  | _, _ => False
theorem rd_I0 {K : Fg} {g : Int → Int → V} {g' : Int → Int → D} (hg : ∀ i j G, Rep K G (g i j) (g' i j)) : RD K (rI0 g) (gI0 g') := fun H G x y d e F Q s rx ry h q => by
  unfold gI0 at h
  split at h
  · rename_i i j
    exact ⟨i, j, rx.int_of, ry.int_of, q _ _ H G (Go.refl s fun _ _ z => nomatch z) (hg i j G) h⟩
  · exact h.elim
def gAdd (d e : D) (F : D → Prop) : Prop := match d, e with
  | .int i, .int j => F (.int (i + j))
  | .str a, .str b => a.length + b.length ≤ sizeLine ∧ F (.str (a ++ b))
  | .lst a, .lst b => a.length + b.length ≤ sizeLine ∧ F (.lst (a ++ b))
  | .tup a, .tup b => a ≠ [] ∧ b ≠ [] ∧ a.length + b.length ≤ sizeLine ∧ F (.tup (a ++ b))
  | _, _ => False
theorem DlOk.no {H G : Hp} : DlOk none H G := fun _ _ h => nomatch h
def rAddA (K : Fg) : R2 := fun x y H Q => (rI0 fun i j => .int (i + j)) x y H Q ∨ (∃ i j, x = .str i ∧ y = .str j ∧ i.length + j.length ≤ sizeLine ∧ Q (.str (i ++ j)) H) ∨ rCat x y H Q ∨ rCatT K x y H Q
theorem op_addA {X : Cx} : OpR X (binaryOp .Add) (rAddA X.K) := op_add.or (op_add_str.or (op_cat.or op_catT))
theorem RepL.ne_nil {K : Fg} {G : Hp} {xs : List V} {ds : List D} (r : RepL K G xs ds) (h : ds ≠ []) : xs ≠ [] := by
  cases r with
  | nil => exact absurd rfl h
  | cons _ _ => exact fun z => nomatch z
theorem rd_add {K : Fg} : RD K (rAddA K) gAdd := fun H G x y d e F Q s rx ry h q => by
  unfold gAdd at h
  split at h
  · rename_i i j
    exact .inl ⟨i, j, rx.int_of, ry.int_of, q _ _ H G (Go.refl s .no) (.int _) h⟩
  · rename_i a b
    exact .inr (.inl ⟨a, b, rx.str_of, ry.str_of, h.1, q _ _ H G (Go.refl s .no) (.str _) h.2⟩)
  · obtain ⟨p, xs, e1, h1, r1⟩ := rx.lst_of
    obtain ⟨p', ys, e2, h2, r2⟩ := ry.lst_of
    refine .inr (.inr (.inl ⟨p, p', xs, ys, e1, e2, s _ _ h1, s _ _ h2, by rw [r1.length, r2.length]; exact h.1, fun l hl => ?_⟩))
    have g2 := Go.laid (o := .lst (xs ++ ys)) s hl
    exact q _ _ _ _ g2 (.lst upd_same ((r1.append r2).mono g2.grow)) h.2
  · obtain ⟨p, xs, e1, h1, r1⟩ := rx.tup_of
    obtain ⟨p', ys, e2, h2, r2⟩ := ry.tup_of
    refine .inr (.inr (.inr ⟨p, p', xs, ys, e1, e2, same_t s h1, same_t s h2, r1.ne_nil h.1, by rw [r1.length, r2.length]; exact h.2.2.1, fun z => absurd z (r2.ne_nil h.2.1), fun z l hl => ?_⟩))
    have g2 := Go.laid (o := .tup (xs ++ ys)) s hl
    exact q _ _ _ _ g2 (.tup (SqT.of upd_same) ((r1.append r2).mono g2.grow)) h.2.2.2
  · exact h.elim
end DL

set_option Elab.async false
set_option linter.all false
set_option maxRecDepth 100000
set_option maxHeartbeats 4000000
namespace DL
open PySem L2

/-! ### statements -/
structure MK where
  nx : List Sl → Prop
  rt : D → Prop
  bk : List Sl → Prop := fun _ => False
  ct : List Sl → Prop := fun _ => False
  rs : XD → List Sl → Prop := fun _ _ => False
abbrev MS := List Sl → MK → Prop
structure EndsOk (K : Fg) (c : Ct) (G : Hp) (k : MK) (W : WX) (Y : Ends) : Prop where
  nx : ∀ σ δ H' G', Cr c H' G' → RS K c H' G' σ δ → Same G G' → k.nx δ → Y.nx σ H'
  rt : ∀ v d H' G', Cr c H' G' → Rep K G' v d → Same G G' → k.rt d → Y.rt v H'
  bk : ∀ σ δ H' G', Cr c H' G' → RS K c H' G' σ δ → Same G G' → k.bk δ → Y.bk σ H'
  ct : ∀ σ δ H' G', Cr c H' G' → RS K c H' G' σ δ → Same G G' → k.ct δ → Y.ct σ H'
  rs : ∀ C fs d σ δ H' G', Cr c H' G' → RS K c H' G' σ δ → Same G G' → ExcIs K G' d fs → k.rs (C, fs) δ → W (.ref C) d σ H'
theorem EndsOk.mono {K : Fg} {c : Ct} {G G1 : Hp} {k : MK} {W : WX} {Y : Ends} (e : EndsOk K c G k W Y) (s : Same G G1) : EndsOk K c G1 k W Y :=
  ⟨fun σ δ H' G' a b z => e.nx σ δ H' G' a b (s.trans z), fun v d H' G' a b z => e.rt v d H' G' a b (s.trans z), fun σ δ H' G' a b z => e.bk σ δ H' G' a b (s.trans z), fun σ δ H' G' a b z => e.ct σ δ H' G' a b (s.trans z),
    fun C fs d σ δ H' G' a b z => e.rs C fs d σ δ H' G' a b (s.trans z)⟩
theorem EndsOk.xw {K : Fg} {c : Ct} {G H : Hp} {k : MK} {W : WX} {Y : Ends} {σ : St} {δ : List Sl} (e : EndsOk K c G k W Y) (cr : Cr c H G) (rs : RS K c H G σ δ) : XW K c H G σ (fun x => k.rs x δ) W :=
  fun C fs d H' G' g ex q => e.rs C fs d σ δ H' G' (cr.step g) (rs.step cr g) g.grow ex q
def WS (K : Fg) (c : Ct) (W : WX) (t : TS) (m : MS) : Prop := ∀ H G σ δ (k : MK) (Y : Ends), Cr c H G → RS K c H G σ δ → m δ k → EndsOk K c G k W Y → t Y σ H
structure DS (X : Cx) (c : Ct) (W : WX) (s : Stmt) (t : TS) (m : MS) : Prop where
  p : PS X s t
  w : WS X.K c W t m
structure DSs (X : Cx) (c : Ct) (W : WX) (s : List Stmt) (t : TS) (m : MS) : Prop where
  p : PSs X s t
  w : WS X.K c W t m
section
variable {X : Cx} {c : Ct} {W : WX} {e a b : Expr} {es : List Expr} {st : Stmt} {rest : List Stmt} {pos : Pos} {me ma mb : ME} {m m1 m2 : MS} {K : Fg} {te ta tb : TE} {ts t1 t2 : TS} {tp : TT} {tr : TA}
def msNext : MS := fun δ k => k.nx δ
def msSeq (m1 m2 : MS) : MS := fun δ k => m1 δ { k with nx := fun δ' => m2 δ' k }
theorem dss_nil : DSs X c W [] tNext msNext := ⟨pss_nil, fun H G σ δ k Y cr rs h e => e.nx σ δ H G cr rs (Same.refl _) h⟩
theorem dss_cons (h1 : DS X c W st t1 m1) (h2 : DSs X c W rest t2 m2) : DSs X c W (st :: rest) (tSeq t1 t2) (msSeq m1 m2) := by
  obtain ⟨p1, w1⟩ := h1
  obtain ⟨p2, w2⟩ := h2
  refine ⟨pss_cons p1 p2, fun H G σ δ k Y cr rs h e => ?_⟩
  refine w1 H G σ δ _ _ cr rs h ⟨fun σ' δ' H' G' a b z n => ?_, e.rt, e.bk, e.ct, e.rs⟩
  exact w2 H' G' σ' δ' k Y a b n (e.mono z)
theorem dss_one (h1 : DS X c W st ts m) : DSs X c W [st] ts m := ⟨pss_one h1.p, h1.w⟩
def msRet (me : ME) : MS := fun δ k => me δ k.rt (fun x => k.rs x δ)
theorem ds_ret (he : DE X c W e te me) : DS X c W (.Return (some e) pos) (tRet te) (msRet me) := by
  obtain ⟨p, w⟩ := he
  exact ⟨ps_ret p, fun H G σ δ k Y cr rs h e => w H G σ δ _ _ _ cr rs h (fun v d H' G' g r f => e.rt v d H' G' (cr.step g) r g.grow f) (e.xw cr rs)⟩
def msRetN : MS := fun δ k => k.rt .non
theorem ds_retN : DS X c W (.Return none pos) tRetN msRetN := ⟨ps_retN, fun H G σ δ k Y cr rs h e => e.rt .non .non H G cr .non (Same.refl _) h⟩
def msExpr (me : ME) : MS := fun δ k => me δ (fun _ => k.nx δ) (fun x => k.rs x δ)
theorem ds_expr (he : DE X c W e te me) (hs : swapsWith e none pos.line X.env = pure false := by rfl) : DS X c W (.Expr e pos) (tDrop te) (msExpr me) := by
  obtain ⟨p, w⟩ := he
  exact ⟨ps_expr p hs, fun H G σ δ k Y cr rs h e => w H G σ δ _ _ _ cr rs h (fun v d H' G' g r f => e.nx σ δ H' G' (cr.step g) (rs.step cr g) g.grow f) (e.xw cr rs)⟩
def msIf (p : MT) (m1 m2 : MS) : MS := fun δ k => p δ (fun z => if z = true then m1 δ k else m2 δ k) (fun x => k.rs x δ)
theorem ds_if {t : Expr} {p : MT} {s1 s2 : List Stmt} (ht : DT X c W t tp p) (h1 : DSs X c W s1 t1 m1) (h2 : DSs X c W s2 t2 m2) : DS X c W (.If t s1 s2 pos) (tIfS tp t1 t2) (msIf p m1 m2) := by
  obtain ⟨pt, wt⟩ := ht
  obtain ⟨p1, w1⟩ := h1
  obtain ⟨p2, w2⟩ := h2
  refine ⟨ps_if pt p1 p2, fun H G σ δ k Y cr rs h e => ?_⟩
  refine wt H G σ δ _ _ _ cr rs h (fun z H' G' g f => ?_) (e.xw cr rs)
  cases z with
  | true => exact w1 H' G' σ δ k Y (cr.step g) (rs.step cr g) f (e.mono g.grow)
  | false => exact w2 H' G' σ δ k Y (cr.step g) (rs.step cr g) f (e.mono g.grow)
def msSet (i : Nat) (me : ME) : MS := fun δ k => me δ (fun d => k.nx (δ.set i (.dat d))) (fun x => k.rs x δ)
theorem ws_set {i : Nat} {t : TE} (w : WE K c W t me) : WS K c W (tAsg t (gName i)) (msSet i me) := fun H G σ δ k Y cr rs h e =>
  w H G σ δ _ _ _ cr rs h (fun v d H' G' g r f => e.nx _ _ H' G' (cr.step g) ((rs.step cr g).set i r) g.grow f) (e.xw cr rs)
theorem ds_set (i : Nat) {x : Str} {pos' : Pos} (hN : X.N.Nodup) (hi : X.N[i]? = some x) (hx : Loc X.env.scope x) (he : DE X c W e te me) (hs : swapsWith e (some (.Name x pos')) pos.line X.env = pure false := by rfl) (hf : X.fn x = true ∨ X.env.scope.names.lookup x = some .local := by first | exact .inl rfl | exact .inr rfl | assumption) :
    DS X c W (.Assign [.Name x pos'] e pos) (tAsg te (gName i)) (msSet i me) := by
  obtain ⟨p, w⟩ := he
  exact ⟨ps_set hN hi hx p hs hf, ws_set w⟩
theorem ds_pass : DS X c W (.Pass pos) tNext msNext := ⟨ps_pass, fun H G σ δ k Y cr rs h e => e.nx σ δ H G cr rs (Same.refl _) h⟩
def msBrk : MS := fun δ k => k.bk δ
def msCont : MS := fun δ k => k.ct δ
theorem ds_break : DS X c W (.Break pos) tBreak msBrk := ⟨ps_break, fun H G σ δ k Y cr rs h e => e.bk σ δ H G cr rs (Same.refl _) h⟩
theorem ds_continue : DS X c W (.Continue pos) tCont msCont := ⟨ps_continue, fun H G σ δ k Y cr rs h e => e.ct σ δ H G cr rs (Same.refl _) h⟩
end

/-! ### targets -/
abbrev MG := D → List Sl → (List Sl → Prop) → Prop
def WG (K : Fg) (t : TG) (is : List Nat) (m : MG) : Prop := ∀ (c : Ct) H G σ δ v d (F : List Sl → Prop) (Q : St → Hp → Prop), Same G H → RS K c H G σ δ → Rep K G v d → m d δ F →
  (∀ σ' δ', RS K c H G σ' δ' → (∀ vs, (∀ i ∈ is, i ∈ vs) → wipe σ' vs = wipe σ vs) → F δ' → Q σ' H) → t v σ H Q
def WGs (K : Fg) (t : TGs) (is : List Nat) (m : List D → List Sl → (List Sl → Prop) → Prop) : Prop := ∀ (c : Ct) H G σ δ vs ds (F : List Sl → Prop) (Q : St → Hp → Prop), Same G H → RS K c H G σ δ → RepL K G vs ds → m ds δ F →
  (∀ σ' δ', RS K c H G σ' δ' → (∀ vs, (∀ i ∈ is, i ∈ vs) → wipe σ' vs = wipe σ vs) → F δ' → Q σ' H) → t vs σ H Q
structure DG (X : Cx) (e : Expr) (t : TG) (is : List Nat) (m : MG) : Prop where
  p : PG X e t
  w : WG X.K t is m
structure DGs (X : Cx) (es : List Expr) (t : TGs) (is : List Nat) (m : List D → List Sl → (List Sl → Prop) → Prop) : Prop where
  p : PGs X es t
  w : WGs X.K t is m
theorem wipe_set (σ : St) (i : Nat) (x : Option V) : ∀ vs : List Nat, i ∈ vs → wipe (σ.set i x) vs = wipe σ vs
  | [], h => by cases h
  | v :: vs, h => by
    unfold wipe
    by_cases hi : i ∈ vs
    · rw [wipe_set σ i x vs hi]
    · have e : i = v := by
        rcases List.mem_cons.mp h with h | h
        · exact h
        · exact absurd h hi
      subst e
      have key : ∀ ws : List Nat, i ∉ ws → wipe (σ.set i x) ws = (wipe σ ws).set i x := by
        intro ws
        induction ws with
        | nil => intro _; rfl
        | cons w ws ih =>
          intro hn
          have n1 : i ≠ w := fun z => hn (by simp [z])
          have n2 : i ∉ ws := fun z => hn (by simp [z])
          unfold wipe
          rw [ih n2, List.set_comm _ _ n1]
      rw [key vs hi, List.set_set]
section
variable {X : Cx} {c : Ct} {W : WX} {e a b : Expr} {es : List Expr} {pos : Pos} {K : Fg} {te ta tb : TE} {tg1 : TG} {tgs : TGs} {tr : TA}
def mgName (i : Nat) : MG := fun d δ F => F (δ.set i (.dat d))
theorem dg_name (i : Nat) {x : Str} (hN : X.N.Nodup) (hi : X.N[i]? = some x) (hx : Loc X.env.scope x) (hf : X.fn x = true ∨ X.env.scope.names.lookup x = some .local := by first | exact .inl rfl | exact .inr rfl | assumption) : DG X (.Name x pos) (gName i) [i] (mgName i) :=
  ⟨pg_name hN hi hx hf, fun c H G σ δ v d F Q s rs r h q => q _ _ (rs.set i r) (fun vs hv => wipe_set σ i _ vs (hv i (by simp))) h⟩
def mgNil : List D → List Sl → (List Sl → Prop) → Prop := fun ds δ F => match ds with
  | [] => F δ
  | _ => False
def mgCons (m : MG) (ms : List D → List Sl → (List Sl → Prop) → Prop) : List D → List Sl → (List Sl → Prop) → Prop := fun ds δ F => match ds with
  | d :: ds => m d δ fun δ' => ms ds δ' F
  | [] => False
theorem dgs_nil : DGs X [] gNil [] mgNil := ⟨pgs_nil, fun c H G σ δ vs ds F Q s rs r h q => by
  cases r with
  | nil => exact ⟨rfl, q σ δ rs (fun _ _ => rfl) h⟩
  | cons _ _ => exact h.elim⟩
theorem dgs_cons {i j : List Nat} {m : MG} {ms : List D → List Sl → (List Sl → Prop) → Prop} (h1 : DG X e tg1 i m) (h2 : DGs X es tgs j ms) (hs : (assignEach (e :: es) X.env).map (·.2) = assign e X.env :: (assignEach es X.env).map (·.2) := by rfl) : DGs X (e :: es) (gCons tg1 tgs) (i ++ j) (mgCons m ms) := by
  obtain ⟨p1, w1⟩ := h1
  obtain ⟨p2, w2⟩ := h2
  refine ⟨pgs_cons p1 p2 hs, fun c H G σ δ vs ds F Q s rs r h q => ?_⟩
  cases r with
  | nil => exact h.elim
  | cons ra rr =>
    refine ⟨_, _, rfl, ?_⟩
    refine w1 c H G σ δ _ _ _ _ s rs ra h fun σ1 δ1 rs1 z1 h1 => ?_
    refine w2 c H G σ1 δ1 _ _ _ _ s rs1 rr h1 fun σ2 δ2 rs2 z2 h2 => q σ2 δ2 rs2 (fun vs hv => ?_) h2
    rw [z2 vs fun k hk => hv k (List.mem_append_right _ hk), z1 vs fun k hk => hv k (List.mem_append_left _ hk)]
def mgTup (n : Nat) (ms : List D → List Sl → (List Sl → Prop) → Prop) : MG := fun d δ F => match d with
  | .tup ds => ds.length = n ∧ ms ds δ F
  | _ => False
theorem dg_tup {k n : Nat} {is : List Nat} {ms : List D → List Sl → (List Sl → Prop) → Prop} (hc : X.calm = true) (h : DGs X es tgs is ms) (hn : (assignEach es X.env).length = n := by rfl) (hst : (assignEach es X.env).findIdx? (·.1) = none := by rfl) :
    DG X (.Tuple es k pos) (gTup X.K n tgs) is (mgTup n ms) := by
  obtain ⟨p, w⟩ := h
  refine ⟨pg_tup hc p hn hst, fun c H G σ δ v d F Q s rs r h q => ?_⟩
  unfold mgTup at h
  split at h
  · obtain ⟨a, xs, e1, h1, r1⟩ := r.tup_of
    exact ⟨a, xs, e1, same_t s h1, by rw [r1.length]; exact h.1, w c H G σ δ xs _ F Q s rs r1 h.2 q⟩
  · exact h.elim
/-- target = value, the target a tuple or a name -/
def msAsg (me : ME) (mg : MG) : MS := fun δ k => me δ (fun d => mg d δ k.nx) (fun x => k.rs x δ)
theorem ds_asg {tg : Expr} {is : List Nat} {me : ME} {mg : MG} (he : DE X c W e te me) (hg : DG X tg tg1 is mg) (hs : swapsWithSole [tg] e pos.line X.env = pure false := by rfl) (hw : swappedStores [tg] e X.env = pure none := by rfl)
    (h1 : (assignEach [tg] X.env).map (·.2) = [assign tg X.env] := by rfl) : DS X c W (.Assign [tg] e pos) (tAsg te tg1) (msAsg me mg) := by
  obtain ⟨p, w⟩ := he
  obtain ⟨pg, wg⟩ := hg
  refine ⟨ps_asg p pg hs hw h1, fun H G σ δ k Y cr rs h e => ?_⟩
  refine w H G σ δ _ _ _ cr rs h (fun v d H' G' g r f => ?_) (e.xw cr rs)
  exact wg c H' G' σ δ v d _ _ g.sub (rs.step cr g) r f fun σ' δ' rs' _ n => e.nx σ' δ' H' G' (cr.step g) rs' g.grow n
/-- a, b = x, y -/
def msPar (i j : Nat) (ma : MA) : MS := fun δ k => ma δ (fun ds => match ds with
  | [d, e] => k.nx ((δ.set i (.dat d)).set j (.dat e))
  | _ => False) (fun x => k.rs x δ)
theorem ds_par (i j : Nat) {x y : Str} {ma : MA} {px py pt : Pos} {kt k2 pt2} (hc : X.calm = true) (hN : X.N.Nodup) (hi : X.N[i]? = some x) (hj : X.N[j]? = some y) (hij : i ≠ j)
    (hx : X.env.scope.names.lookup x = some .local) (hy : X.env.scope.names.lookup y = some .local) (ha : DA X c W [a, b] tr ma)
    (hw : swappedStores [.Tuple [.Name x px, .Name y py] kt pt] (.Tuple [a, b] k2 pt2) X.env = pure (some [x, y]) := by rfl)
    (hs : swapsWithSole [.Tuple [.Name x px, .Name y py] kt pt] (.Tuple [a, b] k2 pt2) pos.line X.env = pure false := by rfl) :
    DS X c W (.Assign [.Tuple [.Name x px, .Name y py] kt pt] (.Tuple [a, b] k2 pt2) pos) (tPar i j tr) (msPar i j ma) := by
  obtain ⟨p, w⟩ := ha
  refine ⟨ps_par hc hN hi hj hij hx hy p hw hs, fun H G σ δ k Y cr rs h e => ?_⟩
  refine w H G σ δ _ _ _ cr rs h (fun vs ds H' G' g r f => ?_) (e.xw cr rs)
  split at f
  · cases r with
    | cons r1 rr =>
      cases rr with
      | cons r2 rr =>
        cases rr
        exact ⟨_, _, rfl, e.nx _ _ H' G' (cr.step g) (((rs.step cr g).set i r1).set j r2) g.grow f⟩
  · exact f.elim
end

/-! ### walks -/
def IsWalk (K : Fg) (G0 : Hp) (J : It) (ds : List D) : Prop := ∀ i H G, Same G0 G → Same G H → (∀ d, ds[i]? = some d → J.go i H ∧ ∀ x H', J.yld i H x H' → ∃ G', Go none H G H' G' ∧ Rep K G' x d) ∧ (i = ds.length → J.stop i H)
def WI (K : Fg) (c : Ct) (W : WX) (t : TI) (m : MA) : Prop := ∀ H G σ δ (F : List D → Prop) (X : XC) (R : It → Hp → Prop), Cr c H G → RS K c H G σ δ → m δ F X →
  (∀ J ds H' G', Go c.dl H G H' G' → IsWalk K G' J ds → F ds → R J H') → XW K c H G σ X W → t σ H R
structure DI (X : Cx) (c : Ct) (W : WX) (tg e : Expr) (t : TI) (m : MA) : Prop where
  p : PI X tg e t
  w : WI X.K c W t m
theorem walk_l {K : Fg} {G : Hp} {a : Addr} {xs : List V} {ds : List D} (h : G a = some (.lst xs)) (r : RepL K G xs ds) : IsWalk K G (Itl K a) ds := fun i H G' s s' => by
  have hH : H a = some (.lst xs) := s' _ _ (s _ _ h)
  refine ⟨fun d e => ?_, fun e => ⟨xs, SqL.of hH, by rw [r.length]; omega⟩⟩
  obtain ⟨x, h1, h2⟩ := r.get e
  refine ⟨⟨xs, x, SqL.of hH, h1⟩, fun y H' ⟨e1, e2⟩ => ?_⟩
  subst e1
  have := e2 xs (SqL.of hH)
  rw [h1] at this
  cases this
  exact ⟨G', Go.refl s' .no, h2.mono s⟩
theorem walk_t {K : Fg} {G : Hp} {a : Addr} {xs : List V} {ds : List D} (h : SqT K G a xs) (r : RepL K G xs ds) : IsWalk K G (Itt K a) ds := fun i H G' s s' => by
  have hH : SqT K H a xs := same_t s' (same_t s h)
  refine ⟨fun d e => ?_, fun e => ⟨xs, hH, by rw [r.length]; omega⟩⟩
  obtain ⟨x, h1, h2⟩ := r.get e
  refine ⟨⟨xs, x, hH, h1⟩, fun y H' ⟨e1, e2⟩ => ?_⟩
  subst e1
  have := e2 xs hH
  rw [h1] at this
  cases this
  exact ⟨G', Go.refl s' .no, h2.mono s⟩
def rngD (lo : Int) (n : Nat) : List D := (List.range n).map fun (i : Nat) => D.int (lo + (i : Int))
theorem walk_r {K : Fg} {G : Hp} {lo : Int} {n : Nat} : IsWalk K G (Itr lo n) (rngD lo n) := fun i H G' s s' => by
  refine ⟨fun d e => ?_, fun e => ?_⟩
  · unfold rngD at e
    rw [List.getElem?_map] at e
    by_cases hi : i < n
    · rw [List.getElem?_range hi] at e
      cases e
      refine ⟨hi, fun x H' ⟨e1, e2⟩ => ?_⟩
      subst e1 e2
      exact ⟨G', Go.refl s' .no, .int _⟩
    · rw [List.getElem?_eq_none (by simpa using hi)] at e
      cases e
  · unfold rngD at e
    rw [List.length_map, List.length_range] at e
    exact Nat.le_of_eq e.symm
section
variable {X : Cx} {c : Ct} {W : WX} {e a b tg : Expr} {es : List Expr} {pos p : Pos} {K : Fg} {ma mb me : ME} {mr : MA} {te ta tb : TE} {tr : TA} {ti : TI} {tg1 : TG} {ts : TS}
/-- a list | a tuple walked -/
def miL (ma : ME) : MA := fun δ F X => ma δ (fun d => match d with
  | .lst ds => F ds
  | _ => False) X
def miT (ma : ME) : MA := fun δ F X => ma δ (fun d => match d with
  | .tup ds => F ds
  | _ => False) X
theorem di_list (h : DE X c W e ta ma) : DI X c W tg e (iList X.K ta) (miL ma) := by
  obtain ⟨p, w⟩ := h
  refine ⟨pi_list p, fun H G σ δ F X R cr rs h q x => ?_⟩
  refine w H G σ δ _ _ _ cr rs h (fun v d H' G' g r f => ?_) x
  split at f
  · obtain ⟨a, xs, e1, h1, r1⟩ := r.lst_of
    exact ⟨a, e1, ⟨xs, SqL.of (g.sub _ _ h1)⟩, q _ _ H' G' g (walk_l h1 r1) f⟩
  · exact f.elim
theorem di_tup (h : DE X c W e ta ma) : DI X c W tg e (iTup X.K ta) (miT ma) := by
  obtain ⟨p, w⟩ := h
  refine ⟨pi_tup p, fun H G σ δ F X R cr rs h q x => ?_⟩
  refine w H G σ δ _ _ _ cr rs h (fun v d H' G' g r f => ?_) x
  split at f
  · obtain ⟨a, xs, e1, h1, r1⟩ := r.tup_of
    exact ⟨a, e1, ⟨xs, same_t g.sub h1⟩, q _ _ H' G' g (walk_t h1 r1) f⟩
  · exact f.elim
def miR1 (mr : MA) : MA := fun δ F X => mr δ (fun ds => match ds with
  | [.int j] => -(2 ^ 62) ≤ j ∧ j < 2 ^ 62 ∧ F (rngD 0 j.toNat)
  | _ => False) X
def miR2 (mr : MA) : MA := fun δ F X => mr δ (fun ds => match ds with
  | [.int i, .int j] => (-(2 ^ 62) ≤ i ∧ i < 2 ^ 62 ∧ -(2 ^ 62) ≤ j ∧ j < 2 ^ 62) ∧ F (rngD i (j - i).toNat)
  | _ => False) X
theorem RepL.one {G : Hp} {vs : List V} {d : D} (r : RepL K G vs [d]) : ∃ v, vs = [v] ∧ Rep K G v d := by
  cases r with
  | cons a r => cases r; exact ⟨_, rfl, a⟩
theorem RepL.two {G : Hp} {vs : List V} {d e : D} (r : RepL K G vs [d, e]) : ∃ v u, vs = [v, u] ∧ Rep K G v d ∧ Rep K G u e := by
  cases r with
  | cons a r =>
    cases r with
    | cons b r => cases r; exact ⟨_, _, rfl, a, b⟩
theorem di_range1 (hg : Gl X "range") (hm : X.mg "range" = none) (h : DA X c W [a] tr mr) (hs : starEach [a] X.env = [(false, eval a X.env)] := by rfl) : DI X c W tg (.Call (.Name "range" p) [a] [] pos) (iRng1 tr) (miR1 mr) := by
  obtain ⟨p, w⟩ := h
  refine ⟨pi_range1 hg hm p hs, fun H G σ δ F X R cr rs h q x => ?_⟩
  refine w H G σ δ _ _ _ cr rs h (fun vs ds H' G' g r f => ?_) x
  split at f
  · obtain ⟨v, e1, r1⟩ := r.one
    rw [e1, r1.int_of]
    exact ⟨_, rfl, f.1, f.2.1, q _ _ H' G' g walk_r f.2.2⟩
  · exact f.elim
theorem di_range2 (hg : Gl X "range") (hm : X.mg "range" = none) (h : DA X c W [a, b] tr mr) (hs : starEach [a, b] X.env = [(false, eval a X.env), (false, eval b X.env)] := by rfl) (hs2 : starEach [b] X.env = [(false, eval b X.env)] := by rfl) :
    DI X c W tg (.Call (.Name "range" p) [a, b] [] pos) (iRng2 tr) (miR2 mr) := by
  obtain ⟨p, w⟩ := h
  refine ⟨pi_range2 hg hm p hs hs2, fun H G σ δ F X R cr rs h q x => ?_⟩
  refine w H G σ δ _ _ _ cr rs h (fun vs ds H' G' g r f => ?_) x
  split at f
  · obtain ⟨v, u, e1, r1, r2⟩ := r.two
    rw [e1, r1.int_of, r2.int_of]
    exact ⟨_, _, rfl, f.1, q _ _ H' G' g walk_r f.2⟩
  · exact f.elim

/-! ### for -/
def forD (mg : MG) (mb : MS) : List D → List Sl → MK → Prop
  | [], δ, k => k.nx δ
  | d :: ds, δ, k => mg d δ fun δ' => mb δ' { k with nx := fun δ2 => forD mg mb ds δ2 k, ct := fun δ2 => forD mg mb ds δ2 k, bk := k.nx }
def msFor (mi : MA) (mg : MG) (mb : MS) : MS := fun δ k => mi δ (fun ds => forD mg mb ds δ k) (fun x => k.rs x δ)
theorem ds_for {is : List Nat} {mi : MA} {mg : MG} {mb : MS} {body : List Stmt} (hp : PassesOwn (model X.prog X.w) X.A X.env X.xe) (hc : X.calm = true) (hi : DI X c W tg e ti mi) (hg : DG X tg tg1 is mg) (hb : DSs X c W body ts mb) (hs : ∀ x, foldedSetIterable e X.env x = pure x := by intro _; rfl) :
    DS X c W (.For tg e body [] pos) (tFor ti tg1 ts) (msFor mi mg mb) := by
  obtain ⟨pi, ww⟩ := hi
  obtain ⟨pg, wg⟩ := hg
  obtain ⟨pb, wb⟩ := hb
  refine ⟨ps_for hp hc pi pg pb hs, fun H G σ δ k Y cr rs h e => ?_⟩
  refine ww H G σ δ _ _ _ cr rs h (fun J ds H1 G1 g1 wk f => ?_) (e.xw cr rs)
  have cr1 := cr.step g1
  have e1 := e.mono g1.grow
  refine ⟨fun i n σ H => n = ds.length - i ∧ i ≤ ds.length ∧ ∃ G δ, Cr c H G ∧ RS X.K c H G σ δ ∧ Same G1 G ∧ forD mg mb (ds.drop i) δ k, ⟨ds.length, by simp, Nat.zero_le _, G1, δ, cr1, rs.step cr g1, Same.refl _, f⟩, ?_⟩
  rintro i n σ2 H2 ⟨rfl, hi, G2, δ2, cr2, rs2, s2, f2⟩
  obtain ⟨w1, w2⟩ := wk i H2 G2 s2 cr2.sub
  by_cases hlt : i < ds.length
  · right
    have hd : ds[i]? = some ds[i] := List.getElem?_eq_getElem hlt
    obtain ⟨go, y⟩ := w1 _ hd
    refine ⟨go, ?_⟩
    rw [List.drop_eq_getElem_cons hlt] at f2
    refine ⟨fun σ H => ∃ G δ, Cr c H G ∧ RS X.K c H G σ δ ∧ Same G1 G ∧ forD mg mb (ds.drop (i + 1)) δ k, fun σ' H' z => ⟨ds.length - (i + 1), by omega, rfl, hlt, z⟩, fun x H3 hy => ?_⟩
    obtain ⟨G3, g3, r3⟩ := y x H3 hy
    have g3' := g3.lift cr2.dlok
    refine wg c H3 G3 σ2 δ2 x _ _ _ g3.sub (rs2.step cr2 g3') r3 f2 fun σ4 δ4 rs4 _ f4 => ?_
    have s13 := s2.trans g3.grow
    refine wb H3 G3 σ4 δ4 _ _ (cr2.step g3') rs4 f4 ⟨fun σ' δ' H' G' a b z q => ⟨G', δ', a, b, s13.trans z, q⟩, fun v d H' G' a b z q => e1.rt v d H' G' a b (s13.trans z) q, fun σ' δ' H' G' a b z q => e1.nx σ' δ' H' G' a b (s13.trans z) q,
      fun σ' δ' H' G' a b z q => ⟨G', δ', a, b, s13.trans z, q⟩, fun C fs d σ' δ' H' G' a b z x q => e1.rs C fs d σ' δ' H' G' a b (s13.trans z) x q⟩
  · left
    have he : i = ds.length := by omega
    refine ⟨w2 he, ?_⟩
    rw [he, List.drop_length] at f2
    exact e1.nx σ2 δ2 H2 G2 cr2 rs2 s2 f2
end
end DL

set_option Elab.async false
set_option linter.all false
set_option maxRecDepth 100000
set_option maxHeartbeats 4000000
namespace DL
open PySem L2

theorem Go.mut {dl : Dl} {H G H' G' : Hp} {p : Addr} {o : HO} (g : Go dl H G H' G') (d : DlOk dl H G) (n : H p = none) (n' : G' p = none) : Go dl H G (upd H' p o) G' where
  keep := fun a u h nd => by rw [upd_ne (ne_of_none h n)]; exact g.keep a u h nd
  grow := g.grow
  sub := fun a u h => by rw [upd_ne (ne_of_none h n')]; exact g.sub a u h
  new := g.new
  deal := fun p' l e => by
    obtain ⟨⟨ns, m, h1, h2, h3⟩, g1, g2⟩ := g.deal p' l e
    obtain ⟨⟨_, _, q1, q2, _⟩, _⟩ := d p' l e
    exact ⟨⟨ns, m, by rw [upd_ne (ne_of_none q1 n)]; exact h1, by rw [upd_ne (ne_of_none q2 n)]; exact h2, h3⟩, g1, g2⟩
theorem Go.pub {dl : Dl} {H G H' G' : Hp} {p : Addr} {o : HO} (g : Go dl H G H' G') (d : DlOk dl H G) (n : H p = none) (h : H' p = some o) (n' : G' p = none) : Go dl H G H' (upd G' p o) where
  keep := g.keep
  grow := fun a u q => by rw [upd_ne (ne_of_none (g.grow _ _ q) n')]; exact g.grow _ _ q
  sub := fun a u q => by
    by_cases e : a = p
    · subst e
      rw [upd_same] at q
      cases q
      exact h
    · rw [upd_ne e] at q
      exact g.sub _ _ q
  new := fun a u q => by
    by_cases e : a = p
    · subst e
      exact .inr n
    · rw [upd_ne e] at q
      exact g.new _ _ q
  deal := fun p' l e => by
    obtain ⟨a, g1, g2⟩ := g.deal p' l e
    obtain ⟨⟨_, _, q1, q2, _⟩, _⟩ := d p' l e
    exact ⟨a, by rw [upd_ne (ne_of_none q1 n)]; exact g1, by rw [upd_ne (ne_of_none q2 n)]; exact g2⟩
def wipeD (δ : List Sl) : List Nat → List Sl
  | [] => δ
  | v :: vs => (wipeD δ vs).set v .un
theorem RS.wipe {K : Fg} {c : Ct} {H G : Hp} {σ : St} {δ : List Sl} (r : RS K c H G σ δ) : ∀ vs : List Nat, RS K c H G (wipe σ vs) (wipeD δ vs)
  | [] => r
  | v :: vs => (RS.wipe r vs).forget v none
theorem wipe_wipe (σ : St) : ∀ vs ws : List Nat, (∀ i ∈ ws, i ∈ vs) → L2.wipe (L2.wipe σ ws) vs = L2.wipe σ vs
  | vs, [], _ => rfl
  | vs, w :: ws, h => by
    show L2.wipe ((L2.wipe σ ws).set w none) vs = _
    rw [wipe_set _ _ _ vs (h w (by simp)), wipe_wipe σ vs ws fun i hi => h i (by simp [hi])]

def IsWalkC (K : Fg) (dl : Dl) (H0 G0 : Hp) (J : It) (ds : List D) : Prop := ∀ i H G, Go dl H0 G0 H G → (∀ d, ds[i]? = some d → J.go i H ∧ ∀ x H', J.yld i H x H' → ∃ G', Go none H G H' G' ∧ Rep K G' x d) ∧ (i = ds.length → J.stop i H)
theorem IsWalk.c {K : Fg} {dl : Dl} {H0 G0 : Hp} {J : It} {ds : List D} (w : IsWalk K G0 J ds) : IsWalkC K dl H0 G0 J ds := fun i H G g => w i H G g.grow g.sub
def WIC (K : Fg) (c : Ct) (W : WX) (t : TI) (m : MA) : Prop := ∀ H G σ δ (F : List D → Prop) (X : XC) (R : It → Hp → Prop), Cr c H G → RS K c H G σ δ → m δ F X →
  (∀ J ds H' G', Go c.dl H G H' G' → IsWalkC K c.dl H' G' J ds → F ds → R J H') → XW K c H G σ X W → t σ H R
structure DIC (X : Cx) (c : Ct) (W : WX) (tg e : Expr) (t : TI) (m : MA) : Prop where
  p : PI X tg e t
  w : WIC X.K c W t m
theorem dic_of {X : Cx} {c : Ct} {W : WX} {tg e : Expr} {t : TI} {m : MA} (h : DI X c W tg e t m) : DIC X c W tg e t m :=
  ⟨h.p, fun H G σ δ F Y R cr rs hm q x => h.w H G σ δ F Y R cr rs hm (fun J ds H' G' g wk f => q J ds H' G' g wk.c f) x⟩
/-! ### list comprehensions -/
abbrev W0 : WX := fun _ _ _ _ => False
structure DTs (X : Cx) (c : Ct) (W : WX) (es : List Expr) (t : TT) (m : MT) : Prop where
  p : PTs X es t
  w : WT X.K c W t m
def mYes : MT := fun _ F _ => F true
theorem dts_nil {X : Cx} {c : Ct} {W : WX} : DTs X c W [] tYes mYes := ⟨pts_nil, fun H G σ δ F X Q cr rs h q _ => q true H G cr.rfl' h⟩
theorem dts_one {X : Cx} {c : Ct} {W : WX} {e : Expr} {p : MT} {t : TT} (h : DT X c W e t p) : DTs X c W [e] t p := ⟨pts_one h.p, h.w⟩
def lcD (mg : MG) (mt : MT) (me : ME) (δ : List Sl) (F : List D → Prop) : List D → List D → Prop
  | [], acc => F acc
  | d :: ds, acc => mg d δ fun δ1 => mt δ1 (fun b => if b = true then me δ1 (fun r => lcD mg mt me δ F ds (acc ++ [r])) (fun _ => False) else lcD mg mt me δ F ds acc) (fun _ => False)
def mLc (mi : MA) (mg : MG) (mt : MT) (me : ME) (vs : List Nat) : ME := fun δ F X => mi δ (fun ds => ds.length < sizeLine ∧ lcD mg mt me (wipeD δ vs) (fun r => F (.lst r)) ds []) X
theorem we_lc {K : Fg} {c : Ct} {W : WX} {wi : TI} {g : TG} {tt : TT} {te : TE} {is vs : List Nat} {mi : MA} {mg : MG} {mt : MT} {me : ME} (hv : ∀ i ∈ is, i ∈ vs) (ww : WIC K c W wi mi) (wg : WG K g is mg) (wt : WT K c W0 tt mt) (we : WE K c W0 te me) :
    WE K c W (tLc wi g tt te vs) (mLc mi mg mt me vs) := fun H G σ δ F X Q cr rs h q x => by
  refine ww H G σ δ _ X _ cr rs h (fun J ds H1 G1 g1 wk f => ?_) x
  obtain ⟨hz, f⟩ := f
  have cr1 := cr.step g1
  have rs1 := (rs.step cr g1).wipe vs
  intro D hD
  have nD : G1 D = none := by
    cases z : G1 D with
    | none => rfl
    | some o =>
      rw [g1.sub _ _ z] at hD
      cases hD
  refine ⟨fun i n H' => n = ds.length - i ∧ i ≤ ds.length ∧ ∃ G' acc rr, Go c.dl H1 G1 H' G' ∧ H' D = some (.lst acc) ∧ G' D = none ∧ RepL K G' acc rr ∧ acc.length ≤ i ∧ lcD mg mt me (wipeD δ vs) (fun r => F (.lst r)) (ds.drop i) rr,
    ⟨ds.length, by simp, Nat.zero_le _, G1, [], [], (Go.mine cr1.sub hD).lift cr1.dlok, upd_same, nD, .nil, Nat.le_refl _, f⟩, ?_⟩
  rintro i n H2 ⟨rfl, hi, G2, acc, rr, g2, hA, nG, ra, hl, f2⟩
  obtain ⟨w1, w2⟩ := wk i H2 G2 g2
  by_cases hlt : i < ds.length
  · right
    have hd : ds[i]? = some ds[i] := List.getElem?_eq_getElem hlt
    obtain ⟨go, y⟩ := w1 _ hd
    rw [List.drop_eq_getElem_cons hlt] at f2
    refine ⟨go, fun H' => ∃ G' acc rr, Go c.dl H1 G1 H' G' ∧ H' D = some (.lst acc) ∧ G' D = none ∧ RepL K G' acc rr ∧ acc.length ≤ i + 1 ∧ lcD mg mt me (wipeD δ vs) (fun r => F (.lst r)) (ds.drop (i + 1)) rr,
      fun H' z => ⟨ds.length - (i + 1), by omega, rfl, hlt, z⟩, fun v H3 hy => ?_⟩
    obtain ⟨G3, g3, r3⟩ := y v H3 hy
    have cr2 : Cr c H2 G2 := cr1.step g2
    have rs2 := rs1.step cr1 g2
    have g3' := g3.lift cr2.dlok
    have step : ∀ {H4 G4 : Hp}, Go c.dl H2 G2 H4 G4 → H4 D = some (.lst acc) ∧ G4 D = none := fun {H4 G4} g4 => by
      refine ⟨g4.keep _ _ hA fun p l e => ?_, ?_⟩
      · obtain ⟨⟨_, _, q1, q2, _⟩, _⟩ := cr1.dlok p l e
        exact ⟨fun z => (by rw [z, q1] at hD; cases hD), fun z => (by rw [z, q2] at hD; cases hD)⟩
      · cases z : G4 D with
        | none => rfl
        | some o => rcases g4.new _ _ z with y | y
                    · rw [nG] at y; cases y
                    · rw [hA] at y; cases y
    refine wg c H3 G3 (L2.wipe σ vs) (wipeD δ vs) v _ _ _ g3.sub (rs2.step cr2 g3') r3 f2 fun σ4 δ4 rs4 z4 f4 => ⟨?_, ?_⟩
    · rw [z4 vs hv]
      exact wipe_wipe σ vs vs fun _ h => h
    refine wt H3 G3 σ4 δ4 _ _ _ (cr2.step g3') rs4 f4 (fun b H5 G5 g5 f5 => ?_) XW.no
    have g5' := g3'.trans g5
    cases b with
    | true =>
      show te σ4 H5 _
      refine we H5 G5 σ4 δ4 _ _ _ ((cr2.step g3').step g5) (rs4.step (cr2.step g3') g5) f5 (fun u d H6 G6 g6 r6 f6 => ?_) XW.no
      have g6' := g5'.trans g6
      obtain ⟨h6, n6⟩ := step g6'
      refine ⟨acc, h6, Nat.lt_of_le_of_lt hl (Nat.lt_trans hlt hz), G6, acc ++ [u], rr ++ [d], (g2.trans g6').mut cr1.dlok hD n6, upd_same, n6, (ra.mono g6'.grow).append (.cons r6 .nil), ?_, f6⟩
      rw [List.length_append, List.length_singleton]
      omega
    | false =>
      show (if false = true then _ else _)
      refine iteF ?_
      obtain ⟨h6, n6⟩ := step g5'
      exact ⟨G5, acc, rr, g2.trans g5', h6, n6, ra.mono g5'.grow, by omega, f5⟩
  · left
    have he : i = ds.length := by omega
    refine ⟨w2 he, ?_⟩
    rw [he, List.drop_length] at f2
    have gp := g2.pub cr1.dlok hD hA nG
    refine q _ _ H2 _ (g1.trans gp) (.lst upd_same (ra.mono fun a u z => ?_)) f2
    rw [upd_ne (ne_of_none z nG)]
    exact z
section
variable {X : Cx} {c : Ct} {W : WX} {elt tg iter : Expr} {ifs : List Expr} {scope : Scope} {own : List (Str × Nat)} {is : List Nat} {pos : Pos} {mi : MA} {mg : MG} {mt : MT} {me : ME}
abbrev Blk (X : Cx) (scope : Scope) (s : Shared) (H : Hp) (C : Addr) (cl : List (Str × Addr)) (fp : List Addr) : Cx := X.blk s H scope (compEnvC scope cl C X.env) fp
variable {ti : TI} {tgg : TG} {tt : TT} {te : TE}
theorem de_lc (hc : X.calm = true) (hN : X.N.Nodup) (hi : DIC X c W tg iter ti mi) (ok : BlkOk X.N X.env.scope scope own) (hv : ∀ i ∈ is, i ∈ own.map (·.2))
    (hg : ∀ (s : Shared) (H : Hp) (C : Addr) (cl : List (Str × Addr)) (fp : List Addr), DG (Blk X scope s H C cl fp) tg tgg is mg) (ht : ∀ (s : Shared) (H : Hp) (C : Addr) (cl : List (Str × Addr)) (fp : List Addr), DTs (Blk X scope s H C cl fp) c W0 ifs tt mt)
    (he : ∀ (s : Shared) (H : Hp) (C : Addr) (cl : List (Str × Addr)) (fp : List Addr), DE (Blk X scope s H C cl fp) c W0 elt te me) (hs : ∀ x, foldedSetIterable iter X.env x = pure x := by intro _; rfl) :
    DE X c W (.ListComp elt [⟨tg, iter, ifs, 0⟩] scope pos) (tLc ti tgg tt te (own.map (·.2))) (mLc mi mg mt me (own.map (·.2))) :=
  ⟨pe_lc hc hN hi.p ok (fun s H C cl fp => (hg s H C cl fp).p) (fun s H C cl fp => (ht s H C cl fp).p) (fun s H C cl fp => (he s H C cl fp).p) hs,
    we_lc hv hi.w (hg {} (fun _ => none) 0 [] []).w (ht {} (fun _ => none) 0 [] []).w (he {} (fun _ => none) 0 [] []).w⟩
theorem ds_setLc (i : Nat) {y : Str} {py spos : Pos} (hc : X.calm = true) (hN : X.N.Nodup) (hy : X.N[i]? = some y) (hyl : X.env.scope.names.lookup y = some .local)
    (hsw : swapsWith (.ListComp elt [⟨tg, iter, ifs, 0⟩] scope pos) (some (.Name y py)) spos.line X.env = pure true) (hi : DIC X c W tg iter ti mi) (ok : BlkOk X.N X.env.scope scope own) (hv : ∀ i ∈ is, i ∈ own.map (·.2))
    (hg : ∀ (s : Shared) (H : Hp) (C : Addr) (cl : List (Str × Addr)) (fp : List Addr), DG (Blk X scope s H C cl fp) tg tgg is mg) (ht : ∀ (s : Shared) (H : Hp) (C : Addr) (cl : List (Str × Addr)) (fp : List Addr), DTs (Blk X scope s H C cl fp) c W0 ifs tt mt)
    (he : ∀ (s : Shared) (H : Hp) (C : Addr) (cl : List (Str × Addr)) (fp : List Addr), DE (Blk X scope s H C cl fp) c W0 elt te me)
    (hs : ∀ x, foldedSetIterable iter X.env x = pure x := by intro _; rfl) : DS X c W (.Assign [.Name y py] (.ListComp elt [⟨tg, iter, ifs, 0⟩] scope pos) spos) (tAsg (tLc ti tgg tt te (own.map (·.2))) (gName i)) (msSet i (mLc mi mg mt me (own.map (·.2)))) :=
  ⟨ps_setLc hc hN hy hyl hsw hi.p ok (fun s H C cl fp => (hg s H C cl fp).p) (fun s H C cl fp => (ht s H C cl fp).p) (fun s H C cl fp => (he s H C cl fp).p) hs,
    ws_set (we_lc hv hi.w (hg {} (fun _ => none) 0 [] []).w (ht {} (fun _ => none) 0 [] []).w (he {} (fun _ => none) 0 [] []).w)⟩
end
end DL

set_option Elab.async false
set_option linter.all false
set_option maxRecDepth 100000
set_option maxHeartbeats 4000000
namespace DL
open PySem L2

/-! ### defs -/
abbrev FF := List D → (D → Prop) → XC → Prop
/-- what a def promises: its arguments as data (behind the deal, if there is one) -/
def spD (K : Fg) (n : Nat) (wd : Bool) (f : FF) : Sp := fun vs H Q E => ∃ (G : Hp) (ds : List D) (dl : Dl) (vs' : List V) (F : D → Prop) (X : XC), ds.length = n ∧
  (match wd with
    | false => dl = none ∧ vs = vs'
    | true => ∃ p l, dl = some (p, l) ∧ vs = .ref p :: vs') ∧ Same G H ∧ DlOk dl H G ∧ RepL K G vs' ds ∧ f ds F X ∧
  (∀ v d H' G', Go dl H G H' G' → Rep K G' v d → F d → Q v H') ∧ (∀ C fs d H' G', Go dl H G H' G' → ExcIs K G' d fs → X (C, fs) → E (.ref C) d H')
def dn (wd : Bool) : Nat := if wd = true then 1 else 0
theorem spD_len {K : Fg} {n : Nat} {wd : Bool} {f : FF} {vs : List V} {H : Hp} {Q : VK} {E : XK} (h : spD K n wd f vs H Q E) : vs.length = n + dn wd := by
  obtain ⟨G, ds, dl, vs', F, X, hn, hw, s, d, r, _⟩ := h
  have e := r.length
  cases wd with
  | false =>
    obtain ⟨_, rfl⟩ := hw
    show _ = n + 0
    omega
  | true =>
    obtain ⟨p, l, _, rfl⟩ := hw
    show vs'.length + 1 = n + 1
    omega
def start0 (wd : Bool) (ds : List D) (k : Nat) : List Sl := (if wd = true then [Sl.deal] else []) ++ (ds.map Sl.dat ++ List.replicate k .un)
abbrev WF (E : XK) : WX := fun cls d _ H => E cls d H
theorem dat_at {K : Fg} {c : Ct} {H G : Hp} : ∀ {vs : List V} {ds : List D} (k i : Nat) (s : Sl), RepL K G vs ds → (ds.map Sl.dat ++ List.replicate k .un)[i]? = some s → ∃ x, (vs.map some ++ List.replicate k none)[i]? = some x ∧ SlotOk K c H G x s ∧ ∀ es, s ≠ .own es
  | _, _, k, i, s, .nil, e => by
    have e : (List.replicate k Sl.un)[i]? = some s := e
    show ∃ x, (List.replicate k (none : Option V))[i]? = some x ∧ _
    rw [List.getElem?_replicate] at e
    rw [List.getElem?_replicate]
    split at e
    · rename_i hi
      cases e
      exact ⟨none, if_pos hi, trivial, fun es z => nomatch z⟩
    · cases e
  | _, _, k, 0, s, .cons a r, e => by
    cases e
    exact ⟨_, rfl, ⟨_, rfl, a⟩, fun es z => nomatch z⟩
  | _, _, k, i + 1, s, .cons a r, e => dat_at k i s r e
/-- a def with its arguments -/
theorem rs_start {K : Fg} {H G : Hp} {dl : Dl} {N : List Str} {vs vs' : List V} {ds : List D} {wd : Bool} {n : Nat} (hn : ds.length = n) (hw : match wd with
    | false => dl = none ∧ vs = vs'
    | true => ∃ p l, dl = some (p, l) ∧ vs = .ref p :: vs') (r : RepL K G vs' ds) (hN : n + dn wd ≤ N.length) : RS K ⟨dl, none, H, G⟩ H G (L2.start N vs) (start0 wd ds (N.length - (n + dn wd))) := by
  have e := r.length
  have at_ : ∀ (i : Nat) (s : Sl), (start0 wd ds (N.length - (n + dn wd)))[i]? = some s → ∃ x, (L2.start N vs)[i]? = some x ∧ SlotOk K ⟨dl, none, H, G⟩ H G x s ∧ ∀ es, s ≠ .own es := by
    intro i s h
    cases wd with
    | false =>
      obtain ⟨h1, h2⟩ := hw
      subst h2
      have el : N.length - vs.length = N.length - (n + 0) := by omega
      unfold L2.start
      rw [el]
      exact dat_at _ i s r h
    | true =>
      obtain ⟨p, l, h1, h2⟩ := hw
      subst h2
      have el : N.length - (V.ref p :: vs').length = N.length - (n + 1) := by
        rw [List.length_cons]
        omega
      unfold L2.start
      rw [el]
      cases i with
      | zero =>
        cases h
        exact ⟨_, rfl, ⟨p, l, h1, rfl⟩, fun es z => nomatch z⟩
      | succ i => exact dat_at _ i s r h
  refine ⟨?_, fun i s h => let ⟨x, a, b, _⟩ := at_ i s h; ⟨x, a, b⟩, fun i j p ds es ne h1 _ _ => ?_⟩
  · unfold L2.start start0
    cases wd with
    | false =>
      obtain ⟨h1, h2⟩ := hw
      subst h2
      simp [dn] at hN ⊢
      omega
    | true =>
      obtain ⟨p, l, h1, h2⟩ := hw
      subst h2
      simp [dn] at hN ⊢
      omega
  · obtain ⟨_, _, _, z⟩ := at_ i _ h1
    exact absurd rfl (z ds)
section
variable {P : Program} {w : World} {K : Fg} {mg : Str → Option Value} {base : Heap} {x qual : Str} {params : Arguments} {body : List Stmt} {scope : Scope} {dvs : List V} {kws : List (Str × V)} {f : Addr} {fd : FuncData} {N ps : List Str} {n k : Nat} {wd : Bool} {ff : FF}
/-- THE RULE for a def -/
theorem fn_okD {t : TS} {ms : MS} (F : FunD K x qual params body scope dvs kws f fd) (S : FnScope N ps scope) (hl : ps.length = n + dn wd) (hN : ps.length ≤ N.length)
    (hb : ∀ (c : Ct) (cdv : Value) (A : Around) (outer : List Env) (s : Shared) (H : Hp) (E : XK), Room k (A.deeper (PyProof.Rows.envOfC qual scope s.heap.objs.size f cdv)) → DSs (cxOf (L2.CX P w) P w K mg base N qual scope f cdv A outer s H E) c (WF E) body t ms)
    (hm : ∀ ds G X, ds.length = n → ff ds G X → ms (start0 wd ds (N.length - (n + dn wd))) { nx := fun _ => G .non, rt := G, rs := fun x _ => X x }) : FnOk P w K mg base (L2.CX P w) (k + 1) f fd ps (spD K n wd ff) := by
  refine F.ok S (fun vs H Q E h => (spD_len h).trans hl.symm) (fun cdv A outer s H vs Q E hr h => ?_)
  obtain ⟨G, ds, dl, vs', G0, X0, hn, hw, sm, dk, r, hf, hq, hx⟩ := h
  obtain ⟨p, w'⟩ := hb ⟨dl, none, H, G⟩ cdv A outer s H E hr
  refine ⟨t, p, ?_⟩
  have cr : Cr ⟨dl, none, H, G⟩ H G := ⟨fun _ _ q _ _ => q, Same.refl _, sm, fun _ _ q => .inl q, dk, fun p' l' e => by
    obtain ⟨⟨_, _, q1, q2, _⟩, _⟩ := dk p' l' e
    exact ⟨fun z => (by rw [show H p' = none from z] at q1; cases q1), fun z => (by rw [show H l' = none from z] at q2; cases q2)⟩, fun _ e => nomatch e⟩
  refine w' H G _ _ _ _ cr (rs_start hn hw r (by omega)) (hm ds G0 X0 hn hf) ⟨fun σ δ H' G' a b z q => hq .non .non H' G' (a.go rfl) .non q, fun v d H' G' a b z q => hq v d H' G' (a.go rfl) b q, fun _ _ _ _ _ _ _ q => q.elim, fun _ _ _ _ _ _ _ q => q.elim,
    fun C fs d σ δ H' G' a b z e q => hx C fs d H' G' (a.go rfl) e q⟩
end

/-! ### calls -/
section
variable {X : Cx} {c : Ct} {W : WX} {e a b : Expr} {es : List Expr} {pos p : Pos} {x : Str} {k n : Nat} {f : Addr} {fd : FuncData} {ps : List Str} {ff : FF} {ds : List Value} {dvs : List V} {dd : List D} {mr : MA} {tr : TA}
/-- f(e, ..), without the deal; dd: the defaults that fill up -/
def mCall (ff : FF) (dd : List D) (n : Nat) (mr : MA) : ME := fun δ F X => mr δ (fun ds => (ds ++ dd).length = n ∧ ff (ds ++ dd) F X) X
theorem we_call {K : Fg} (hdd : ∀ G, RepL K G dvs dd) (w : WA K c W tr mr) : WE K c W (tCallSD (spD K n false ff) dvs (fun σ cls d H => W cls d σ H) tr) (mCall ff dd n mr) := fun H G σ δ F X Q cr rs h q x => by
  refine w H G σ δ _ _ _ cr rs h (fun vs ds H' G' g r h1 => ?_) x
  refine ⟨G', ds ++ dd, none, vs ++ dvs, F, X, h1.1, ⟨rfl, rfl⟩, g.sub, .no, r.append (hdd G'), h1.2, fun v d H2 G2 g2 r2 f2 => q v d H2 G2 (g.trans (g2.lift g.deal)) r2 f2, fun C fs d H2 G2 g2 e f2 => x C fs d H2 G2 (g.trans (g2.lift g.deal)) e f2⟩
theorem de_call (F : FnOk X.prog X.w X.K X.mg X.base (L2.CX X.prog X.w) k f fd ps (spD X.K n false ff)) (hr : Room k X.A) (hg : Gl X x) (hm : X.mg x = some (.ref f)) (hk : PySem.W.keepIn X.K (.ref f) = true) (hb : Binds X.K fd ps ds) (hd : Vals dvs ds) (hdd : ∀ G, RepL X.K G dvs dd) (tk : Takes X W)
    (ha : DA X c W (e :: es) tr mr) (hdb : (x == ("__debug__" : Str)) = false := by decide) (he : starEach (e :: es) X.env = (false, eval e X.env) :: starEach es X.env := by rfl) (hpl : (backTo pos (starEach es X.env)).any (·.1) = false := by rfl) :
    DE X c W (.Call (.Name x p) (e :: es) [] pos) (tCallSD (spD X.K n false ff) dvs (fun σ cls d H => W cls d σ H) tr) (mCall ff dd n mr) :=
  ⟨pe_callSD F hr hg hm hk hb hd (passAt tk) ha.p hdb he hpl, we_call hdd ha.w⟩
/-- f(deal, e, ..) -/
def mCallL (i : Nat) (ff : FF) (dd : List D) (n : Nat) (mr : MA) : ME := fun δ F X => (match δ[i]? with
  | some .deal => True
  | _ => False) ∧ mr δ (fun ds => (ds ++ dd).length = n ∧ ff (ds ++ dd) F X) X
theorem we_callL {K : Fg} {i : Nat} (hdd : ∀ G, RepL K G dvs dd) (w : WA K c W tr mr) : WE K c W (tCallSD (spD K n true ff) dvs (fun σ cls d H => W cls d σ H) (tCons (tVar i) tr)) (mCallL i ff dd n mr) := fun H G σ δ F X Q cr rs h q x => by
  obtain ⟨hi, h⟩ := h
  split at hi
  · rename_i e
    obtain ⟨y, h1, p, l, h2, h3⟩ := rs.at_ _ _ e
    subst h3
    refine ⟨_, h1, w H G σ δ _ _ _ cr rs h (fun vs ds H' G' g r h1 => ?_) x⟩
    exact ⟨G', ds ++ dd, c.dl, vs ++ dvs, F, X, h1.1, ⟨p, l, h2, rfl⟩, g.sub, g.deal, r.append (hdd G'), h1.2, fun v d H2 G2 g2 r2 f2 => q v d H2 G2 (g.trans g2) r2 f2, fun C fs d H2 G2 g2 e f2 => x C fs d H2 G2 (g.trans g2) e f2⟩
  · exact hi.elim
theorem de_callL (i : Nat) {z : Str} {zp : Pos} (F : FnOk X.prog X.w X.K X.mg X.base (L2.CX X.prog X.w) k f fd ps (spD X.K n true ff)) (hr : Room k X.A) (hg : Gl X x) (hm : X.mg x = some (.ref f)) (hk : PySem.W.keepIn X.K (.ref f) = true) (hb : Binds X.K fd ps ds) (hd : Vals dvs ds) (hdd : ∀ G, RepL X.K G dvs dd) (tk : Takes X W)
    (hz : PE X (.Name z zp) (tVar i)) (ha : DA X c W es tr mr) (hdb : (x == ("__debug__" : Str)) = false := by decide) (he : starEach (.Name z zp :: es) X.env = (false, eval (.Name z zp) X.env) :: starEach es X.env := by rfl) (hpl : (backTo pos (starEach es X.env)).any (·.1) = false := by rfl) :
    DE X c W (.Call (.Name x p) (.Name z zp :: es) [] pos) (tCallSD (spD X.K n true ff) dvs (fun σ cls d H => W cls d σ H) (tCons (tVar i) tr)) (mCallL i ff dd n mr) :=
  ⟨pe_callSD F hr hg hm hk hb hd (passAt tk) (pa_cons hz ha.p he) hdb he hpl, we_callL hdd ha.w⟩
/-- a built-in called with values: by data -/
def CD (K : Fg) (r : List V → Hp → VK → Prop) (g : List D → (D → Prop) → Prop) : Prop := ∀ H G vs ds (F : D → Prop) (Q : VK), Same G H → RepL K G vs ds → g ds F → (∀ v d H' G', Go none H G H' G' → Rep K G' v d → F d → Q v H') → r vs H Q
def mCB (g : List D → (D → Prop) → Prop) (mr : MA) : ME := fun δ F X => mr δ (fun ds => g ds F) X
theorem we_callB {K : Fg} {r : List V → Hp → VK → Prop} {g : List D → (D → Prop) → Prop} (hr : CD K r g) (w : WA K c W tr mr) : WE K c W (tCB r tr) (mCB g mr) := fun H G σ δ F X Q cr rs h q x => by
  refine w H G σ δ _ _ _ cr rs h (fun vs ds H' G' g1 r1 h1 => ?_) x
  exact hr H' G' vs ds F Q g1.sub r1 h1 fun v d H2 G2 g2 r2 f2 => q v d H2 G2 (g1.trans (g2.lift g1.deal)) r2 f2
theorem de_callB {id : String} {r : List V → Hp → VK → Prop} {g : List D → (D → Prop) → Prop} (hc : CallR X (.builtin id) r) (hr : CD X.K r g) (hg : Gl X x) (hm : X.mg x = none) (hv : bootBuiltins x = some (.builtin id)) (ha : DA X c W (e :: es) tr mr) (hn : x ≠ "__name__" := by decide) (hdb : (x == ("__debug__" : Str)) = false := by decide)
    (he : starEach (e :: es) X.env = (false, eval e X.env) :: starEach es X.env := by rfl) (hpl : (backTo pos (starEach es X.env)).any (·.1) = false := by rfl) : DE X c W (.Call (.Name x p) (e :: es) [] pos) (tCB r tr) (mCB g mr) :=
  ⟨pe_callB hc hg hm hv ha.p hn hdb he hpl, we_callB hr ha.w⟩
theorem de_callTy {T : String} {r : List V → Hp → VK → Prop} {g : List D → (D → Prop) → Prop} (hc : CallR X (.type T) r) (hr : CD X.K r g) (hg : Gl X x) (hm : X.mg x = none) (hv : bootBuiltins x = some (.type T)) (ha : DA X c W (e :: es) tr mr) (hn : x ≠ "__name__" := by decide) (hdb : (x == ("__debug__" : Str)) = false := by decide)
    (he : starEach (e :: es) X.env = (false, eval e X.env) :: starEach es X.env := by rfl) (hpl : (backTo pos (starEach es X.env)).any (·.1) = false := by rfl) : DE X c W (.Call (.Name x p) (e :: es) [] pos) (tCB r tr) (mCB g mr) :=
  ⟨pe_callTy hc hg hm hv ha.p hn hdb he hpl, we_callB hr ha.w⟩
end
def gLen (ds : List D) (F : D → Prop) : Prop := match ds with
  | [.str x] => x.length ≤ sizeLine ∧ F (.int x.length)
  | [.lst xs] => F (.int xs.length)
  | [.tup xs] => F (.int xs.length)
  | _ => False
theorem cd_len {K : Fg} : CD K (fun xs H Q => ∃ x n, xs = [x] ∧ LenV K x H n ∧ Q (.int n) H) gLen := fun H G vs ds F Q s r h q => by
  unfold gLen at h
  split at h
  · obtain ⟨v, e, r1⟩ := r.one
    rw [e, r1.str_of]
    exact ⟨_, _, rfl, ⟨h.1, rfl⟩, q _ _ H G (Go.refl s .no) (.int _) h.2⟩
  · obtain ⟨v, e, r1⟩ := r.one
    obtain ⟨a, xs, e1, h1, r2⟩ := r1.lst_of
    rw [e, e1]
    exact ⟨_, xs.length, rfl, .inl ⟨xs, SqL.of (s _ _ h1), rfl⟩, q _ _ H G (Go.refl s .no) (.int _) (by rw [r2.length]; exact h)⟩
  · obtain ⟨v, e, r1⟩ := r.one
    obtain ⟨a, xs, e1, h1, r2⟩ := r1.tup_of
    rw [e, e1]
    exact ⟨_, xs.length, rfl, .inr ⟨xs, same_t s h1, rfl⟩, q _ _ H G (Go.refl s .no) (.int _) (by rw [r2.length]; exact h)⟩
  · exact h.elim
/-- tuple(x), list(x) -/
def gTuple (ds : List D) (F : D → Prop) : Prop := match ds with
  | [.lst xs] => F (.tup xs)
  | [.tup xs] => F (.tup xs)
  | _ => False
theorem cd_tuple {K : Fg} : CD K (fun xs H Q => ∃ p ys, xs = [.ref p] ∧ ((SqL K H p ys ∧ ∀ l, H l = none → Q (.ref l) (upd H l (.tup ys))) ∨ (SqT K H p ys ∧ Q (.ref p) H))) gTuple := fun H G vs ds F Q s r h q => by
  unfold gTuple at h
  split at h
  · obtain ⟨v, e, r1⟩ := r.one
    obtain ⟨a, xs, e1, h1, r2⟩ := r1.lst_of
    rw [e, e1]
    refine ⟨a, xs, rfl, .inl ⟨SqL.of (s _ _ h1), fun l hl => ?_⟩⟩
    have g2 := Go.laid (o := .tup xs) s hl
    exact q _ _ _ _ g2 (.tup (SqT.of upd_same) (r2.mono g2.grow)) h
  · obtain ⟨v, e, r1⟩ := r.one
    obtain ⟨a, xs, e1, h1, r2⟩ := r1.tup_of
    rw [e, e1]
    exact ⟨a, xs, rfl, .inr ⟨same_t s h1, q _ _ H G (Go.refl s .no) (.tup h1 r2) h⟩⟩
  · exact h.elim
def gList (ds : List D) (F : D → Prop) : Prop := match ds with
  | [.lst xs] => F (.lst xs)
  | [.tup xs] => F (.lst xs)
  | _ => False
theorem cd_list {K : Fg} : CD K (fun xs H Q => ∃ p ys, xs = [.ref p] ∧ (SqL K H p ys ∨ SqT K H p ys) ∧ ∀ l, H l = none → Q (.ref l) (upd H l (.lst ys))) gList := fun H G vs ds F Q s r h q => by
  unfold gList at h
  split at h
  · obtain ⟨v, e, r1⟩ := r.one
    obtain ⟨a, xs, e1, h1, r2⟩ := r1.lst_of
    rw [e, e1]
    refine ⟨a, xs, rfl, .inl (SqL.of (s _ _ h1)), fun l hl => ?_⟩
    have g2 := Go.laid (o := .lst xs) s hl
    exact q _ _ _ _ g2 (.lst upd_same (r2.mono g2.grow)) h
  · obtain ⟨v, e, r1⟩ := r.one
    obtain ⟨a, xs, e1, h1, r2⟩ := r1.tup_of
    rw [e, e1]
    refine ⟨a, xs, rfl, .inr (same_t s h1), fun l hl => ?_⟩
    have g2 := Go.laid (o := .lst xs) s hl
    exact q _ _ _ _ g2 (.lst upd_same (r2.mono g2.grow)) h
  · exact h.elim
/-- all(..), any(..) of a list of bools -/
def blsD : List D → Option (List Bool)
  | [] => some []
  | .bl b :: ds => (blsD ds).map (b :: ·)
  | _ :: _ => none
theorem bls_of {K : Fg} {G : Hp} : ∀ {vs : List V} {ds : List D} {bs : List Bool}, RepL K G vs ds → blsD ds = some bs → vs = bs.map V.bl
  | _, _, _, .nil, e => by cases e; rfl
  | _, _, _, .cons (d := d) a r, e => by
    cases d with
    | bl b =>
      have e : (blsD _).map (b :: ·) = some _ := e
      cases q : blsD _ with
      | none => rw [q] at e; cases e
      | some cs =>
        rw [q] at e
        cases e
        rw [a.bl_of, bls_of r q]
        rfl
    | _ => cases e
def gAll (ds : List D) (F : D → Prop) : Prop := match ds with
  | [.lst xs] => ∃ bs, blsD xs = some bs ∧ F (.bl (bs.all id))
  | _ => False
def gAny (ds : List D) (F : D → Prop) : Prop := match ds with
  | [.lst xs] => ∃ bs, blsD xs = some bs ∧ F (.bl (bs.any id))
  | _ => False
theorem cd_all {K : Fg} : CD K (rAll K) gAll := fun H G vs ds F Q s r h q => by
  unfold gAll at h
  split at h
  · obtain ⟨v, e, r1⟩ := r.one
    obtain ⟨a, xs, e1, h1, r2⟩ := r1.lst_of
    obtain ⟨bs, e2, f⟩ := h
    rw [e, e1]
    exact ⟨a, bs, rfl, SqL.of (by rw [← bls_of r2 e2]; exact s _ _ h1), q _ _ H G (Go.refl s .no) (.bl _) f⟩
  · exact h.elim
theorem cd_any {K : Fg} : CD K (rAny K) gAny := fun H G vs ds F Q s r h q => by
  unfold gAny at h
  split at h
  · obtain ⟨v, e, r1⟩ := r.one
    obtain ⟨a, xs, e1, h1, r2⟩ := r1.lst_of
    obtain ⟨bs, e2, f⟩ := h
    rw [e, e1]
    exact ⟨a, bs, rfl, SqL.of (by rw [← bls_of r2 e2]; exact s _ _ h1), q _ _ H G (Go.refl s .no) (.bl _) f⟩
  · exact h.elim
def gAbs (ds : List D) (F : D → Prop) : Prop := match ds with
  | [.int i] => F (.int (if i < 0 then -i else i))
  | _ => False
theorem cd_abs {K : Fg} : CD K (fun xs H Q => ∃ i, xs = [.int i] ∧ Q (.int (if i < 0 then -i else i)) H) gAbs := fun H G vs ds F Q s r h q => by
  unfold gAbs at h
  split at h
  · obtain ⟨v, e, r1⟩ := r.one
    rw [e, r1.int_of]
    exact ⟨_, rfl, q _ _ H G (Go.refl s .no) (.int _) h⟩
  · exact h.elim
def gInt (ds : List D) (F : D → Prop) : Prop := match ds with
  | [.int i] => F (.int i)
  | [.bl b] => F (.int (if b then 1 else 0))
  | _ => False
theorem cd_int {K : Fg} : CD K (fun xs H Q => (∃ i, xs = [.int i] ∧ Q (.int i) H) ∨ ∃ k, xs = [.bl k] ∧ Q (.int (if k then 1 else 0)) H) gInt := fun H G vs ds F Q s r h q => by
  unfold gInt at h
  split at h
  · obtain ⟨v, e, r1⟩ := r.one
    rw [e, r1.int_of]
    exact .inl ⟨_, rfl, q _ _ H G (Go.refl s .no) (.int _) h⟩
  · obtain ⟨v, e, r1⟩ := r.one
    rw [e, r1.bl_of]
    exact .inr ⟨_, rfl, q _ _ H G (Go.refl s .no) (.int _) h⟩
  · exact h.elim
end DL

set_option Elab.async false
set_option linter.all false
set_option maxRecDepth 100000
set_option maxHeartbeats 4000000
namespace DL
open PySem L2

/-! ### == of data -/
mutual
def toPy : D → PyData
  | .non => .none
  | .bl b => .bool b
  | .int i => .int i
  | .str x => .str x
  | .lst xs => .list (toPys xs)
  | .tup xs => .tuple (toPys xs)
  | .obj _ _ => .none
  | .fx _ => .none
  | .scr _ => .none
def toPys : List D → List PyData
  | [] => []
  | x :: xs => toPy x :: toPys xs
end
mutual
def eqD : D → D → Bool
  | .non, .non => true
  | .bl a, .bl b => a == b
  | .bl a, .int j => (if a then 1 else 0) == j
  | .int i, .bl b => i == (if b then 1 else 0)
  | .int i, .int j => i == j
  | .str x, .str y => x == y
  | .lst xs, .lst ys => eqDs xs ys
  | .tup xs, .tup ys => eqDs xs ys
  | _, _ => false
def eqDs : List D → List D → Bool
  | [], [] => true
  | x :: xs, y :: ys => eqD x y && eqDs xs ys
  | _, _ => false
end
def plain : Nat → D → Bool
  | _, .non => true
  | _, .bl _ => true
  | _, .int _ => true
  | _, .str x => PyData.strOk x
  | n + 1, .lst xs => xs.all (plain n)
  | n + 1, .tup xs => xs.all (plain n)
  | _, _ => false
section
variable {K : Fg} {G H : Hp}
theorem dp_of (s : Same G H) : ∀ (n : Nat) {v : V} {d : D}, Rep K G v d → plain n d = true → Dp K H v (toPy d)
  | n, _, _, .non, _ => .non
  | n, _, _, .bl b, _ => .bl b
  | n, _, _, .int i, _ => .int i
  | n, _, _, .str x, _ => .str x
  | 0, _, _, .lst h r, p => by cases p
  | n + 1, _, _, .lst h r, p => by
    have all : ∀ {vs : List V} {ds : List D}, RepL K G vs ds → ds.all (plain n) = true → DpAll K H vs (toPys ds) := by
      intro vs ds r
      induction ds generalizing vs with
      | nil => intro _; cases r; exact .nil
      | cons d ds ih =>
        intro q
        rw [List.all_cons, Bool.and_eq_true] at q
        cases r with
        | cons a r => exact .cons (dp_of s n a q.1) (ih r q.2)
    exact .lst (SqL.of (s _ _ h)) (all r p)
  | 0, _, _, .tup h r, p => by cases p
  | n + 1, _, _, .tup h r, p => by
    have all : ∀ {vs : List V} {ds : List D}, RepL K G vs ds → ds.all (plain n) = true → DpAll K H vs (toPys ds) := by
      intro vs ds r
      induction ds generalizing vs with
      | nil => intro _; cases r; exact .nil
      | cons d ds ih =>
        intro q
        rw [List.all_cons, Bool.and_eq_true] at q
        cases r with
        | cons a r => exact .cons (dp_of s n a q.1) (ih r q.2)
    exact .tup (same_t s h) (all r p)
  | n, _, _, .obj _ _, p => by cases n <;> cases p
  | n, _, _, .fx _, p => by cases n <;> cases p
  | n, _, _, .scr _ _, p => by cases n <;> cases p
end
theorem lay_of : ∀ (n : Nat) (d : D), plain n d = true → PyData.canLay0 (toPy d) = true ∧ (toPy d).depth ≤ n
  | n, .non, _ => ⟨rfl, Nat.zero_le _⟩
  | n, .bl _, _ => ⟨rfl, Nat.zero_le _⟩
  | n, .int _, _ => ⟨rfl, Nat.zero_le _⟩
  | n, .str x, p => ⟨by cases n <;> exact p, Nat.zero_le _⟩
  | 0, .lst _, p => by cases p
  | 0, .tup _, p => by cases p
  | n + 1, .lst xs, p => by
    have all : ∀ ds : List D, ds.all (plain n) = true → PyData.canLayAll0 (toPys ds) = true ∧ PyData.depthAll (toPys ds) ≤ n := by
      intro ds
      induction ds with
      | nil => intro _; exact ⟨rfl, Nat.zero_le _⟩
      | cons d ds ih =>
        intro q
        rw [List.all_cons, Bool.and_eq_true] at q
        obtain ⟨a, b⟩ := lay_of n d q.1
        obtain ⟨c, e⟩ := ih q.2
        exact ⟨by show (PyData.canLay0 (toPy d) && PyData.canLayAll0 (toPys ds)) = true; rw [a, c]; rfl, Nat.max_le.mpr ⟨b, e⟩⟩
    obtain ⟨a, b⟩ := all xs p
    exact ⟨a, Nat.succ_le_succ b⟩
  | n + 1, .tup xs, p => by
    have all : ∀ ds : List D, ds.all (plain n) = true → PyData.canLayAll0 (toPys ds) = true ∧ PyData.depthAll (toPys ds) ≤ n := by
      intro ds
      induction ds with
      | nil => intro _; exact ⟨rfl, Nat.zero_le _⟩
      | cons d ds ih =>
        intro q
        rw [List.all_cons, Bool.and_eq_true] at q
        obtain ⟨a, b⟩ := lay_of n d q.1
        obtain ⟨c, e⟩ := ih q.2
        exact ⟨by show (PyData.canLay0 (toPy d) && PyData.canLayAll0 (toPys ds)) = true; rw [a, c]; rfl, Nat.max_le.mpr ⟨b, e⟩⟩
    obtain ⟨a, b⟩ := all xs p
    exact ⟨a, Nat.succ_le_succ b⟩
  | n, .obj _ _, p => by cases n <;> cases p
  | n, .fx _, p => by cases n <;> cases p
  | n, .scr _, p => by cases n <;> cases p
theorem shaped_of {d : D} (p : plain 20 d = true) : SeqAt.shaped (toPy d) = true := by
  obtain ⟨a, b⟩ := lay_of 20 d p
  show (PyData.canLay0 (toPy d) && decide ((toPy d).depth ≤ 64)) = true
  rw [a, decide_eq_true (by omega : (toPy d).depth ≤ 64)]
  rfl
theorem eqv_of : ∀ (n : Nat) (d e : D), plain n d = true → plain n e = true → PyData.eqv (toPy d) (toPy e) = eqD d e := by
  intro n
  induction n with
  | zero =>
    intro d e p q
    cases d <;> cases e <;> first | rfl | (cases p; done) | (cases q; done)
  | succ n ih =>
    have all : ∀ (ds es : List D), ds.all (plain n) = true → es.all (plain n) = true → PyData.eqvAll (toPys ds) (toPys es) = eqDs ds es := by
      intro ds
      induction ds with
      | nil => intro es _ _; cases es <;> rfl
      | cons d ds ih2 =>
        intro es p q
        cases es with
        | nil => rfl
        | cons e es =>
          rw [List.all_cons, Bool.and_eq_true] at p q
          show (PyData.eqv (toPy d) (toPy e) && PyData.eqvAll (toPys ds) (toPys es)) = (eqD d e && eqDs ds es)
          rw [ih d e p.1 q.1, ih2 es p.2 q.2]
    intro d e p q
    cases d <;> cases e <;> first | rfl | (cases p; done) | (cases q; done) | exact all _ _ p q
def gEq (d e : D) (F : D → Prop) : Prop := plain 20 d = true ∧ plain 20 e = true ∧ F (.bl (eqD d e))
def gNe (d e : D) (F : D → Prop) : Prop := plain 20 d = true ∧ plain 20 e = true ∧ F (.bl (!eqD d e))
theorem rd_eq {K : Fg} : RD K (rEqD K) gEq := fun H G x y d e F Q s rx ry ⟨p, q, f⟩ k =>
  ⟨_, _, dp_of s 20 rx p, dp_of s 20 ry q, shaped_of p, shaped_of q, k _ _ H G (Go.refl s .no) (by rw [eqv_of 20 d e p q]; exact .bl _) f⟩
theorem rd_ne {K : Fg} : RD K (rNeD K) gNe := fun H G x y d e F Q s rx ry ⟨p, q, f⟩ k =>
  ⟨_, _, dp_of s 20 rx p, dp_of s 20 ry q, shaped_of p, shaped_of q, k _ _ H G (Go.refl s .no) (by rw [eqv_of 20 d e p q]; exact .bl _) f⟩
/-! is None -/
def isNon : D → Bool
  | .non => true
  | _ => false
def gIsN (d e : D) (F : D → Prop) : Prop := match e with
  | .non => (∀ v, d ≠ .fx v) ∧ F (.bl (isNon d))
  | _ => False
def gNotN (d e : D) (F : D → Prop) : Prop := match e with
  | .non => (∀ v, d ≠ .fx v) ∧ F (.bl (!isNon d))
  | _ => False
theorem isNon_of {K : Fg} {G : Hp} {v : V} {d : D} (r : Rep K G v d) (h : ∀ v, d ≠ .fx v) : decide (v = .non) = isNon d := by
  cases r with
  | fx v => exact absurd rfl (h v)
  | non => rfl
  | bl _ => rfl
  | int _ => rfl
  | str _ => rfl
  | lst _ _ => rfl
  | tup _ _ => rfl
  | obj _ _ => rfl
  | scr _ _ => rfl
theorem rd_isN {K : Fg} : RD K (fun x y H Q => y = .non ∧ Q (.bl (decide (x = .non))) H) gIsN := fun H G x y d e F Q s rx ry h k => by
  unfold gIsN at h
  split at h
  · exact ⟨ry.non_of, k _ _ H G (Go.refl s .no) (by rw [isNon_of rx h.1]; exact .bl _) h.2⟩
  · exact h.elim
theorem rd_notN {K : Fg} : RD K (fun x y H Q => y = .non ∧ Q (.bl (!decide (x = .non))) H) gNotN := fun H G x y d e F Q s rx ry h k => by
  unfold gNotN at h
  split at h
  · exact ⟨ry.non_of, k _ _ H G (Go.refl s .no) (by rw [isNon_of rx h.1]; exact .bl _) h.2⟩
  · exact h.elim
/-! in -/
def flatD : D → Bool
  | .non => true
  | .bl _ => true
  | .int _ => true
  | .str _ => true
  | _ => false
theorem flat_of {K : Fg} {G : Hp} {v : V} {d : D} (r : Rep K G v d) (h : flatD d = true) : flatV v = true := by cases r <;> first | rfl | (cases h; done)
theorem flats_of {K : Fg} {G : Hp} : ∀ {vs : List V} {ds : List D}, RepL K G vs ds → ds.all flatD = true → vs.all flatV = true
  | _, _, .nil, _ => rfl
  | _, _, .cons a r, h => by
    rw [List.all_cons, Bool.and_eq_true] at h ⊢
    exact ⟨flat_of a h.1, flats_of r h.2⟩
theorem eqV_of {K : Fg} {G : Hp} {v u : V} {d e : D} (r : Rep K G v d) (q : Rep K G u e) (h : flatD d = true) (k : flatD e = true) : eqV v u = eqD d e := by
  cases r <;> first | (cases h; done) | (cases q <;> first | rfl | (cases k; done))
def inD (d : D) (ds : List D) : Bool := ds.any fun e => eqD e d
theorem inV_of {K : Fg} {G : Hp} {v : V} {d : D} (r : Rep K G v d) (h : flatD d = true) : ∀ {vs : List V} {ds : List D}, RepL K G vs ds → ds.all flatD = true → inV v vs = inD d ds
  | _, _, .nil, _ => rfl
  | _, _, .cons a q, k => by
    rw [List.all_cons, Bool.and_eq_true] at k
    show (eqV _ v || inV v _) = (eqD _ d || inD d _)
    rw [eqV_of a r k.1 h, inV_of r h q k.2]
def rInA (K : Fg) (neg : Bool) : R2 := fun x y H Q => rIn K neg x y H Q ∨ ∃ (c : Nat) (z : Str), x = .str ⟨#[c]⟩ ∧ y = .str z ∧ Q (.bl (if neg then !decide (c ∈ z.cps.toList) else decide (c ∈ z.cps.toList))) H
theorem op_inA {X : Cx} : OpR X (compareOp .In) (rInA X.K false) := op_in_seq.or op_in_sign
theorem op_notInA {X : Cx} : OpR X (compareOp .NotIn) (rInA X.K true) := op_notIn_seq.or op_notIn_sign
def gIn (neg : Bool) (d e : D) (F : D → Prop) : Prop := match e with
  | .lst ds => flatD d = true ∧ ds.all flatD = true ∧ F (.bl (if neg then !inD d ds else inD d ds))
  | .tup ds => flatD d = true ∧ ds.all flatD = true ∧ F (.bl (if neg then !inD d ds else inD d ds))
  | .str z => ∃ c : Nat, d = .str ⟨#[c]⟩ ∧ F (.bl (if neg then !decide (c ∈ z.cps.toList) else decide (c ∈ z.cps.toList)))
  | _ => False
theorem rd_in {K : Fg} {neg : Bool} : RD K (rInA K neg) (gIn neg) := fun H G x y d e F Q s rx ry h k => by
  unfold gIn at h
  split at h
  · obtain ⟨h1, h2, f⟩ := h
    obtain ⟨a, xs, e1, g1, r1⟩ := ry.lst_of
    exact .inl ⟨a, xs, e1, .inl (SqL.of (s _ _ g1)), flat_of rx h1, flats_of r1 h2, k _ _ H G (Go.refl s .no) (by rw [inV_of rx h1 r1 h2]; exact .bl _) f⟩
  · obtain ⟨h1, h2, f⟩ := h
    obtain ⟨a, xs, e1, g1, r1⟩ := ry.tup_of
    exact .inl ⟨a, xs, e1, .inr (same_t s g1), flat_of rx h1, flats_of r1 h2, k _ _ H G (Go.refl s .no) (by rw [inV_of rx h1 r1 h2]; exact .bl _) f⟩
  · obtain ⟨c, e1, f⟩ := h
    subst e1
    exact .inr ⟨c, _, rx.str_of, ry.str_of, k _ _ H G (Go.refl s .no) (.bl _) f⟩
  · exact h.elim
/-! xs[i], t[i], s[i] -/
def gIx (d e : D) (F : D → Prop) : Prop := match d, e with
  | .lst ds, .int i => ∃ r, atI ds i = some r ∧ F r
  | .tup ds, .int i => ∃ r, atI ds i = some r ∧ F r
  | .str z, .int i => z.length ≤ sizeLine ∧ ∃ c, atI z.cps.toList i = some c ∧ F (.str ⟨#[c]⟩)
  | _, _ => False
theorem RepL.atI {K : Fg} {G : Hp} {xs : List V} {ds : List D} (r : RepL K G xs ds) {i : Int} {d : D} (h : L2.atI ds i = some d) : ∃ v, L2.atI xs i = some v ∧ Rep K G v d := by
  unfold L2.atI at h ⊢
  rw [r.length]
  cases e : ixN ds.length i with
  | none => rw [e] at h; cases h
  | some j =>
    rw [e] at h
    exact r.get h
theorem rd_ix {K : Fg} : RD K (rIx K) gIx := fun H G x y d e F Q s rx ry h k => by
  unfold gIx at h
  split at h
  · rename_i ds i
    obtain ⟨r, h1, f⟩ := h
    obtain ⟨a, xs, e1, g1, r1⟩ := rx.lst_of
    obtain ⟨v, h2, r2⟩ := r1.atI h1
    exact .inl ⟨a, xs, i, v, e1, ry.int_of, SqL.of (s _ _ g1), h2, k _ _ H G (Go.refl s .no) r2 f⟩
  · rename_i ds i
    obtain ⟨r, h1, f⟩ := h
    obtain ⟨a, xs, e1, g1, r1⟩ := rx.tup_of
    obtain ⟨v, h2, r2⟩ := r1.atI h1
    exact .inr (.inl ⟨a, xs, i, v, e1, ry.int_of, same_t s g1, h2, k _ _ H G (Go.refl s .no) r2 f⟩)
  · rename_i z i
    obtain ⟨hz, c, h1, f⟩ := h
    exact .inr (.inr ⟨z, i, c, rx.str_of, ry.int_of, hz, h1, k _ _ H G (Go.refl s .no) (.str _) f⟩)
  · exact h.elim
section
variable {X : Cx} {c : Ct} {W : WX} {e a b : Expr} {es : List Expr} {pos p : Pos} {ma mb : ME} {ta tb : TE}
theorem de_ix (ha : DE X c W a ta ma) (hb : DE X c W b tb mb) (hs : PlainIx b) : DE X c W (.Subscript a b pos) (tOp (rIx X.K) ta tb) (mOp gIx ma mb) := ⟨pe_ix ix_seq ha.p hb.p hs, we_op rd_ix ha.w hb.w⟩
end
/-! slices -/
abbrev MO := List Sl → (Option Int → Prop) → XC → Prop
structure DO (X : Cx) (c : Ct) (W : WX) (e : Option Expr) (t : TO) (m : MO) : Prop where
  p : PO X e t
  w : ∀ H G σ δ (F : Option Int → Prop) (Y : XC) (Q : Option Int → Hp → Prop), Cr c H G → RS X.K c H G σ δ → m δ F Y → (∀ o H' G', Go c.dl H G H' G' → F o → Q o H') → XW X.K c H G σ Y W → t σ H Q
def moNone : MO := fun _ F _ => F none
def moSome (m : ME) : MO := fun δ F X => m δ (fun d => match d with
  | .int i => F (some i)
  | _ => False) X
def cutD {α : Type} (xs : List α) (lo hi : Option Int) : List α := (xs.drop (HT.sIx xs.length 0 lo)).take (HT.sIx xs.length xs.length hi - HT.sIx xs.length 0 lo)
def gSl (d : D) (lo hi : Option Int) (F : D → Prop) : Prop := match d with
  | .lst ds => F (.lst (cutD ds lo hi))
  | .tup ds => (¬ (HT.sIx ds.length 0 lo = 0 ∧ HT.sIx ds.length ds.length hi = ds.length) ∧ F (.tup (cutD ds lo hi))) ∨ False
  | .str z => z.length ≤ sizeLine ∧ F (.str (cutS z lo hi))
  | .scr ds => F (.lst (cutD ds lo hi))
  | _ => False
def mSl (ma : ME) (ml mh : MO) : ME := fun δ F X => ma δ (fun d => ml δ (fun lo => mh δ (fun hi => gSl d lo hi F) X) X) X
def rSlA (K : Fg) : V → Option Int → Option Int → Hp → VK → Prop := fun x lo hi H Q => rSlL K x lo hi H Q ∨ rSlT K x lo hi H Q ∨ rSlS x lo hi H Q
theorem sl_A {X : Cx} : SlR X (rSlA X.K) := sl_list.or (sl_tup.or sl_str)
theorem RepL.cut {K : Fg} {G : Hp} {xs : List V} {ds : List D} (r : RepL K G xs ds) (lo hi : Option Int) : RepL K G (cutV xs lo hi) (cutD ds lo hi) := by
  unfold cutV cutD
  rw [r.length]
  exact (r.drop _).take _
theorem r_sl {K : Fg} {H G : Hp} {x : V} {d : D} {lo hi : Option Int} {F : D → Prop} {Q : VK} (s : Same G H) (r : Rep K G x d) (h : gSl d lo hi F) (k : ∀ v d' H' G', Go none H G H' G' → Rep K G' v d' → F d' → Q v H') : rSlA K x lo hi H Q := by
  unfold gSl at h
  split at h
  · obtain ⟨a, xs, e1, g1, r1⟩ := r.lst_of
    refine .inl ⟨a, xs, e1, SqL.of (s _ _ g1), fun p hp => ?_⟩
    have g2 := Go.laid (o := .lst (cutV xs lo hi)) s hp
    exact k _ _ _ _ g2 (.lst upd_same ((r1.cut lo hi).mono g2.grow)) h
  · rcases h with h | h
    · obtain ⟨a, xs, e1, g1, r1⟩ := r.tup_of
      refine .inr (.inl ⟨a, xs, e1, same_t s g1, by rw [r1.length]; exact h.1, fun p hp => ?_⟩)
      have g2 := Go.laid (o := .tup (cutV xs lo hi)) s hp
      exact k _ _ _ _ g2 (.tup (SqT.of upd_same) ((r1.cut lo hi).mono g2.grow)) h.2
    · exact h.elim
  · exact .inr (.inr ⟨_, r.str_of, h.1, k _ _ H G (Go.refl s .no) (.str _) h.2⟩)
  · obtain ⟨a, xs, e1, g1, r1⟩ := r.scr_of
    refine .inl ⟨a, xs, e1, same_l s g1, fun p hp => ?_⟩
    have g2 := Go.laid (o := .lst (cutV xs lo hi)) s hp
    exact k _ _ _ _ g2 (.lst upd_same ((r1.cut lo hi).mono g2.grow)) h
  · exact h.elim
section
variable {X : Cx} {c : Ct} {W : WX} {e a b : Expr} {es : List Expr} {pos p p2 : Pos} {ma mb : ME} {ta tb : TE} {lo hi : Option Expr} {tl th : TO} {ml mh : MO}
theorem do_none : DO X c W none tNoPart moNone := ⟨po_none, fun H G σ δ F Y Q cr rs h q _ => q none H G cr.rfl' h⟩
theorem do_some (h : DE X c W e ta ma) : DO X c W (some e) (tPart ta) (moSome ma) := ⟨po_some h.p, fun H G σ δ F Y Q cr rs hm q x => by
  refine h.w H G σ δ _ _ _ cr rs hm (fun v d H' G' g r f => ?_) x
  split at f
  · exact ⟨_, r.int_of, q _ H' G' g f⟩
  · exact f.elim⟩
theorem de_sl (ha : DE X c W a ta ma) (hl : DO X c W lo tl ml) (hh : DO X c W hi th mh) : DE X c W (.Subscript a (.Slice lo hi none p2) pos) (tSl (rSlA X.K) ta tl th) (mSl ma ml mh) := by
  refine ⟨pe_slice sl_A ha.p hl.p hh.p, fun H G σ δ F Y Q cr rs hm q x => ?_⟩
  refine ha.w H G σ δ _ _ _ cr rs hm (fun v d H1 G1 g1 r1 h1 => ?_) x
  refine hl.w H1 G1 σ δ _ _ _ (cr.step g1) (rs.step cr g1) h1 (fun o H2 G2 g2 h2 => ?_) (x.step g1)
  have g12 := g1.trans g2
  refine hh.w H2 G2 σ δ _ _ _ (cr.step g12) (rs.step cr g12) h2 (fun o2 H3 G3 g3 h3 => ?_) (x.step g12)
  exact r_sl g3.sub ((r1.mono g2.grow).mono g3.grow) h3 fun v d' H' G' g4 r4 f => q v d' H' G' ((g12.trans g3).trans (g4.lift g3.deal)) r4 f
/-- x[::-1] of a list -/
def mRev (ma : ME) : ME := fun δ F X => ma δ (fun d => match d with
  | .lst ds => F (.lst ds.reverse)
  | _ => False) X
theorem de_rev {k : Nat} {p1 p3 : Pos} (ha : DE X c W a ta ma) : DE X c W (.Subscript a (.Slice none none (some (.UnaryOp .USub (.Constant (.int 1) k p1) p2)) p3) pos) (tRevL X.K ta) (mRev ma) := by
  refine ⟨pe_revL ha.p, fun H G σ δ F Y Q cr rs hm q x => ?_⟩
  refine ha.w H G σ δ _ _ _ cr rs hm (fun v d H1 G1 g1 r1 h1 => ?_) x
  split at h1
  · obtain ⟨b, xs, e1, g2, r2⟩ := r1.lst_of
    refine ⟨b, xs, e1, SqL.of (g1.sub _ _ g2), fun p hp => ?_⟩
    have g3 := Go.laid (o := .lst xs.reverse) g1.sub hp
    exact q _ _ _ _ (g1.trans (g3.lift g1.deal)) (.lst upd_same (r2.rev.mono g3.grow)) h1
  · exact h1.elim
end
/-! list * int -/
def gRep (d e : D) (F : D → Prop) : Prop := match d, e with
  | .int i, .int j => CMul i j ∧ F (.int (i * j))
  | .lst ds, .int k => -(2 ^ 63) ≤ k ∧ k < 2 ^ 63 ∧ ds.length * k.toNat ≤ sizeLine ∧ F (.lst (List.replicate k.toNat ds).flatten)
  | _, _ => False
def rMulA : R2 := fun x y H Q => rI CMul (fun i j => .int (i * j)) x y H Q ∨ rRep x y H Q
theorem op_mulA {X : Cx} : OpR X (binaryOp .Mult) rMulA := op_mul.or op_rep
theorem rd_mul {K : Fg} : RD K rMulA gRep := fun H G x y d e F Q s rx ry h k => by
  unfold gRep at h
  split at h
  · rename_i i j
    exact .inl ⟨i, j, rx.int_of, ry.int_of, h.1, k _ _ H G (Go.refl s .no) (.int _) h.2⟩
  · rename_i ds n
    obtain ⟨a, xs, e1, g1, r1⟩ := rx.lst_of
    refine .inr ⟨a, n, xs, e1, ry.int_of, s _ _ g1, h.1, h.2.1, by rw [r1.length]; exact h.2.2.1, fun p hp => ?_⟩
    have g2 := Go.laid (o := .lst (List.replicate n.toNat xs).flatten) s hp
    exact k _ _ _ _ g2 (.lst upd_same ((r1.rep _).mono g2.grow)) h.2.2.2
  · exact h.elim
end DL

set_option Elab.async false
set_option linter.all false
set_option maxRecDepth 100000
set_option maxHeartbeats 4000000
namespace DL
open PySem L2 PySem.Spec PyProof.Rows

/-! ### len(set(texts)) -/
def ddS (acc : List Str) : List Str → List Str
  | [] => acc
  | x :: xs => if x ∈ acc then ddS acc xs else ddS (acc ++ [x]) xs
theorem ddS_append (ys : List Str) (y : Str) : ∀ acc, ddS acc (ys ++ [y]) = if y ∈ ddS acc ys then ddS acc ys else ddS acc ys ++ [y] := by
  induction ys with
  | nil => intro acc; rfl
  | cons x xs ih =>
    intro acc
    show (if x ∈ acc then ddS acc (xs ++ [y]) else ddS (acc ++ [x]) (xs ++ [y])) = _
    by_cases h : x ∈ acc
    · rw [if_pos h, ih acc]
      show _ = if y ∈ (if x ∈ acc then ddS acc xs else ddS (acc ++ [x]) xs) then _ else _
      rw [if_pos h]
      show _ = if _ then (if x ∈ acc then ddS acc xs else ddS (acc ++ [x]) xs) else (if x ∈ acc then ddS acc xs else ddS (acc ++ [x]) xs) ++ [y]
      rw [if_pos h]
    · rw [if_neg h, ih (acc ++ [x])]
      show _ = if y ∈ (if x ∈ acc then ddS acc xs else ddS (acc ++ [x]) xs) then _ else _
      rw [if_neg h]
      show _ = if _ then (if x ∈ acc then ddS acc xs else ddS (acc ++ [x]) xs) else (if x ∈ acc then ddS acc xs else ddS (acc ++ [x]) xs) ++ [y]
      rw [if_neg h]
theorem ddS_len (xs : List Str) : ∀ acc, (ddS acc xs).length ≤ acc.length + xs.length := by
  induction xs with
  | nil => intro acc; exact Nat.le_refl _
  | cons x xs ih =>
    intro acc
    show (if x ∈ acc then ddS acc xs else ddS (acc ++ [x]) xs).length ≤ _
    rw [List.length_cons]
    split
    · have := ih acc
      omega
    · have := ih (acc ++ [x])
      rw [List.length_append, List.length_singleton] at this
      omega
def hasS (xs : List Str) (k : Str) : Bool := decide (k ∈ ddS [] xs)
section
variable {pg : Program} {wo : World} {Ar : Around} {Rs : Result → Shared → Prop} {It : Addr} {fp wr : List Addr} {Gn : Array GenState → Array GenState → Prop} {n : Nat} {Pi : Nat → Value → Prop} {St : Nat → Shared → Prop}
theorem set_loopT (Wk : WalksS pg wo Ar.in1 It fp wr Gn n Pi St) (S : Addr) (nf : S ∉ fp) (xs : List Str) (el : xs.length = n) (few : n + 1 < scanBound)
    (iv : ∀ i v, Pi i v → ∃ t, v = .str (xs.getD i Str.empty) t) : ∀ (d i : Nat) (z : Shared), n - i = d → i ≤ n → St i z → z.heap.SetOf (strKind pg wo) S (hasS (xs.take i)) (ddS [] (xs.take i)).length →
      (∀ z', Moved (S :: wr) Gn z z' → z'.heap.SetOf (strKind pg wo) S (hasS xs) (ddS [] xs).length → Rs (.ok (.ret .none)) z') → codeAny (model pg wo) Ar (.builtin "set.update.loop" ⟨[.ref S, .ref It], []⟩) Rs z := by
  have nw : S ∉ wr := fun h => nf (Wk.sub _ h)
  have up : ∀ b ∈ wr, b ∈ S :: wr := fun b hb => List.mem_cons_of_mem _ hb
  intro d
  induction d with
  | zero =>
    intro i z hd hi at_ has fin
    obtain rfl : i = n := by omega
    refine codeAny_builtin F.entry_set_update_loop ?_
    rw [Around.under_plainId F.plain_set_update_loop _]
    show wpAny _ Ar.in1 (pyNext (.ref It) >>= _) _ _ z
    refine wpAny_bind (Wk.done z _ _ at_ fun z' mv => ?_)
    show wpAny _ Ar.in1 (ret Value.none) _ _ z'
    refine wpAny_pure (fin z' (mv.mono up) ?_)
    rw [List.take_of_length_le (Nat.le_of_eq el)] at has
    obtain ⟨o, es, ep, t, ho, more⟩ := has
    exact ⟨o, es, ep, t, mv.heap S _ nw ho, more⟩
  | succ d ih =>
    intro i z hd hi at_ has fin
    have lt : i < n := by omega
    have ltx : i < xs.length := by omega
    have eg : xs.getD i Str.empty = xs[i] := by rw [List.getD_eq_getElem?_getD, List.getElem?_eq_getElem ltx]; rfl
    have et : xs.take (i + 1) = xs.take i ++ [xs[i]] := by rw [List.take_succ, List.getElem?_eq_getElem ltx]; rfl
    refine codeAny_builtin F.entry_set_update_loop ?_
    rw [Around.under_plainId F.plain_set_update_loop _]
    show wpAny _ Ar.in1 (pyNext (.ref It) >>= _) _ _ z
    refine wpAny_bind (Wk.item i z _ _ lt at_ fun v z' pv at' mv => ?_)
    obtain ⟨t, rfl⟩ := iv i v pv
    have has' : z'.heap.SetOf (strKind pg wo) S (hasS (xs.take i)) (ddS [] (xs.take i)).length := by
      obtain ⟨o, es, ep, tb, ho, more⟩ := has
      exact ⟨o, es, ep, tb, mv.heap S _ nw ho, more⟩
    rw [eg]
    show wpAny _ Ar.in1 (holding [Value.str xs[i] t] (setAdd S (.str xs[i] t)) >>= _) _ _ z'
    refine wpAny_bind (wpAny_holding ?_)
    unfold setAdd
    refine wpAny_holding ?_
    refine wpAny_bind ((strKind pg wo).pyHash (k := xs[i]) (strKind_is _ _ _ _) ?_)
    have room : (ddS [] (xs.take i)).length + 1 < scanBound := by
      have h1 := ddS_len (xs.take i) []
      have h2 : (xs.take i).length ≤ i := by rw [List.length_take]; exact Nat.min_le_left _ _
      have h3 : ([] : List Str).length = 0 := rfl
      omega
    refine wpAny_setAddHashed_of (knd := strKind pg wo) (s := { z' with toks := z'.toks + 1 }) (strKind_is _ _ _ _) rfl has' room fun h' sb has2 => ?_
    have next : h'.SetOf (strKind pg wo) S (hasS (xs.take (i + 1))) (ddS [] (xs.take (i + 1))).length := by
      refine SetOf_congr has2 (fun k => ?_) ?_
      · unfold hasS
        rw [et, ddS_append]
        by_cases h : xs[i] ∈ ddS [] (xs.take i)
        · rw [if_pos h]
          by_cases q : k = xs[i]
          · subst q
            simp [h]
          · simp [q]
        · rw [if_neg h]
          simp [List.mem_append]
      · rw [et, ddS_append]
        unfold hasS
        by_cases h : xs[i] ∈ ddS [] (xs.take i)
        · rw [if_pos h, if_pos (decide_eq_true h)]
        · rw [if_neg h, if_neg (by simpa using h), List.length_append, List.length_singleton]
    refine wpAny_pure ⟨plainId_quiet F.plain_set_update_loop _, ih (i + 1) _ (by omega) lt (Wk.frame _ z' _ _ at' (Nat.le_succ _) fun b hb o e => ?_) next fun z2 mv2 has3 => ?_⟩
    · rw [sb.2 b fun q : b = S => nf (by rw [← q]; exact hb)]
      exact e
    · refine fin z2 (Moved.trans Wk.gtrans ((mv.mono up).then_heap (Nat.le_succ _) fun b o hb e => ?_) mv2) has3
      rw [sb.2 b fun q : b = S => hb (by rw [q]; exact List.mem_cons_self)]
      exact e
end
section
variable {pg : Program} {wo : World} {Ar : Around} {Er : Value → Shared → Prop} {st : Shared}
/-- set(x) for any x that has an iterator of texts -/
theorem set_of_texts {l : Addr} {xs : List Str} {Q : Value → Shared → Prop} {T : String} {ol : Obj} (hh : Ar.handled = none) (few : xs.length + 1 < scanBound) (hol : st.heap.get? l = some ol) (hT : ol.cls = .type T)
    (n1 : isSubtype (.type T) (.type "set") = pure false) (n2 : isSubtype (.type T) (.type "frozenset") = pure false) (n3 : (Value.type T == Value.type "dict") = false)
    (itr : ∀ (led : Bool) (A2 : Around) (E2 : Value → Shared → Prop) (Q2 : Value → Shared → Prop), A2.handled = none →
      (∀ (hp : Heap) (It : Addr) (fp wr : List Addr) (Gn : Array GenState → Array GenState → Prop) (Pi : Nat → Value → Prop) (St : Nat → Shared → Prop),
        (∀ b o, (st.heap.push { cls := .type "set", dict := none, data := .set #[] 0 (.fresh 0 0 led) }).get? b = some o → hp.get? b = some o) → (∀ A3 : Around, A3.handled = none → WalksS pg wo A3 It fp wr Gn xs.length Pi St) → st.heap.objs.size ∉ fp →
        (∀ g1 g2, Gn g1 g2 → g2 = g1) → (∀ b ∈ wr, st.heap.objs.size < b) → (∀ i v, Pi i v → ∃ t, v = .str (xs.getD i Str.empty) t) → St 0 { st with heap := hp } → Q2 (.ref It) { st with heap := hp }) →
      wpAny (model pg wo) A2 (pyIter (.ref l)) Q2 E2 { st with heap := st.heap.push { cls := .type "set", dict := none, data := .set #[] 0 (.fresh 0 0 led) } })
    (h : ∀ (h' : Heap) (tk : Nat), h'.SetOf (strKind pg wo) st.heap.objs.size (hasS xs) (ddS [] xs).length → (∀ b o, b < st.heap.objs.size → st.heap.get? b = some o → h'.get? b = some o) → Q (.ref st.heap.objs.size) { st with heap := h', toks := tk }) :
    wpAny (model pg wo) Ar (call (.type "set") [.ref l]) Q Er st := by
  obtain ⟨c0, t0, m0⟩ := PySem.F.called_set.mro
  have m1 := PySem.F.called_set.made
  have m2 := PySem.F.called_set.sub
  refine wpAny_call (codeAny_of_tree ?_)
  show wpAny _ _ (callAny (.type "set") _) _ _ _
  refine wpAny_pure ⟨Code.quiet_builtin _ (by decide +kernel), codeAny_builtin PySem.F.entry_type_call ?_⟩
  rw [Around.under_plain (weight_type_call_type "set" [.ref l] []) rfl]
  have m3 := PySem.F.called_set.notType
  have m4 := PySem.F.called_set.canCreate
  have m5 := PySem.F.typeCall_set_1 (.ref l)
  repeat (any_goals (first | assumption | wp_step))
  refine codeAny_mono (code_set_new_1 (.ref l) (E := Er) (Q₁ := fun ob z => ∃ led : Bool, ob = .ref st.heap.objs.size ∧ z = { st with heap := st.heap.push { cls := .type "set", dict := none, data := .set #[] 0 (.fresh 0 0 led) } }) fun led => ⟨led, rfl, rfl⟩) fun r z hr => ?_
  cases r with
  | error e => exact hr
  | ok fl =>
    cases fl with
    | ret ob =>
      obtain ⟨led, rfl, rfl⟩ := hr
      have hS : (st.heap.push { cls := .type "set", dict := none, data := .set #[] 0 (.fresh 0 0 led) }).get? st.heap.objs.size = some { cls := .type "set", dict := none, data := .set #[] 0 (.fresh 0 0 led) } := Heap.get?_push_size _ rfl
      have tyS : Shared.TypeIs { st with heap := st.heap.push { cls := .type "set", dict := none, data := .set #[] 0 (.fresh 0 0 led) } } (.ref st.heap.objs.size) "set" := ⟨_, hS, rfl⟩
      have m6 := PySem.F.called_set.init.lookup
      have m7 := PySem.F.called_set.init.bind (.ref st.heap.objs.size)
      repeat (any_goals (first | assumption | wp_step))
      refine codeAny_mono (codeAny_call_builtin (R := wants (fun v z2 => v = .none ∧ ∃ h' tk, z2 = { st with heap := h', toks := tk } ∧ h'.SetOf (strKind pg wo) st.heap.objs.size (hasS xs) (ddS [] xs).length ∧
          (∀ b o, b < st.heap.objs.size → st.heap.get? b = some o → h'.get? b = some o)) Er) PySem.F.called_set.init.plain PySem.F.entry_set_init (check_set_init_1 tyS ?_)) fun r2 z2 hr2 => ?_
      · obtain ⟨oc, od, oda, osl⟩ := ol
        dsimp only at hT
        subst hT
        have hol2 : (st.heap.push { cls := .type "set", dict := none, data := .set #[] 0 (.fresh 0 0 led) }).get? l = some { cls := .type T, dict := od, data := oda, slots := osl } := Heap.get?_push_of_some _ hol
        unfold Builtin.«set.__init__» noKeywords Builtin.Frozenset.updateFrom
        generalize hPI : pyIter = PI
        wp_walk
        subst hPI
        refine itr led _ _ _ (by simp [hh]) fun hp It fp wr Gn Pi St kp Wk nf ge wb iv st0 => ?_
        refine wpAny_bind (wpAny_runValue ?_)
        refine set_loopT (Wk _ (by simp [hh])) st.heap.objs.size nf xs rfl few iv (xs.length - 0) 0 _ (by omega) (Nat.zero_le _) st0 ?_ ?_
        · exact SetOf_congr ((setObjOf_fresh (knd := strKind pg wo) led).setOf (kp _ _ hS) (by unfold scanBound; omega)) (fun _ => rfl) rfl
        · intro z' mv has
          obtain ⟨h', g', d', tk', os'⟩ := z'
          have eg : g' = st.gens := ge _ _ mv.gens
          have ed : d' = st.drawn := mv.drawn
          have eo : os' = st.os := mv.os
          subst eg ed eo
          show wpAny _ _ _ _ _ _
          refine wpAny_pure ?_
          show wpAny _ _ (ret Value.none) _ _ _
          refine wpAny_pure ⟨rfl, h', tk', rfl, has, fun b o hb e => mv.heap b o (fun q => ?_) (kp _ _ (Heap.get?_push_of_some _ e))⟩
          rcases List.mem_cons.mp q with q | q
          · exact Nat.ne_of_lt hb q
          · exact absurd (Nat.lt_trans hb (wb b q)) (Nat.lt_irrefl _)
      · cases r2 with
        | error e => exact hr2
        | ok f2 =>
          cases f2 with
          | ret v =>
            obtain ⟨rfl, h', tk, rfl, has, kp⟩ := hr2
            repeat (any_goals (first | assumption | wp_step))
            exact h _ _ has kp
          | _ => exact hr2.elim
    | _ => exact hr.elim
end
end DL

set_option Elab.async false
set_option linter.all false
set_option maxRecDepth 100000
set_option maxHeartbeats 4000000
namespace DL
open PySem L2 PySem.Spec PyProof.Rows

/-! ### len(set(x)) of texts -/
def strsD : List D → Option (List Str)
  | [] => some []
  | .str x :: ds => (strsD ds).map (x :: ·)
  | _ :: _ => none
theorem strs_of {K : Fg} {G : Hp} : ∀ {vs : List V} {ds : List D} {xs : List Str}, RepL K G vs ds → strsD ds = some xs → vs = xs.map V.str
  | _, _, _, .nil, e => by cases e; rfl
  | _, _, _, .cons (d := d) a r, e => by
    cases d with
    | str b =>
      have e : (strsD _).map (b :: ·) = some _ := e
      cases q : strsD _ with
      | none => rw [q] at e; cases e
      | some cs =>
        rw [q] at e
        cases e
        rw [a.str_of, strs_of r q]
        rfl
    | _ => cases e
def seqD : D → Option (List D)
  | .lst ds => some ds
  | .tup ds => some ds
  | _ => none
section
variable {X : Cx} {c : Ct} {W : WX} {e a b : Expr} {es : List Expr} {pos p p2 q : Pos} {x : Str} {ma mb : ME} {ta tb : TE} {mr : MA} {tr : TA}
def tLenSetT (K : Fg) (ta : TE) : TE := fun σ H Q => ta σ H fun x H1 => ∃ (l : Addr) (xs : List Str), x = .ref l ∧ (SqL K H1 l (xs.map V.str) ∨ SqT K H1 l (xs.map V.str)) ∧ xs.length + 1 < scanBound ∧ Q (.int (ddS [] xs).length) H1
theorem pe_lenSetT (hc : X.calm = true) (hg : Gl X "len") (hm : X.mg "len" = none) (hg2 : Gl X "set") (hm2 : X.mg "set" = none) (ha : PE X a ta)
    (na : starEach [a] X.env = (false, eval a X.env) :: starEach [] X.env := by rfl) : PE X (.Call (.Name "len" p) [.Call (.Name "set" p2) [a] [] q] [] pos) (tLenSetT X.K ta) := by
  refine ⟨fun pins s σ H Q I h => ?_⟩
  refine Call_ (ld_blt I hg hm boot_len ?_)
  refine PyProof.Rows.callWith_builtin1 (PyProof.Rows.args_cons ?_ rfl) rfl rfl
  refine Call_ (ld_blt I hg2 hm2 boot_set ?_)
  refine PyProof.Rows.callWith_type1 (PyProof.Rows.args_cons (thn (ha.run pins s σ H _ I h) fun v z ⟨y, H1, I1, r1, q1⟩ => PyProof.Rows.args_nil ?_) na) na rfl
  obtain ⟨l, xs, rfl, hq, few, q1⟩ := q1
  cases r1
  have hh := I1.ok.hd hc
  have fin : ∀ (h' : Heap) (tk : Nat), h'.SetOf (strKind X.prog X.w) z.heap.objs.size (hasS xs) (ddS [] xs).length → (∀ b o, b < z.heap.objs.size → z.heap.get? b = some o → h'.get? b = some o) →
      wpAny (model X.prog X.w) X.A (spliced (backTo pos (starEach [] X.env))) (fun vs s2 => wpAny (model X.prog X.w) X.A (call (.builtin "len") (Value.ref z.heap.objs.size :: vs)) (EP X pins σ Q) X.xe s2) X.xe { z with heap := h', toks := tk } := fun h' tk hS hk => by
    refine PyProof.Rows.args_nil ?_
    obtain ⟨o, es, ep, t, ho, hex, hd, _, _, _, hf, hn⟩ := hS
    have I2 : Inv X pins σ H1 { z with heap := h', toks := tk } := I1.kept fun b o e => hk b o (Heap.lt_size e) e
    have le := ddS_len xs []
    refine call_len_set ho hex hd hf (by rw [hn]; unfold scanBound at few; simp at le; omega) ⟨.int (ddS [] xs).length, H1, I2.tok _, ⟨_, by rw [hn]⟩, q1⟩
  have szS : ∀ led : Bool, (z.heap.push { cls := .type "set", dict := none, data := .set #[] 0 (.fresh 0 0 led) }).objs.size = z.heap.objs.size + 1 := fun led => Heap.size_push _ _
  rcases hq with hq | hq
  · obtain ⟨its, r, pl, hz⟩ := I1.list hq
    have pl' := pl.isList
    obtain ⟨ol, hol, hcl, _⟩ := id pl'
    refine set_of_texts hh few hol hcl PySem.F.sub_list_set PySem.F.sub_list_frozenset (by decide) (fun led A2 E2 Q2 hA k => ?_) fin
    have lt : l < z.heap.objs.size := Heap.lt_size hol
    have hl1 : (z.heap.push { cls := .type "set", dict := none, data := .set #[] 0 (.fresh 0 0 led) }).IsList l its.toArray := pl'.push _
    refine wpAny_pyIter_list (s := { z with heap := z.heap.push { cls := .type "set", dict := none, data := .set #[] 0 (.fresh 0 0 led) } }) hl1 ?_
    have sz : its.toArray.size = xs.length := by rw [List.size_toArray, ← r.length, List.length_map]
    have sa : StrsAre its xs := strsAre_of r
    have ne : l ≠ (z.heap.push { cls := .type "set", dict := none, data := .set #[] 0 (.fresh 0 0 led) }).objs.size := by rw [szS]; exact Nat.ne_of_lt (Nat.lt_succ_of_lt lt)
    refine k _ _ [(z.heap.push { cls := .type "set", dict := none, data := .set #[] 0 (.fresh 0 0 led) }).objs.size, l] [(z.heap.push { cls := .type "set", dict := none, data := .set #[] 0 (.fresh 0 0 led) }).objs.size] (fun a b => b = a) (fun i v => its.toArray[i]? = some v) (fun i z2 => z2.heap.IsListIter (z.heap.push { cls := .type "set", dict := none, data := .set #[] 0 (.fresh 0 0 led) }).objs.size l i ∧ z2.heap.IsList l its.toArray)
      (fun b o e => Heap.get?_push_of_some _ e) (fun A3 hA3 => ?_) ?_ (fun _ _ e => e) ?_ (fun i v hv => SS.strs_at sa i v (by simpa using hv)) ⟨⟨_, Heap.get?_push_size _ rfl, rfl, rfl⟩, hl1.push _⟩
    · rw [← sz]
      exact (Walks.list hA3 _ l ne its.toArray).toS
    · rw [szS]
      simp only [List.mem_cons, List.mem_singleton, List.not_mem_nil, or_false, not_or]
      exact ⟨Nat.ne_of_lt (Nat.lt_succ_self _), Nat.ne_of_gt lt⟩
    · intro b hb
      rw [szS] at hb
      simp only [List.mem_singleton] at hb
      rw [hb]
      exact Nat.lt_succ_self _
  · obtain ⟨its, r, pl, hz⟩ := I1.tuple hq
    obtain ⟨ol, hol, hcl, _⟩ := id pl
    refine set_of_texts hh few hol hcl PySem.F.sub_tuple_set PySem.F.sub_tuple_frozenset (by decide) (fun led A2 E2 Q2 hA k => ?_) fin
    have lt : l < z.heap.objs.size := Heap.lt_size hol
    have hl1 : (z.heap.push { cls := .type "set", dict := none, data := .set #[] 0 (.fresh 0 0 led) }).IsTuple l its.toArray := pl.push _
    refine wpAny_pyIter_tuple (s := { z with heap := z.heap.push { cls := .type "set", dict := none, data := .set #[] 0 (.fresh 0 0 led) } }) hl1 ?_
    have sz : its.toArray.size = xs.length := by rw [List.size_toArray, ← r.length, List.length_map]
    have sa : StrsAre its xs := strsAre_of r
    have ne : l ≠ (z.heap.push { cls := .type "set", dict := none, data := .set #[] 0 (.fresh 0 0 led) }).objs.size := by rw [szS]; exact Nat.ne_of_lt (Nat.lt_succ_of_lt lt)
    refine k _ _ [(z.heap.push { cls := .type "set", dict := none, data := .set #[] 0 (.fresh 0 0 led) }).objs.size, l] [(z.heap.push { cls := .type "set", dict := none, data := .set #[] 0 (.fresh 0 0 led) }).objs.size] (fun a b => b = a) (fun i v => its.toArray[i]? = some v) (fun i z2 => z2.heap.IsTupleIter (z.heap.push { cls := .type "set", dict := none, data := .set #[] 0 (.fresh 0 0 led) }).objs.size l i ∧ z2.heap.IsTuple l its.toArray)
      (fun b o e => Heap.get?_push_of_some _ e) (fun A3 hA3 => ?_) ?_ (fun _ _ e => e) ?_ (fun i v hv => SS.strs_at sa i v (by simpa using hv)) ⟨⟨_, Heap.get?_push_size _ rfl, rfl, rfl⟩, hl1.push _⟩
    · rw [← sz]
      exact (Walks.tuple hA3 _ l ne its.toArray).toS
    · rw [szS]
      simp only [List.mem_cons, List.mem_singleton, List.not_mem_nil, or_false, not_or]
      exact ⟨Nat.ne_of_lt (Nat.lt_succ_self _), Nat.ne_of_gt lt⟩
    · intro b hb
      rw [szS] at hb
      simp only [List.mem_singleton] at hb
      rw [hb]
      exact Nat.lt_succ_self _
def mLenSet (ma : ME) : ME := fun δ F X => ma δ (fun d => ∃ ds xs, seqD d = some ds ∧ strsD ds = some xs ∧ xs.length + 1 < scanBound ∧ F (.int (ddS [] xs).length)) X
theorem de_lenSet (hc : X.calm = true) (hg : Gl X "len") (hm : X.mg "len" = none) (hg2 : Gl X "set") (hm2 : X.mg "set" = none) (ha : DE X c W a ta ma)
    (na : starEach [a] X.env = (false, eval a X.env) :: starEach [] X.env := by rfl) : DE X c W (.Call (.Name "len" p) [.Call (.Name "set" p2) [a] [] q] [] pos) (tLenSetT X.K ta) (mLenSet ma) := by
  refine ⟨pe_lenSetT hc hg hm hg2 hm2 ha.p na, fun H G σ δ F Y Q cr rs h k x => ?_⟩
  refine ha.w H G σ δ _ _ _ cr rs h (fun v d H' G' g r f => ?_) x
  obtain ⟨ds, xs, e1, e2, few, f⟩ := f
  cases d with
  | lst ds' =>
    cases e1
    obtain ⟨a, vs, e3, g1, r1⟩ := r.lst_of
    exact ⟨a, xs, e3, .inl (SqL.of (by rw [← strs_of r1 e2]; exact g.sub _ _ g1)), few, k _ _ H' G' g (.int _) f⟩
  | tup ds' =>
    cases e1
    obtain ⟨a, vs, e3, g1, r1⟩ := r.tup_of
    exact ⟨a, xs, e3, .inr (by rw [← strs_of r1 e2]; exact same_t g.sub g1), few, k _ _ H' G' g (.int _) f⟩
  | _ => cases e1

/-! ### isinstance -/
/-- what a class must say, that isinstance asks its instances rightly -/
structure IsC (K : Fg) (C : Addr) : Prop where
  cl : Cls K C
  ha : PySem.W.findIn K (.ref C) "__class__" = some (some (.builtin "object.__class__"))
  hn : PySem.W.specialIn K (.builtin "object.__class__") "__get__" = some (some (.builtin "getset_descriptor.__get__"))
  ht : PySem.W.takesIn K (.builtin "object.__class__") = some true
  hm : PySem.W.mroIn K C (.type "object") = some true
def TyD (K : Fg) (d : D) (t : Value) : Prop := match d with
  | .non => t = .type "NoneType"
  | .bl _ => t = .type "bool"
  | .int _ => t = .type "int"
  | .str _ => t = .type "str"
  | .lst _ => t = .type "list"
  | .tup _ => t = .type "tuple"
  | .obj C _ => t = .ref C ∧ IsC K C
  | .fx _ => False
  | .scr _ => False
theorem tyx_of {K : Fg} {G H : Hp} (s : Same G H) {v : V} {d : D} {t : Value} (r : Rep K G v d) (h : TyD K d t) : TyX K H v t := by
  cases r with
  | non => cases h; exact .base .non
  | bl b => cases h; exact .base (.bl b)
  | int i => cases h; exact .base (.int i)
  | str y => cases h; exact .base (.str y)
  | lst h1 _ => cases h; exact .base (.lst (s _ _ h1))
  | tup h1 _ =>
    cases h
    rcases h1 with (h1 | ⟨o, h1⟩) | ⟨o, its, n, k, c, _⟩
    · exact .base (.tup (s _ _ h1))
    · exact .fTuple (s _ _ h1)
    · exact .kTuple k c
  | obj h1 _ =>
    obtain ⟨rfl, q⟩ := h
    exact .base (.ins (s _ _ h1) q.cl q.ha q.hn q.ht q.hm)
  | fx _ => exact h.elim
  | scr _ _ => exact h.elim
def gIsi (K : Fg) (ds : List D) (F : D → Prop) : Prop := match ds with
  | [d, .fx c] => ∃ t u b, ClsV c u ∧ TyD K d t ∧ PySem.W.kitOne K t u = some b ∧ F (.bl b)
  | _ => False
theorem cd_isi {K : Fg} : CD K (rIsi K) (gIsi K) := fun H G vs ds F Q s r h q => by
  unfold gIsi at h
  split at h
  · obtain ⟨t, u, b, c1, c2, c3, f⟩ := h
    obtain ⟨v, w, e1, r1, r2⟩ := r.two
    rw [e1, r2.fx_of]
    exact ⟨v, _, t, u, b, rfl, c1, tyx_of s r1 c2, c3, q _ _ H G (Go.refl s .no) (.bl _) f⟩
  · exact h.elim
def mIsiT (K : Fg) (ma : ME) (mr : MA) : ME := fun δ F X => ma δ (fun d => mr δ (fun es => ∃ cs us t b, es = cs.map D.fx ∧ es.length ≤ sizeLine ∧ Paired ClsV cs us ∧ TyD K d t ∧ PySem.W.kitAny K t us = some b ∧ F (.bl b)) X) X
theorem fxs_of {K : Fg} {G : Hp} : ∀ {vs cs : List V}, RepL K G vs (cs.map D.fx) → vs = cs
  | _, [], .nil => rfl
  | _, _ :: _, .cons a r => by rw [a.fx_of, fxs_of r]
theorem de_isiT {k : Nat} {pt : Pos} (hg : Gl X "isinstance") (hm : X.mg "isinstance" = none) (ha : DE X c W a ta ma) (hr : DA X c W es tr mr)
    (h2 : starEach [.Tuple es k pt] X.env = (false, eval (.Tuple es k pt) X.env) :: starEach [] X.env := by rfl)
    (h1 : starEach [a, .Tuple es k pt] X.env = (false, eval a X.env) :: starEach [.Tuple es k pt] X.env := by rfl) (hpl : (backTo pos (starEach [.Tuple es k pt] X.env)).any (·.1) = false := by rfl) :
    DE X c W (.Call (.Name "isinstance" p) [a, .Tuple es k pt] [] pos) (tCB (rIsiT X.K) (tCons ta (tCons (tTup tr) tNil))) (mIsiT X.K ma mr) := by
  refine ⟨pe_callB call_isiT hg hm (by decide +kernel) (pa_cons ha.p (pa_cons (pe_tup hr.p) pa_nil h2) h1) (by decide) (by decide) h1 hpl, fun H G σ δ F Y Q cr rs h q x => ?_⟩
  refine ha.w H G σ δ _ _ _ cr rs h (fun v d H1 G1 g1 r1 h1 => ?_) x
  refine hr.w H1 G1 σ δ _ _ _ (cr.step g1) (rs.step cr g1) h1 (fun vs ds H2 G2 g2 r2 h2 => ?_) (x.step g1)
  obtain ⟨cs, us, t, b, e1, hz, c1, c2, c3, f⟩ := h2
  refine ⟨r2.len_le hz, fun tp htp => ?_⟩
  subst e1
  have ev := fxs_of r2
  subst ev
  have g3 := Go.laid (o := .tup vs) g2.sub htp
  exact ⟨v, tp, vs, t, us, b, rfl, upd_same, c1, tyx_of g3.sub ((r1.mono g2.grow).mono g3.grow) c2, c3, q _ _ _ _ ((g1.trans g2).trans (g3.lift g2.deal)) (.bl _) f⟩
end

/-! ### methods of texts -/
section
variable {X : Cx} {c : Ct} {W : WX} {o e a b : Expr} {es : List Expr} {pos p p2 apos cpos : Pos} {name : Str} {mo ma mb : ME} {to ta tb : TE} {mr : MA} {tr : TA}
/-- a method of a text, by data -/
def MD (K : Fg) (r : V → List V → Hp → VK → Prop) (g : Str → List D → (D → Prop) → Prop) : Prop := ∀ H G z vs ds (F : D → Prop) (Q : VK), Same G H → RepL K G vs ds → g z ds F → (∀ v d H' G', Go none H G H' G' → Rep K G' v d → F d → Q v H') → r (.str z) vs H Q
def mMS (g : Str → List D → (D → Prop) → Prop) (mo : ME) (mr : MA) : ME := fun δ F X => mo δ (fun d => match d with
  | .str z => mr δ (fun ds => g z ds F) X
  | _ => False) X
theorem de_ms {id : String} {r : V → List V → Hp → VK → Prop} {g : Str → List D → (D → Prop) → Prop} (slot : Slot "str" name id) (hty : typeOf (.builtin id) = pure (.type "method_descriptor")) (hm : MtR X id r) (hr : MD X.K r g) (ho : DE X c W o to mo) (ha : DA X c W (e :: es) tr mr)
    (hbase : attributeBase o name X.env (eval o X.env) = eval o X.env := by rfl)
    (hfew : ((backTo cpos (starEach (e :: es) X.env)).all (fun x => !x.1) && (backToKw cpos (keywordEach [] X.env)).all (fun x => x.1.isSome)
      && decide ((e :: es).length + ([] : List Keyword).length + (if ([] : List Keyword).isEmpty then 0 else 1) < 30)) = true := by rfl)
    (hline : (apos.endLine == cpos.line) = true := by rfl) (hs : starEach (e :: es) X.env = (false, eval e X.env) :: starEach es X.env := by rfl) (hplain : (backTo cpos (starEach es X.env)).any (·.1) = false := by rfl) :
    DE X c W (.Call (.Attribute o name apos) (e :: es) [] cpos) (tBM X.K "str" r to tr) (mMS g mo mr) := by
  refine ⟨pe_bm PySem.F.plainAttrs_str slot hty hm ho.p ha.p hbase hfew hline hs hplain, fun H G σ δ F Y Q cr rs h q x => ?_⟩
  refine ho.w H G σ δ _ _ _ cr rs h (fun v d H1 G1 g1 r1 h1 => ?_) x
  split at h1
  · rw [r1.str_of]
    refine ⟨rfl, ?_⟩
    refine ha.w H1 G1 σ δ _ _ _ (cr.step g1) (rs.step cr g1) h1 (fun vs ds H2 G2 g2 r2 h2 => ?_) (x.step g1)
    exact hr H2 G2 _ vs ds F Q g2.sub r2 h2 fun v d H' G' g3 r3 f => q v d H' G' ((g1.trans g2).trans (g3.lift g2.deal)) r3 f
  · exact h1.elim
def gStrip (z : Str) (ds : List D) (F : D → Prop) : Prop := match ds with
  | [.str b] => z.length ≤ sizeLine ∧ F (.str (Txt.stripChars z b))
  | _ => False
theorem md_strip {K : Fg} : MD K (fun x xs H Q => ∃ a b, x = .str a ∧ xs = [.str b] ∧ a.length ≤ sizeLine ∧ Q (.str (Txt.stripChars a b)) H) gStrip := fun H G z vs ds F Q s r h q => by
  unfold gStrip at h
  split at h
  · obtain ⟨v, e, r1⟩ := r.one
    rw [e, r1.str_of]
    exact ⟨z, _, rfl, rfl, h.1, q _ _ H G (Go.refl s .no) (.str _) h.2⟩
  · exact h.elim
def gJoin (z : Str) (ds : List D) (F : D → Prop) : Prop := match ds with
  | [d] => ∃ es ys, seqD d = some es ∧ strsD es = some ys ∧ (ys.map (·.length)).sum + ys.length * z.length ≤ 16777216 ∧ F (.str (Txt.join z ys))
  | _ => False
theorem md_join {K : Fg} : MD K (fun x xs H Q => ∃ a p, ∃ ys : List Str, x = .str a ∧ xs = [.ref p] ∧ (SqL K H p (ys.map V.str) ∨ SqT K H p (ys.map V.str)) ∧
    (ys.map (·.length)).sum + ys.length * a.length ≤ 16777216 ∧ Q (.str (Txt.join a ys)) H) gJoin := fun H G z vs ds F Q s r h q => by
  unfold gJoin at h
  split at h
  · rename_i d
    obtain ⟨es, ys, e1, e2, hz, f⟩ := h
    obtain ⟨v, e, r1⟩ := r.one
    subst e
    cases d with
    | lst ds' =>
      cases e1
      obtain ⟨a, vs, e3, g1, r2⟩ := r1.lst_of
      subst e3
      exact ⟨z, a, ys, rfl, rfl, .inl (SqL.of (by rw [← strs_of r2 e2]; exact s _ _ g1)), hz, q _ _ H G (Go.refl s .no) (.str _) f⟩
    | tup ds' =>
      cases e1
      obtain ⟨a, vs, e3, g1, r2⟩ := r1.tup_of
      subst e3
      exact ⟨z, a, ys, rfl, rfl, .inr (by rw [← strs_of r2 e2]; exact same_t s g1), hz, q _ _ H G (Go.refl s .no) (.str _) f⟩
    | _ => cases e1
  · exact h.elim
end
end DL

set_option Elab.async false
set_option linter.all false
set_option maxRecDepth 100000
set_option maxHeartbeats 4000000
namespace DL
open PySem L2 PySem.Spec PyProof.Rows

theorem RS.put {K : Fg} {c : Ct} {H G : Hp} {σ : L2.St} {δ : List Sl} (r : RS K c H G σ δ) {x : Option V} {s : Sl} (i : Nat) (q : SlotOk K c H G x s) (no : ∀ es, s ≠ .own es) : RS K c H G (σ.set i x) (δ.set i s) where
  len := by rw [List.length_set, List.length_set]; exact r.len
  at_ := fun j t e => by
    by_cases h : i = j
    · subst h
      have hl : i < δ.length := by
        have := (List.getElem?_eq_some_iff.mp e).1
        rwa [List.length_set] at this
      rw [List.getElem?_set_self hl] at e
      cases e
      exact ⟨x, by rw [List.getElem?_set_self (by rw [r.len]; exact hl)], q⟩
    · rw [List.getElem?_set_ne h] at e ⊢
      exact r.at_ j t e
  sep := fun j k p ds es n e1 e2 h => by
    have nn : ∀ {j : Nat} {ds : List D}, (δ.set i s)[j]? = some (.own ds) → i ≠ j := fun {j ds} e z => by
      subst z
      have hl : i < δ.length := by
        have := (List.getElem?_eq_some_iff.mp e).1
        rwa [List.length_set] at this
      rw [List.getElem?_set_self hl] at e
      exact no ds (Option.some.inj e)
    have q1 := nn e1
    have q2 := nn e2
    rw [List.getElem?_set_ne q1] at e1 h
    rw [List.getElem?_set_ne q2] at e2 ⊢
    exact r.sep j k p ds es n e1 e2 h

/-! ### exceptions: made and raised -/
def spX1 (C : Addr) (f : Str) : Sp := fun vs H Q _ => ∃ (a : Addr) (v : V), vs = [.ref a, v] ∧ H a = some (exo a C none) ∧ ∀ dx, H dx = none → dx ≠ a → Q .non (upd (upd H dx (exd dx [(f, v)])) a (exo a C (some dx)))
section
variable {P : Program} {w : World} {K : Fg} {mg : Str → Option Value} {base : Heap} {x qual : Str} {params : Arguments} {body : List Stmt} {scope : Scope} {f C : Addr} {fd : FuncData} {N ps : List Str} {fl : Str}
theorem fn_x1 (F : FunD K x qual params body scope [] [] f fd) (S : FnScope N ps scope) (hl : ps.length = 2) (hN : N.length = 2) (T : OexC K C) (hno : PySem.W.findIn K (.ref C) fl = some none)
    (hb : ∀ (cdv : Value) (A : Around) (outer : List Env) (s : Shared) (H : Hp) (E : XK), PSs (cxOf (L2.CX P w) P w K mg base N qual scope f cdv A outer s H E) body (tOst K fl (tVar 0) (tVar 1))) : FnOk P w K mg base (L2.CX P w) 1 f fd ps (spX1 C fl) := by
  refine F.ok (k := 0) S (fun vs H Q E h => ?_) (fun cdv A outer s H vs Q E hr h => ⟨_, hb cdv A outer s H E, ?_⟩)
  · obtain ⟨a, v, rfl, _⟩ := h
    rw [hl]
    rfl
  · obtain ⟨a, v, rfl, h1, h2⟩ := h
    have e : L2.start N [V.ref a, v] = [some (.ref a), some v] := by
      unfold L2.start
      rw [hN]
      rfl
    rw [e]
    exact ⟨v, rfl, .ref a, rfl, a, C, rfl, T, hno, .inl ⟨h1, fun dx n ne => h2 dx n ne⟩⟩
end
section
variable {X : Cx} {c : Ct} {W : WX} {e a b : Expr} {es : List Expr} {pos p pos' : Pos} {x : Str} {ma mb me : ME} {ta tb te : TE} {mr : MA} {tr : TA} {C fI : Addr} {k : Nat} {fd : FuncData} {ps : List Str} {fl : Str}
def msRaise1 (C : Addr) (fl : Str) (mr : MA) : MS := fun δ k => mr δ (fun ds => match ds with
  | [d] => k.rs (C, [(fl, d)]) δ
  | _ => False) (fun x => k.rs x δ)
theorem ds_raise1 (hc : X.calm = true) (tk : Takes X W) (T : OexC X.K C) (iC : PySem.W.findIn X.K (.ref C) "__init__" = some (some (.ref fI))) (tI : PySem.W.typeIn X.K (.ref fI) = some (.type "function"))
    (F1 : FnOk X.prog X.w X.K X.mg X.base (L2.CX X.prog X.w) k fI fd ps (spX1 C fl)) (hr : Room (k + 1) X.A) (hb : Binds X.K fd ps []) (hg : Gl X x) (hm : X.mg x = some (.ref C)) (ha : DA X c W (e :: es) tr mr)
    (hdb : (x == ("__debug__" : Str)) = false := by decide) (he : starEach (e :: es) X.env = (false, eval e X.env) :: starEach es X.env := by rfl) (hpl : (backTo pos (starEach es X.env)).any (·.1) = false := by rfl) :
    DS X c W (.Raise (some (.Call (.Name x p) (e :: es) [] pos)) none pos') (fun _ σ H => tMkO C (spX1 C fl) [] tr σ H fun cls d H' => W cls d σ H') (msRaise1 C fl mr) := by
  refine ⟨ps_raise hc tk (pmk_oex T iC tI F1 hr hb .nil passL hg hm ha.p hdb he hpl), fun H G σ δ k Y cr rs h en => ?_⟩
  refine ha.w H G σ δ _ _ _ cr rs h (fun vs ds H1 G1 g1 r1 h1 => ?_) (en.xw cr rs)
  split at h1
  · rename_i d
    obtain ⟨v, e1, r2⟩ := r1.one
    subst e1
    refine ⟨(by show 1 ≤ 1000; decide), fun ea hea => ⟨ea, v, rfl, upd_same, fun dx ndx ne => ⟨rfl, dx, [(fl, v)], upd_same, by rw [upd_ne ne, upd_same], ?_, ?_⟩⟩⟩
    · rw [upd_ne ne] at ndx
      exact ndx
    · have ndx1 : H1 dx = none := by
        rw [upd_ne ne] at ndx
        exact ndx
      have g2 : Go none H1 G1 (upd (del (upd (upd (upd H1 ea (exo ea C none)) dx (exd dx [(fl, v)])) ea (exo ea C (some dx))) ea) dx (.xd [(fl, v)])) (upd G1 dx (.xd [(fl, v)])) := {
        keep := fun b o hb _ => by
          have n1 : b ≠ dx := ne_of_none hb ndx1
          have n2 : b ≠ ea := ne_of_none hb hea
          rw [upd_ne n1, del_ne n2, upd_ne n2, upd_ne n1, upd_ne n2]
          exact hb
        grow := fun b o hb => by rw [upd_ne (ne_of_none (g1.sub _ _ hb) ndx1)]; exact hb
        sub := fun b o hb => by
          by_cases n1 : b = dx
          · subst n1
            rw [upd_same] at hb ⊢
            exact hb
          · rw [upd_ne n1] at hb
            have hb1 := g1.sub _ _ hb
            have n2 : b ≠ ea := ne_of_none hb1 hea
            rw [upd_ne n1, del_ne n2, upd_ne n2, upd_ne n1, upd_ne n2]
            exact hb1
        new := fun b o hb => by
          by_cases n1 : b = dx
          · subst n1
            exact .inr ndx1
          · rw [upd_ne n1] at hb
            exact .inl hb
        deal := .no }
      have g3 := g1.trans (g2.lift g1.deal)
      refine en.rs C [(fl, d)] (some dx) σ δ _ _ (cr.step g3) (rs.step cr g3) g3.grow (.inr ⟨dx, [(fl, v)], rfl, upd_same, .cons (r2.mono g2.grow) .nil⟩) h1
  · exact h1.elim

/-! ### try: .. except C as e: .. -/
def msTry (K : Fg) (i : Nat) (C : Addr) (cv : Value) (mb : MS) (ms : Addr → Option Addr → MS) : MS := fun δ k => mb δ { k with rs := fun xd δ' =>
  (xd.1 = C ∧ ∀ (a : Addr) (d : Option Addr), ms a d (δ'.set i (.exn a C d xd.2)) { k with nx := fun δ2 => k.nx (δ2.set i .un), bk := fun δ2 => k.bk (δ2.set i .un), ct := fun δ2 => k.ct (δ2.set i .un), rs := fun _ _ => False }) ∨
    (PySem.W.exmOne K (.ref xd.1) cv = some false ∧ k.rs xd δ') }
open Classical in
noncomputable def tsOnly (C : Addr) (ts : Addr → Option Addr → TS) : Addr → Value → Option Addr → TS := fun a cls d => if cls = .ref C then ts a d else tNever
theorem ds_try (i : Nat) {n : Str} {np pos2 : Pos} {body suite : List Stmt} {b0 : Stmt} {tb : WX → TS} {ts : Addr → Option Addr → TS} {mb : MS} {ms : Addr → Option Addr → MS} {cv : Value}
    (hs : X.stack = X.env :: X.outer) (hf : X.env.frame = some X.env.locals) (hN : X.N.Nodup) (hi : X.N[i]? = some n) (hln : X.env.kindOf n = some .local) (hc : Names X x cv) (tk : Takes X W)
    (hC : PySem.W.exmOne X.K (.ref C) cv = some true)
    (hb : ∀ (W2 : WX) (pn : List (Addr × Obj)) (xe : Value → Shared → Prop), Takes (X.tr pn xe) W2 → DSs (X.tr pn xe) c W2 body (tb W2) mb)
    (hsu : ∀ (a : Addr) (oe : Obj) (d : Option Addr) (pn : List (Addr × Obj)), Zc (.ref C) d oe → (∃ vs, oe.data = .fields vs) → DSs (X.suite a ((a, oe) :: pn)) c W0 (b0 :: suite) (ts a d) (ms a d)) :
    DS X c W (.Try body [.ExceptHandler (some (.Name x np)) (some n) (b0 :: suite) pos'] [] [] pos) (fun Y σ H => tb (wAs X.K cv i (tsOnly C ts) W Y) Y σ H) (msTry X.K i C cv mb ms) := by
  refine ⟨ps_try_as hs hf hN hi hln hc tk (fun W2 pn xe t _ => (hb W2 pn xe t).p) (fun a oe cls d pn hz hd => ?_), fun H G σ δ k Y cr rs h en => ?_⟩
  · by_cases e : cls = .ref C
    · subst e
      have q : tsOnly C ts a (.ref C) d = ts a d := if_pos rfl
      rw [q]
      exact (hsu a oe d pn hz hd).p
    · have q : tsOnly C ts a cls d = tNever := if_neg e
      rw [q]
      exact pss_never
  · have wb : ∀ W2 : WX, WS X.K c W2 (tb W2) mb := fun W2 => (hb W2 X.pn (fun _ _ => True) (fun _ _ _ => True.intro)).w
    refine wb _ H G σ δ _ Y cr rs h ⟨en.nx, en.rt, en.bk, en.ct, fun C' fs d σ' δ' H' G' a1 a2 a3 a4 a5 => ?_⟩
    rcases a5 with ⟨e1, q⟩ | ⟨e1, q⟩
    · have e1 : C' = C := e1
      subst e1
      refine ⟨true, hC, fun _ a na => ?_, (fun z => nomatch z)⟩
      have q2 : tsOnly C' ts a (.ref C') d = ts a d := if_pos rfl
      rw [q2]
      have w2 : WS X.K c W0 (ts a d) (ms a d) := (hsu a ⟨.ref C', d, .fields #[], #[]⟩ d [] ⟨rfl, rfl⟩ ⟨_, rfl⟩).w
      refine w2 H' G' _ _ _ _ a1 (a2.put i (x := some (.ref a)) (s := .exn a C' d fs) ⟨rfl, a4⟩ fun _ z => nomatch z) (q a d) ⟨?_, ?_, ?_, ?_, fun _ _ _ _ _ _ _ _ _ _ _ z => z.elim⟩
      · exact fun σ2 δ2 H2 G2 b1 b2 b3 b4 => en.nx _ _ H2 G2 b1 (b2.forget i none) (a3.trans b3) b4
      · exact fun v d2 H2 G2 b1 b2 b3 b4 => en.rt v d2 H2 G2 b1 b2 (a3.trans b3) b4
      · exact fun σ2 δ2 H2 G2 b1 b2 b3 b4 => en.bk _ _ H2 G2 b1 (b2.forget i none) (a3.trans b3) b4
      · exact fun σ2 δ2 H2 G2 b1 b2 b3 b4 => en.ct _ _ H2 G2 b1 (b2.forget i none) (a3.trans b3) b4
    · exact ⟨false, e1, (fun z => nomatch z), fun _ => en.rs C' fs d σ' δ' H' G' a1 a2 a3 a4 q⟩
/-- e.f of the caught exception -/
def mExf (a : Addr) (d : Option Addr) (i : Nat) (n : Str) : ME := fun δ F _ => match δ[i]? with
  | some (.exn a' _ d' fs) => a' = a ∧ d' = d ∧ ∃ v, fs.lookup n = some v ∧ F v
  | _ => False
theorem de_exf (i : Nat) {xa : Addr} {oe : Obj} {d : Option Addr} {pn : List (Addr × Obj)} {n : Str} (T : XfC X.K C) (hno : PySem.W.findIn X.K (.ref C) n = some none) (hz : Zc (.ref C) d oe) (hf : ∃ vs, oe.data = .fields vs)
    (he : PE (X.suite xa ((xa, oe) :: pn)) e (tVar i)) (hb : attributeBase e n X.env (eval e X.env) = eval e X.env := by rfl) :
    DE (X.suite xa ((xa, oe) :: pn)) c W (.Attribute e n pos) (tXf xa (.ref C) d C n (tVar i)) (mExf xa d i n) := by
  refine ⟨pe_xf T hno hz hf he hb, fun H G σ δ F Y Q cr rs h q _ => ?_⟩
  unfold mExf at h
  split at h
  · rename_i a' C' d' fs e1
    obtain ⟨rfl, rfl, v, hl, f⟩ := h
    obtain ⟨y, h1, h2, h3⟩ := rs.at_ _ _ e1
    subst h2
    rcases h3 with ⟨rfl, _⟩ | ⟨dd, fv, rfl, hd, r⟩
    · cases hl
    · obtain ⟨u, hu, ru⟩ := r.look hl
      exact ⟨_, h1, rfl, rfl, dd, fv, u, rfl, cr.sub _ _ hd, hu, q u v H G cr.rfl' ru f⟩
  · exact h.elim
/-- isinstance(e, T) of the caught exception -/
def rIsX (K : Fg) (C a : Addr) (d : Option Addr) : List V → Hp → VK → Prop := fun xs H Q => ∃ (cc : V) (cv : Value) (b : Bool), xs = [.ref a, cc] ∧ ClsV cc cv ∧ PySem.W.kitOne K (.ref C) cv = some b ∧ (d = none ∨ ∃ dd fs, d = some dd ∧ H dd = some (.xd fs)) ∧ Q (.bl b) H
theorem call_isX {xa : Addr} {oe : Obj} {d : Option Addr} {pn : List (Addr × Obj)} (T : ExcC X.K C) (hz : Zc (.ref C) d oe) (hf : ∃ vs, oe.data = .fields vs) : CallR (X.suite xa ((xa, oe) :: pn)) (.builtin "isinstance") (rIsX X.K C xa d) := by
  intro pins s σ H xs us Q I r h
  obtain ⟨cc, cv, b, rfl, hcv, e, hd, q⟩ := h
  cases r with
  | cons rx rr =>
    cases rr with
    | cons rt rr =>
      cases rr
      cases rx
      have ec := hcv.eq rt
      subst ec
      obtain ⟨hget, _⟩ := I.pin (xa, oe) (List.mem_append.mpr (.inl List.mem_cons_self))
      obtain ⟨vs, hv⟩ := hf
      have hcls : (PySem.W.clsIn X.K C).isSome = true := by
        have hd' := T.hd
        unfold PySem.W.hasDictIn at hd'
        cases z : PySem.W.clsIn X.K C with
        | none => rw [z] at hd'; cases hd'
        | some cd => rfl
      rcases hd with hd | ⟨dd, fs, hd, hx⟩
      · have J : PySem.W.InstAt s.heap xa oe C none := ⟨hget, hz.1, by unfold PySem.W.notCls; rw [hv] <;> rfl, by rw [hz.2, hd]; exact trivial⟩
        exact PySem.W.kia_one (PySem.W.kitx_exc (od := none) hcls T.hg T.hk T.hs T.ha T.hn T.ht T.hm) I.kIn J e (fun z => nomatch z) fun tk => ⟨.bl b, H, I.kept (t' := tk) fun _ _ z => z, rfl, q⟩
      · have hx' : ObjOk X.prog X.w H s.heap dd (.xd fs) := I.hok dd _ hx
        obtain ⟨mA, ⟨od, es, ep, ho, _⟩, _⟩ := hx'
        have J : PySem.W.InstAt s.heap xa oe C (some od) := ⟨hget, hz.1, by unfold PySem.W.notCls; rw [hv] <;> rfl, by rw [hz.2, hd]; exact ho⟩
        exact PySem.W.kia_one (PySem.W.kitx_exc (od := some od) hcls T.hg T.hk T.hs T.ha T.hn T.ht T.hm) I.kIn J e (fun z => nomatch z) fun tk => ⟨.bl b, H, I.kept (t' := tk) fun _ _ z => z, rfl, q⟩
def mIsX (K : Fg) (C a : Addr) (d : Option Addr) (i : Nat) (mb : ME) : ME := fun δ F X => (match δ[i]? with
  | some (.exn a' _ d' _) => a' = a ∧ d' = d
  | _ => False) ∧ mb δ (fun e => match e with
  | .fx cc => ∃ cv b, ClsV cc cv ∧ PySem.W.kitOne K (.ref C) cv = some b ∧ F (.bl b)
  | _ => False) X
theorem de_isX (i : Nat) {xa : Addr} {oe : Obj} {d : Option Addr} {pn : List (Addr × Obj)} {z : Str} {zp : Pos} (T : ExcC X.K C) (hz : Zc (.ref C) d oe) (hf : ∃ vs, oe.data = .fields vs) (hg : Gl X "isinstance") (hm : X.mg "isinstance" = none)
    (he : PE (X.suite xa ((xa, oe) :: pn)) (.Name z zp) (tVar i)) (hb : DE (X.suite xa ((xa, oe) :: pn)) c W b tb mb)
    (h2 : starEach [b] X.env = (false, eval b X.env) :: starEach [] X.env := by rfl) (h1 : starEach [.Name z zp, b] X.env = (false, eval (.Name z zp) X.env) :: starEach [b] X.env := by rfl) (hpl : (backTo pos (starEach [b] X.env)).any (·.1) = false := by rfl) :
    DE (X.suite xa ((xa, oe) :: pn)) c W (.Call (.Name "isinstance" p) [.Name z zp, b] [] pos) (tCB (rIsX X.K C xa d) (tCons (tVar i) (tCons tb tNil))) (mIsX X.K C xa d i mb) := by
  refine ⟨pe_callB (X := X.suite xa ((xa, oe) :: pn)) (call_isX T hz hf) hg hm (by decide +kernel) (pa_cons he (pa_cons hb.p pa_nil h2) h1) (by decide) (by decide) h1 hpl, fun H G σ δ F Y Q cr rs h q x => ?_⟩
  obtain ⟨hi, h⟩ := h
  split at hi
  · rename_i a' C' d' fs e1
    obtain ⟨rfl, rfl⟩ := hi
    obtain ⟨y, h1, h2, h3⟩ := rs.at_ _ _ e1
    subst h2
    refine ⟨_, h1, ?_⟩
    refine hb.w H G σ δ _ _ _ cr rs h (fun v e H' G' g r f => ?_) x
    split at f
    · obtain ⟨cv, b, c1, c2, f⟩ := f
      refine ⟨v, cv, b, rfl, r.fx_of ▸ c1, c2, ?_, q _ _ H' G' g (.bl _) f⟩
      rcases h3 with ⟨_, hd⟩ | ⟨dd, fv, hd, hx, _⟩
      · exact .inl hd
      · exact .inr ⟨dd, fv, hd, g.sub _ _ (g.grow _ _ hx)⟩
    · exact f.elim
  · exact hi.elim
end
end DL

set_option Elab.async false
set_option linter.all false
set_option maxRecDepth 100000
set_option maxHeartbeats 4000000
namespace DL
open PySem L2 PySem.Spec PyProof.Rows

/-! ### fields -/
section
variable {X : Cx} {c : Ct} {W : WX} {o e a b : Expr} {es : List Expr} {pos p pos' : Pos} {x f : Str} {ma mb me : ME} {ta tb te : TE} {mr : MA} {tr : TA} {C fI : Addr} {k n : Nat} {fd : FuncData} {ps : List Str}
def mFld (K : Fg) (f : Str) (ma : ME) : ME := fun δ F X => ma δ (fun d => match d with
  | .obj C fs => Cls K C ∧ NoAttr K C f ∧ ∃ v, fs.lookup f = some v ∧ F v
  | _ => False) X
theorem de_fld (ha : DE X c W e ta ma) (hb : attributeBase e f X.env (eval e X.env) = eval e X.env := by rfl) : DE X c W (.Attribute e f pos) (tFld X.K ta f) (mFld X.K f ma) := by
  refine ⟨pe_fld ha.p hb, fun H G σ δ F Y Q cr rs h q x => ?_⟩
  refine ha.w H G σ δ _ _ _ cr rs h (fun v d H1 G1 g1 r1 h1 => ?_) x
  split at h1
  · obtain ⟨c1, c2, u, hl, f⟩ := h1
    obtain ⟨a, dx, fs, e1, g2, r2⟩ := r1.obj_of
    obtain ⟨y, hy, ry⟩ := r2.look hl
    exact ⟨a, _, dx, fs, y, e1, g1.sub _ _ g2, c1, c2, hy, q y u H1 G1 g1 ry f⟩
  · exact h1.elim
def putD (f : Str) (d : D) : List (Str × D) → List (Str × D)
  | [] => [(f, d)]
  | (g, x) :: r => if g = f then (g, d) :: r else (g, x) :: putD f d r
theorem RepF.put {K : Fg} {G : Hp} {v : V} {d : D} (q : Rep K G v d) : ∀ {fs : List (Str × V)} {ds : List (Str × D)}, RepF K G fs ds → RepF K G (putF f v fs) (putD f d ds)
  | _, _, .nil => .cons q .nil
  | _, _, .cons (f := g) a r => by
    show RepF K G (if g = f then _ else _) (if g = f then _ else _)
    split
    · exact .cons q r
    · exact .cons a (RepF.put q r)
/-- self.f = e, in an __init__ (self in the first slot) -/
def noSelf : List Sl → Bool
  | [] => true
  | .self _ _ :: _ => false
  | .un :: r => noSelf r
  | .dat _ :: r => noSelf r
  | .own _ :: r => noSelf r
  | .deal :: r => noSelf r
  | .exn _ _ _ _ :: r => noSelf r
theorem noSelf_at : ∀ {δ : List Sl} {i : Nat} {C : Addr} {fs : List (Str × D)}, noSelf δ = true → δ[i]? = some (Sl.self C fs) → False
  | [], _, _, _, _, e => by simp at e
  | s :: r, 0, _, _, h, e => by
    simp at e
    subst e
    cases h
  | s :: r, i + 1, _, _, h, e => by
    refine noSelf_at (δ := r) (i := i) ?_ (by simpa using e)
    cases s <;> first | exact h | cases h
def msSelf (K : Fg) (f : Str) (me : ME) : MS := fun δ k => me δ (fun d => match δ with
  | .self C fs :: rest => Cls K C ∧ NoAttr K C f ∧ fs.length < 800 ∧ noSelf rest = true ∧ k.nx (.self C (putD f d fs) :: rest)
  | _ => False) (fun x => k.rs x δ)
theorem RepF.length {K : Fg} {G : Hp} : ∀ {fs : List (Str × V)} {ds : List (Str × D)}, RepF K G fs ds → fs.length = ds.length
  | _, _, .nil => rfl
  | _, _, .cons _ r => congrArg Nat.succ (RepF.length r)
theorem ds_self {z : Str} {zp : Pos} (hz : PE X (.Name z zp) (tVar 0)) (he : DE X c W e te me) (hs : swapsWith e (some (.Attribute (.Name z zp) f pos')) pos.line X.env = pure false := by rfl) :
    DS X c W (.Assign [.Attribute (.Name z zp) f pos'] e pos) (sFld X.K (tVar 0) te f) (msSelf X.K f me) := by
  refine ⟨ps_fld hz he.p hs, fun H G σ δ k Y cr rs h en => ?_⟩
  refine he.w H G σ δ _ _ _ cr rs h (fun v d H1 G1 g1 r1 h1 => ?_) (en.xw cr rs)
  split at h1
  · rename_i C fs rest
    obtain ⟨c1, c2, few, nos, h1⟩ := h1
    have e1 : (Sl.self C fs :: rest)[0]? = some (Sl.self C fs) := rfl
    have rs1 := rs.step cr g1
    have cr1 := cr.step g1
    obtain ⟨y, h2, xa, dx, fv, h3, h4, h5, h6, h7, r⟩ := rs1.at_ _ _ e1
    subst h3
    have hl : fv.length < 800 := by rw [r.length]; exact few
    have ne : ∀ {b : Addr} {u : HO}, G1 b = some u → b ≠ xa := fun {b u} q => ne_of_none q h6
    refine ⟨_, h2, xa, C, dx, fv, rfl, h5, c1, c2, by omega, ?_⟩
    have cr2 : Cr c (upd H1 xa (.ins C dx (putF f v fv))) G1 := {
      keep := fun b u hb n m => by
        have nb : b ≠ xa := fun q => m (by rw [q]; exact h4)
        rw [upd_ne nb]
        exact cr1.keep b u hb n m
      grow := cr1.grow
      sub := fun b u hb => by rw [upd_ne (ne hb)]; exact cr1.sub _ _ hb
      new := cr1.new
      dlok := fun p' l' e' => by
        obtain ⟨⟨ns, m, q1, q2, q3⟩, g2, g3⟩ := cr1.dlok p' l' e'
        exact ⟨⟨ns, m, by rw [upd_ne (ne_of q1 h5 fun z => nomatch z)]; exact q1, by rw [upd_ne (ne_of q2 h5 fun z => nomatch z)]; exact q2, q3⟩, g2, g3⟩
      he := cr1.he
      sfo := fun b hb => by
        rw [h4] at hb
        cases hb
        exact ⟨C, dx, _, upd_same⟩ }
    refine en.nx σ _ _ G1 cr2 ?_ g1.grow h1
    have eσ : σ = σ.set 0 (some (.ref xa)) := by
      cases σ with
      | nil => cases h2
      | cons s0 sr =>
        have : s0 = some (V.ref xa) := Option.some.inj h2
        rw [this]
        rfl
    have rs2 : RS X.K c (upd H1 xa (.ins C dx (putF f v fv))) G1 (σ.set 0 (some (.ref xa))) (((Sl.self C fs :: rest).set 0 .un).set 0 (.self C (putD f d fs))) := by
      have base : RS X.K c (upd H1 xa (.ins C dx (putF f v fv))) G1 σ ((Sl.self C fs :: rest).set 0 .un) := by
        refine ⟨by rw [List.length_set]; exact rs1.len, fun i s hi => ?_, fun i j p ds es n e2 e3 h => ?_⟩
        · by_cases h0 : 0 = i
          · subst h0
            have hl0 : 0 < (Sl.self C fs :: rest).length := Nat.succ_pos _
            rw [List.getElem?_set_self hl0] at hi
            cases hi
            exact ⟨_, h2, trivial⟩
          · rw [List.getElem?_set_ne h0] at hi
            obtain ⟨y, q1, q2⟩ := rs1.at_ i s hi
            refine ⟨y, q1, ?_⟩
            cases s with
            | un => trivial
            | dat d' => exact q2
            | own ds =>
              obtain ⟨p', xs, q3, q4, q5, q6, q7⟩ := q2
              exact ⟨p', xs, q3, by rw [upd_ne (ne_of q4 h5 fun z => nomatch z)]; exact q4, q5, q6, q7⟩
            | deal => exact q2
            | exn a' C' d' fs' => exact q2
            | self C' fs' =>
              exfalso
              cases i with
              | zero => exact h0 rfl
              | succ i => exact noSelf_at (δ := rest) (i := i) nos (by simpa using hi)
        · have n0 : ∀ {j : Nat} {ds : List D}, ((Sl.self C fs :: rest).set 0 .un)[j]? = some (.own ds) → 0 ≠ j := fun {j ds} e z => by
            subst z
            have hl0 : 0 < (Sl.self C fs :: rest).length := Nat.succ_pos _
            rw [List.getElem?_set_self hl0] at e
            cases e
          have q1 := n0 e2
          have q2 := n0 e3
          rw [List.getElem?_set_ne q1] at e2
          rw [List.getElem?_set_ne q2] at e3
          exact rs1.sep i j p ds es n e2 e3 h
      refine base.put 0 (x := some (.ref xa)) (s := .self C (putD f d fs)) ⟨xa, dx, _, rfl, h4, upd_same, h6, ?_, RepF.put r1 r⟩ fun _ z => nomatch z
      have := length_putF f v fv
      omega
    rw [List.set_set] at rs2
    rw [eσ]
    exact rs2
  · exact h1.elim
end
end DL

set_option Elab.async false
set_option linter.all false
set_option maxRecDepth 100000
set_option maxHeartbeats 4000000
namespace DL
open PySem L2 PySem.Spec PyProof.Rows

/-! ### __init__ -/
abbrev FI := List D → (List (Str × D) → Prop) → XC → Prop
/-- the instance at x is being made: all else stays -/
structure GoS (x : Addr) (H G H' G' : Hp) : Prop where
  keep : ∀ a o, H a = some o → a ≠ x → H' a = some o
  grow : Same G G'
  sub : Same G' H'
  new : ∀ a o, G' a = some o → G a = some o ∨ H a = none
def spI (K : Fg) (n : Nat) (C : Addr) (ff : FI) : Sp := fun vs H Q E => ∃ (G : Hp) (ds : List D) (x dx : Addr) (vs' : List V) (F : List (Str × D) → Prop) (X : XC), vs = .ref x :: vs' ∧ ds.length = n ∧ H x = some (.ins C dx []) ∧ G x = none ∧ Same G H ∧ RepL K G vs' ds ∧ ff ds F X ∧
  (∀ fv fs H' G' dx', GoS x H G H' G' → H' x = some (.ins C dx' fv) → G' x = none → RepF K G' fv fs → F fs → Q .non H') ∧ (∀ C fs d H' G', GoS x H G H' G' → ExcIs K G' d fs → X (C, fs) → E (.ref C) d H')
def selfIs (C : Addr) (G : List (Str × D) → Prop) (δ : List Sl) : Prop := match δ with
  | .self C' fs :: _ => C' = C ∧ G fs
  | _ => False
section
variable {P : Program} {w : World} {K : Fg} {mg : Str → Option Value} {base : Heap} {x qual : Str} {params : Arguments} {body : List Stmt} {scope : Scope} {dvs : List V} {kws : List (Str × V)} {f C : Addr} {fd : FuncData} {N ps : List Str} {n k : Nat} {ff : FI}
theorem fn_okI {t : TS} {ms : MS} (F : FunD K x qual params body scope dvs kws f fd) (S : FnScope N ps scope) (hl : ps.length = n + 1) (hN : ps.length ≤ N.length)
    (hb : ∀ (c : Ct) (cdv : Value) (A : Around) (outer : List Env) (s : Shared) (H : Hp) (E : XK), Room k (A.deeper (envOfC qual scope s.heap.objs.size f cdv)) → DSs (cxOf (L2.CX P w) P w K mg base N qual scope f cdv A outer s H E) c (WF E) body t ms)
    (hm : ∀ ds G X, ds.length = n → ff ds G X → ms (Sl.self C [] :: (ds.map Sl.dat ++ List.replicate (N.length - (n + 1)) .un)) { nx := selfIs C G, rt := fun _ => False, rs := fun x _ => X x }) : FnOk P w K mg base (L2.CX P w) (k + 1) f fd ps (spI K n C ff) := by
  refine F.ok S (fun vs H Q E h => ?_) (fun cdv A outer s H vs Q E hr h => ?_)
  · obtain ⟨G, ds, y, dx, vs', F0, X0, rfl, hn, _, _, _, r, _⟩ := h
    rw [List.length_cons, r.length, hl]
    omega
  · obtain ⟨G, ds, y, dx, vs', F0, X0, rfl, hn, h1, h2, sm, r, hf, hq, hx⟩ := h
    obtain ⟨p, w'⟩ := hb ⟨none, some y, H, G⟩ cdv A outer s H E hr
    refine ⟨t, p, ?_⟩
    have cr : Cr ⟨none, some y, H, G⟩ H G := ⟨fun _ _ q _ _ => q, Same.refl _, sm, fun _ _ q => .inl q, .no, (fun _ _ e => nomatch e), fun a e => ⟨C, dx, [], (Option.some.inj (show some y = some a from e)) ▸ h1⟩⟩
    have lv := r.length
    have eN : L2.start N (V.ref y :: vs') = some (V.ref y) :: (vs'.map some ++ List.replicate (N.length - (n + 1)) none) := by
      unfold L2.start
      rw [List.length_cons, lv, hn]
      rfl
    have rs : RS K ⟨none, some y, H, G⟩ H G (L2.start N (V.ref y :: vs')) (Sl.self C [] :: (ds.map Sl.dat ++ List.replicate (N.length - (n + 1)) .un)) := by
      rw [eN]
      have at_ : ∀ (i : Nat) (s : Sl), (Sl.self C [] :: (ds.map Sl.dat ++ List.replicate (N.length - (n + 1)) .un))[i]? = some s → ∃ z, (some (V.ref y) :: (vs'.map some ++ List.replicate (N.length - (n + 1)) none))[i]? = some z ∧ SlotOk K ⟨none, some y, H, G⟩ H G z s ∧ ∀ es, s ≠ .own es := by
        intro i s e
        cases i with
        | zero =>
          cases e
          exact ⟨_, rfl, ⟨y, dx, [], rfl, rfl, h1, h2, Nat.zero_le _, .nil⟩, fun _ z => nomatch z⟩
        | succ i => exact dat_at _ i s r e
      refine ⟨by simp; omega, fun i s e => let ⟨z, a, b, _⟩ := at_ i s e; ⟨z, a, b⟩, fun i j p ds es ne h1 _ _ => ?_⟩
      obtain ⟨_, _, _, z⟩ := at_ i _ h1
      exact absurd rfl (z ds)
    have gos : ∀ {H' G' : Hp}, Cr ⟨none, some y, H, G⟩ H' G' → GoS y H G H' G' := fun {H' G'} a => ⟨fun b o q ne => a.keep b o q .non fun z => ne (Option.some.inj z).symm, a.grow, a.sub, a.new⟩
    refine w' H G _ _ _ _ cr rs (hm ds F0 X0 hn hf) ⟨fun σ δ H' G' a b z q => ?_, fun _ _ _ _ _ _ _ q => q.elim, fun _ _ _ _ _ _ _ q => q.elim, fun _ _ _ _ _ _ _ q => q.elim, fun C' fs d σ δ H' G' a b z e q => hx C' fs d H' G' (gos a) e q⟩
    have q : selfIs C F0 δ := q
    cases δ with
    | nil => exact q.elim
    | cons sl rest =>
      cases sl with
      | self C' fs =>
        obtain ⟨rfl, q3⟩ := (show C' = C ∧ F0 fs from q)
        obtain ⟨u, u1, a', dx', fv, u2, u3, u4, u5, u6, u7⟩ := b.at_ 0 _ rfl
        have u3 : some y = some a' := u3
        cases u3
        exact hq fv fs H' G' dx' (gos a) u4 u5 u7 q3
      | _ => exact q.elim
end
section
variable {X : Cx} {c : Ct} {W : WX} {e a b : Expr} {es : List Expr} {pos p pos' : Pos} {x f : Str} {ma mb me : ME} {ta tb te : TE} {mr : MA} {tr : TA} {C fI : Addr} {k n : Nat} {fd : FuncData} {ps : List Str} {ds : List Value} {dvs : List V} {dd : List D} {ff : FI}
def mMake (C : Addr) (ff : FI) (dd : List D) (n : Nat) (mr : MA) : ME := fun δ F X => mr δ (fun ds => (ds ++ dd).length = n ∧ ff (ds ++ dd) (fun fs => F (.obj C fs)) X) X
theorem de_make (M : Mk X.K C fI) (F : FnOk X.prog X.w X.K X.mg X.base (L2.CX X.prog X.w) k fI fd ps (spI X.K n C ff)) (hr : Room (k + 1) X.A) (hg : Gl X x) (hm : X.mg x = some (.ref C)) (hb : Binds X.K fd ps ds) (hd : Vals dvs ds) (hdd : ∀ G, RepL X.K G dvs dd) (tk : Takes X W) (hW : ∀ cls d σ σ' H, W cls d σ H → W cls d σ' H)
    (ha : DA X c W (e :: es) tr mr) (hdb : (x == ("__debug__" : Str)) = false := by decide) (he : starEach (e :: es) X.env = (false, eval e X.env) :: starEach es X.env := by rfl) (hpl : (backTo pos (starEach es X.env)).any (·.1) = false := by rfl) :
    DE X c W (.Call (.Name x p) (e :: es) [] pos) (tMake C (spI X.K n C ff) dvs (fun cls d H => ∀ σ, W cls d σ H) tr) (mMake C ff dd n mr) := by
  refine ⟨pe_make M F hr hg hm hb hd (passes_call tk fun cls d σ H h => h σ) ha.p hdb he hpl, fun H G σ δ F Y Q cr rs h q xx => ?_⟩
  refine ha.w H G σ δ _ _ _ cr rs h (fun vs ds H1 G1 g1 r1 h1 => ?_) xx
  intro y dx ny ndx ne
  have hx : ∀ {b : Addr} {o : HO}, H1 b = some o → upd (upd H1 dx (.own y)) y (.ins C dx []) b = some o := fun {b o} hb => by
    rw [upd_ne (ne_of_none hb ny), upd_ne (ne_of_none hb ndx)]
    exact hb
  have nG : G1 y = none := by
    cases z : G1 y with
    | none => rfl
    | some o =>
      rw [g1.sub _ _ z] at ny
      cases ny
  have back : ∀ {b : Addr}, upd (upd H1 dx (.own y)) y (.ins C dx []) b = none → H1 b = none := fun {b} hb => by
    cases z : H1 b with
    | none => rfl
    | some o =>
      rw [hx z] at hb
      cases hb
  refine ⟨G1, ds ++ dd, y, dx, vs ++ dvs, _, _, rfl, h1.1, upd_same, nG, fun b o hb => hx (g1.sub _ _ hb), r1.append (hdd G1), h1.2, ?_, ?_⟩
  · intro fv fs H2 G2 dx' gs hy ny2 rf f
    have g2 : Go none H1 G1 H2 (upd G2 y (.ins C dx' fv)) := {
      keep := fun b o hb _ => gs.keep b o (hx hb) (ne_of_none hb ny)
      grow := fun b o hb => by rw [upd_ne (ne_of_none (g1.sub _ _ hb) ny)]; exact gs.grow _ _ hb
      sub := fun b o hb => by
        by_cases q1 : b = y
        · subst q1
          rw [upd_same] at hb
          cases hb
          exact hy
        · rw [upd_ne q1] at hb
          exact gs.sub _ _ hb
      new := fun b o hb => by
        by_cases q1 : b = y
        · subst q1
          exact .inr ny
        · rw [upd_ne q1] at hb
          rcases gs.new _ _ hb with z | z
          · exact .inl z
          · exact .inr (back z)
      deal := .no }
    refine ⟨rfl, q (.ref y) (.obj C fs) H2 _ (g1.trans (g2.lift g1.deal)) (.obj upd_same (rf.mono fun b o hb => ?_)) f⟩
    rw [upd_ne (ne_of_none hb ny2)]
    exact hb
  · intro C' fs d H2 G2 gs ex f σ'
    have g2 : Go none H1 G1 H2 (fun b => if b = y then none else G2 b) := {
      keep := fun b o hb _ => gs.keep b o (hx hb) (ne_of_none hb ny)
      grow := fun b o hb => by
        show (if b = y then none else G2 b) = some o
        rw [if_neg (ne_of_none (g1.sub _ _ hb) ny)]
        exact gs.grow _ _ hb
      sub := fun b o hb => by
        have hb : (if b = y then none else G2 b) = some o := hb
        split at hb
        · cases hb
        · exact gs.sub _ _ hb
      new := fun b o hb => by
        have hb : (if b = y then none else G2 b) = some o := hb
        split at hb
        · cases hb
        · rcases gs.new _ _ hb with z | z
          · exact .inl z
          · exact .inr (back z)
      deal := .no }
    have g2' : Go none H1 G1 H2 G2 ∨ True := .inr trivial
    refine hW _ _ σ σ' _ (xx C' fs d H2 (fun b => if b = y ∧ False then none else G2 b) ?_ ?_ f)
    · have eG : (fun b => if b = y ∧ False then none else G2 b) = G2 := by
        funext b
        simp
      rw [eG]
      refine g1.trans (Go.lift g1.deal ⟨fun b o hb _ => gs.keep b o (hx hb) (ne_of_none hb ny), gs.grow, gs.sub, fun b o hb => ?_, .no⟩)
      rcases gs.new _ _ hb with z | z
      · exact .inl z
      · exact .inr (back z)
    · have eG : (fun b => if b = y ∧ False then none else G2 b) = G2 := by
        funext b
        simp
      rw [eG]
      exact ex
end

/-! ### one's own list -/
section
variable {X : Cx} {c : Ct} {W : WX} {e a b : Expr} {es : List Expr} {pos p pos' : Pos} {x f : Str} {ma mb me : ME} {ta tb te : TE} {mr : MA} {tr : TA} {K : Fg}
/-- a new list, not yet known to any other -/
def WO (K : Fg) (c : Ct) (W : WX) (t : TE) (m : MA) : Prop := ∀ H G σ δ (F : List D → Prop) (X : XC) (Q : VK), Cr c H G → RS K c H G σ δ → m δ F X →
  (∀ p xs ds H' G', Go c.dl H G H' G' → H' p = some (.lst xs) → G' p = none → H p = none → RepL K G' xs ds → F ds → Q (.ref p) H') → XW K c H G σ X W → t σ H Q
structure OE (X : Cx) (c : Ct) (W : WX) (e : Expr) (t : TE) (m : MA) : Prop where
  p : PE X e t
  w : WO X.K c W t m
theorem nfree {H G H' G' : Hp} {dl : Dl} {p : Addr} (g : Go dl H G H' G') (h : H' p = none) : G' p = none := by
  cases z : G' p with
  | none => rfl
  | some o =>
    rw [g.sub _ _ z] at h
    cases h
/-- a fresh cell ahead was fresh before -/
theorem Go.back {dl : Dl} {H G H' G' : Hp} {p : Addr} (g : Go dl H G H' G') (d : DlOk dl H G) (h : H' p = none) : H p = none := by
  cases z : H p with
  | none => rfl
  | some o =>
    by_cases nd : NotDl dl p
    · rw [g.keep _ _ z nd] at h
      cases h
    · exfalso
      apply nd
      intro p' l' e
      obtain ⟨⟨_, _, q1, q2, _⟩, _⟩ := g.deal p' l' e
      exact ⟨fun y => (by rw [y, q1] at h; cases h), fun y => (by rw [y, q2] at h; cases h)⟩
theorem oe_lst (h : DA X c W es tr mr) : OE X c W (.List es pos) (tLst tr) (fun δ F X => mr δ (fun ds => ds.length ≤ sizeLine ∧ F ds) X) := by
  refine ⟨pe_lst h.p, fun H G σ δ F Y Q cr rs hm q x => ?_⟩
  refine h.w H G σ δ _ _ _ cr rs hm (fun vs ds H1 G1 g1 r1 h1 => ⟨r1.len_le h1.1, fun p hp => ?_⟩) x
  exact q p vs ds _ G1 (g1.trans ((Go.mine g1.sub hp).lift g1.deal)) upd_same (nfree g1 hp) (g1.back cr.dlok hp) r1 h1.2
def msOwn (i : Nat) (mo : MA) : MS := fun δ k => mo δ (fun ds => k.nx (δ.set i (.own ds))) (fun x => k.rs x δ)
theorem RS.own {H G : Hp} {σ : L2.St} {δ : List Sl} (r : RS K c H G σ δ) {p : Addr} {xs : List V} {ds : List D} (i : Nat) (h1 : H p = some (.lst xs)) (h2 : G p = none) (h3 : c.He p = none) (rl : RepL K G xs ds)
    (fr : ∀ (j : Nat) (es : List D), δ[j]? = some (.own es) → σ[j]? ≠ some (some (.ref p))) : RS K c H G (σ.set i (some (.ref p))) (δ.set i (.own ds)) where
  len := by rw [List.length_set, List.length_set]; exact r.len
  at_ := fun j t e => by
    by_cases h : i = j
    · subst h
      have hl : i < δ.length := by
        have := (List.getElem?_eq_some_iff.mp e).1
        rwa [List.length_set] at this
      rw [List.getElem?_set_self hl] at e
      cases e
      exact ⟨_, by rw [List.getElem?_set_self (by rw [r.len]; exact hl)], p, xs, rfl, h1, h2, h3, rl⟩
    · rw [List.getElem?_set_ne h] at e ⊢
      exact r.at_ j t e
  sep := fun j k q ds' es n e1 e2 h => by
    by_cases hj : i = j
    · subst hj
      have hl : i < σ.length := by
        have := (List.getElem?_eq_some_iff.mp h).1
        rwa [List.length_set] at this
      rw [List.getElem?_set_self hl] at h
      cases h
      rw [List.getElem?_set_ne n] at e2 ⊢
      exact fr k es e2
    · rw [List.getElem?_set_ne hj] at e1 h
      by_cases hk : i = k
      · subst hk
        intro z
        have hl : i < σ.length := by
          have := (List.getElem?_eq_some_iff.mp z).1
          rwa [List.length_set] at this
        rw [List.getElem?_set_self hl] at z
        cases z
        exact fr j ds' e1 h
      · rw [List.getElem?_set_ne hk] at e2 ⊢
        exact r.sep j k q ds' es n e1 e2 h
theorem He_none {H G H' G' : Hp} (cr : Cr c H G) {p : Addr} (h : H p = none) : c.He p = none := by
  cases z : c.He p with
  | none => rfl
  | some o =>
    by_cases nd : NotDl c.dl p
    · by_cases m : c.sf = some p
      · obtain ⟨C, dx, fv, e⟩ := cr.sfo p m
        rw [h] at e
        cases e
      · rw [cr.keep _ _ z nd m] at h
        cases h
    · exfalso
      apply nd
      intro p' l' e
      obtain ⟨⟨_, _, q1, q2, _⟩, _⟩ := cr.dlok p' l' e
      exact ⟨fun y => (by rw [y, q1] at h; cases h), fun y => (by rw [y, q2] at h; cases h)⟩
theorem ws_own {i : Nat} {t : TE} {mo : MA} (w : WO K c W t mo) : WS K c W (tAsg t (gName i)) (msOwn i mo) := fun H G σ δ k Y cr rs h en =>
  w H G σ δ _ _ _ cr rs h (fun p xs ds H' G' g h1 h2 h3 r f => by
    refine en.nx _ _ H' G' (cr.step g) ((rs.step cr g).own i h1 h2 (He_none (H' := H) (G' := G) cr h3) r fun j es e z => ?_) g.grow f
    obtain ⟨y, q1, p', xs', q2, q3, _⟩ := rs.at_ _ _ e
    subst q2
    rw [q1] at z
    cases z
    rw [h3] at q3
    cases q3) (en.xw cr rs)
theorem ds_own (i : Nat) {mo : MA} (hN : X.N.Nodup) (hi : X.N[i]? = some x) (hx : Loc X.env.scope x) (he : OE X c W e te mo) (hs : swapsWith e (some (.Name x pos')) pos.line X.env = pure false := by rfl) (hf : X.fn x = true ∨ X.env.scope.names.lookup x = some .local := by first | exact .inl rfl | exact .inr rfl | assumption) :
    DS X c W (.Assign [.Name x pos'] e pos) (tAsg te (gName i)) (msOwn i mo) := ⟨ps_set hN hi hx he.p hs hf, ws_own he.w⟩
end
end DL

set_option Elab.async false
set_option linter.all false
set_option maxRecDepth 100000
set_option maxHeartbeats 4000000
namespace DL
open PySem L2 PySem.Spec PyProof.Rows

/-! ### the deal -/
theorem dpAll_ints {K : Fg} {H : Hp} : ∀ ns : List Int, DpAll K H (ns.map V.int) (ns.map PyData.int)
  | [] => .nil
  | n :: r => .cons (.int n) (dpAll_ints r)
theorem shaped_ints (ns : List Int) : SeqAt.shaped (.list (ns.map PyData.int)) = true := by
  have h1 : PyData.canLayAll0 (ns.map PyData.int) = true := by
    induction ns with
    | nil => rfl
    | cons n r ih => exact ih
  have h2 : PyData.depthAll (ns.map PyData.int) = 0 := by
    induction ns with
    | nil => rfl
    | cons n r ih => show max 0 (PyData.depthAll (r.map PyData.int)) = 0; rw [ih h1]; rfl
  show (PyData.canLayAll0 (ns.map PyData.int) && decide (PyData.depthAll (ns.map PyData.int) + 1 ≤ 64)) = true
  rw [h1, h2]
  rfl
theorem eqv_ints (ns : List Int) : PyData.eqv (.list (ns.map PyData.int)) (.list []) = ns.isEmpty := by cases ns <;> rfl
def gDraw : FF := fun ds F _ => ∃ m : Int, ds = [.int m] ∧ 0 < m ∧ m < 1073741824 ∧ ∀ r : Int, 0 ≤ r → r < m → F (.int r)
section
variable {P : Program} {w : World} {K : Fg} {mg : Str → Option Value} {base : Heap} {x qual : Str} {params : Arguments} {body : List Stmt} {scope : Scope} {f : Addr} {fd : FuncData} {N ps : List Str}
abbrev rNeI (K : Fg) : R2 := rNeD K
abbrev tD0 (K : Fg) : TE := tOp (rIxL K) (tVar 0) (tC (.int 0))
abbrev tD1 (K : Fg) : TE := tOp (rIxL K) (tVar 0) (tC (.int 1))
abbrev tTest0 (K : Fg) : TT := tTest (tOp (rNeD K) (tD0 K) (tLst tNil))
abbrev tDrawW (K : Fg) : TS := tWhile (tAnd (tTest0 K) (tTest (tOp rEq (tOp (rIxL K) (tD0 K) (tUn (rU fun i => .int (-i)) (tC (.int 1)))) (tC (.int 0))))) (tDrop (tBM0 K "list" rPop (tD0 K)))
abbrev rMul' : R2 := rI CMul fun i j => .int (i * j)
abbrev rAdd' : R2 := rI0 fun i j => .int (i + j)
abbrev rMod' : R2 := rI (fun _ j => 0 < j) fun i j => .int (i % j)
abbrev rFd' : R2 := rI CDiv fun i j => .int (i / j)
abbrev rInt' : List V → Hp → VK → Prop := fun xs H Q => (∃ i, xs = [.int i] ∧ Q (.int i) H) ∨ ∃ k, xs = [.bl k] ∧ Q (.int (if k then 1 else 0)) H
abbrev tDrawIf (K : Fg) : TS := tIfS (tTest0 K) (tSeq (tAsg (tBM0 K "list" rPop (tD0 K)) (gName 2)) (tSeq (tDrop (tBM K "list" rAppend (tD0 K) (tCons (tOp rFd' (tVar 2) (tVar 1)) tNil))) (tRet (tOp rMod' (tCB rInt' (tCons (tVar 2) tNil)) (tVar 1))))) tNext
abbrev tDraw (K : Fg) : TS := tSeq (tDrawW K) (tSeq (tDrawIf K) (tSeq (tAsg (tOp rMod' (tCB rInt' (tCons (tOp rAdd' (tOp rMul' (tD1 K) (tC (.int 48271))) (tC (.int 11))) tNil)) (tC (.int 2147483647))) (gSub (tVar 0) (tC (.int 1)) rSetL))
  (tRet (tOp rMod' (tCB rInt' (tCons (tOp rFd' (tD1 K) (tC (.int 8))) tNil)) (tVar 1)))))
theorem at0 {p l : Addr} {m : Int} : atI [V.ref l, V.int m] 0 = some (.ref l) := rfl
theorem at1 {p l : Addr} {m : Int} : atI [V.ref l, V.int m] 1 = some (.int m) := rfl
structure DA2 (H H' : Hp) (p l : Addr) (ns : List Int) (k : Int) : Prop where
  keep : ∀ b o, H b = some o → b ≠ p → b ≠ l → H' b = some o
  hp : H' p = some (.lst [.ref l, .int k])
  hl : H' l = some (.lst (ns.map V.int))
  few : ns.length ≤ 1000
  k0 : 0 ≤ k
  k1 : k < 2147483647
  pos : ∀ n ∈ ns, 0 ≤ n
theorem DA2.laid {H H' : Hp} {p l q : Addr} {ns : List Int} {k : Int} {o : HO} (d : DA2 H H' p l ns k) (h : H' q = none) : DA2 H (upd H' q o) p l ns k :=
  ⟨fun b u hb n1 n2 => by rw [upd_ne (ne_of_none (d.keep b u hb n1 n2) h)]; exact d.keep b u hb n1 n2, by rw [upd_ne (ne_of_none d.hp h)]; exact d.hp, by rw [upd_ne (ne_of_none d.hl h)]; exact d.hl, d.few, d.k0, d.k1, d.pos⟩
theorem DA2.ne {H H' : Hp} {p l : Addr} {ns : List Int} {k : Int} (d : DA2 H H' p l ns k) : p ≠ l := DealAt.ne ⟨ns, k, d.hp, d.hl, d.few, d.k0, d.k1, d.pos⟩
theorem DA2.setl {H H' : Hp} {p l : Addr} {ns ms : List Int} {k : Int} (d : DA2 H H' p l ns k) (few : ms.length ≤ 1000) (pos : ∀ n ∈ ms, 0 ≤ n) : DA2 H (upd H' l (.lst (ms.map V.int))) p l ms k :=
  ⟨fun b u hb n1 n2 => by rw [upd_ne n2]; exact d.keep b u hb n1 n2, by rw [upd_ne d.ne]; exact d.hp, upd_same, few, d.k0, d.k1, pos⟩
theorem DA2.setp {H H' : Hp} {p l : Addr} {ns : List Int} {k k' : Int} (d : DA2 H H' p l ns k) (h0 : 0 ≤ k') (h1 : k' < 2147483647) : DA2 H (upd H' p (.lst [.ref l, .int k'])) p l ns k' :=
  ⟨fun b u hb n1 n2 => by rw [upd_ne n1]; exact d.keep b u hb n1 n2, upd_same, by rw [upd_ne d.ne.symm]; exact d.hl, d.few, h0, h1, d.pos⟩
/-- deal[0] != [] -/
theorem test0 {H H' : Hp} {p l : Addr} {ns : List Int} {k : Int} {σ : L2.St} {Q : Bool → Hp → Prop} (hσ : σ[0]? = some (some (.ref p))) (d : DA2 H H' p l ns k) (q : ∀ H2, DA2 H H2 p l ns k → Q (!ns.isEmpty) H2) : tTest0 K σ H' Q := by
  refine ⟨_, hσ, p, _, 0, _, rfl, rfl, SqL.of d.hp, at0 (p := p), Nat.zero_le _, fun q' hq' => ?_⟩
  have d2 := d.laid (o := .lst []) hq'
  exact ⟨.list (ns.map PyData.int), .list [], .lst (SqL.of d2.hl) (dpAll_ints ns), .lst (SqL.of upd_same) .nil, shaped_ints ns, by decide, _, by rw [eqv_ints], q _ d2⟩
theorem map_last {ns : List Int} {n : Int} : (ns ++ [n]).map V.int = ns.map V.int ++ [V.int n] := by rw [List.map_append]; rfl
theorem draw_reads {vs : List V} {H : Hp} {Q : VK} {E : XK} (h : spD K 1 true gDraw vs H Q E) : tDraw K { nx := fun _ H' => Q .non H', rt := Q } (L2.start ["_law_deal_here", "_law_many", "_law_rest"] vs) H := by
  obtain ⟨G, ds, dl, vs', F, X, hn, ⟨p, l, rfl, rfl⟩, sm, dk, r, ⟨m, rfl, m0, m1, hf⟩, hq, _⟩ := h
  obtain ⟨v, rfl, rv⟩ := r.one
  have ev := rv.int_of
  subst ev
  obtain ⟨⟨ns0, k0, b1, b2, b3, b4, b5, b6⟩, g1, g2⟩ := dk p l rfl
  have fin : ∀ (r : Int) (ns : List Int) (k : Int) (H' : Hp), DA2 H H' p l ns k → 0 ≤ r → r < m → Q (.int r) H' := fun r ns k H' d h1 h2 => hq _ _ H' G {
    keep := fun b o hb nd => by
      obtain ⟨a1, a2⟩ := nd p l rfl
      exact d.keep b o hb a1 a2
    grow := Same.refl _
    sub := fun b o hb => d.keep b o (sm _ _ hb) (ne_of_none hb g1) (ne_of_none hb g2)
    new := fun b o hb => .inl hb
    deal := fun p' l' e' => by
      cases e'
      exact ⟨⟨ns, k, d.hp, d.hl, d.few, d.k0, d.k1, d.pos⟩, g1, g2⟩ } (.int r) (hf r h1 h2)
  have es : L2.start ["_law_deal_here", "_law_many", "_law_rest"] [V.ref p, V.int m] = [some (.ref p), some (.int m), none] := rfl
  rw [es]
  have D0 : DA2 H H p l ns0 k0 := ⟨fun b o hb _ _ => hb, b1, b2, b3, b4, b5, b6⟩
  refine ⟨fun n σ H' => σ = [some (.ref p), some (.int m), none] ∧ ∃ ns k, ns.length = n ∧ DA2 H H' p l ns k, ⟨_, rfl, ns0, k0, rfl, D0⟩, ?_⟩
  rintro n σ H1 ⟨rfl, ns, k, hlen, D1⟩
  -- behind the loop
  have after : ∀ (ns : List Int) (k : Int) (H2 : Hp), DA2 H H2 p l ns k → (tSeq (tDrawIf K) (tSeq (tAsg (tOp rMod' (tCB rInt' (tCons (tOp rAdd' (tOp rMul' (tD1 K) (tC (.int 48271))) (tC (.int 11))) tNil)) (tC (.int 2147483647))) (gSub (tVar 0) (tC (.int 1)) rSetL))
      (tRet (tOp rMod' (tCB rInt' (tCons (tOp rFd' (tD1 K) (tC (.int 8))) tNil)) (tVar 1))))) { nx := fun _ H' => Q .non H', rt := Q } [some (.ref p), some (.int m), none] H2 := by
    intro ns k H2 d
    refine test0 rfl d fun H3 d3 => ?_
    have d3' := d3
    rcases List.eq_nil_or_concat ns with rfl | ⟨ms, z, rfl⟩
    · -- the mixed number
      show tNext _ _ _
      have hd1 : ∀ {H4 : Hp} {Q4 : VK} {k4 : Int}, DA2 H H4 p l [] k4 → Q4 (.int k4) H4 → tD1 K [some (.ref p), some (.int m), none] H4 Q4 := fun {H4 Q4 k4} d4 q4 => ⟨_, rfl, p, _, 1, _, rfl, rfl, SqL.of d4.hp, at1 (p := p), q4⟩
      refine hd1 d3 ⟨_, _, rfl, rfl, .inl ⟨by have := d3.k0; omega, by have := d3.k1; omega⟩, _, _, rfl, rfl, .inl ⟨_, rfl, _, _, rfl, rfl, (by decide : (0 : Int) < 2147483647), ?_⟩⟩
      refine ⟨_, rfl, p, _, 1, 1, rfl, rfl, d3.hp, rfl, ?_⟩
      have d4 := d3.setp (k' := (k * 48271 + 11) % 2147483647) (Int.emod_nonneg _ (by decide)) (Int.emod_lt_of_pos _ (by decide))
      refine hd1 d4 ⟨_, _, rfl, rfl, ⟨by decide, by decide⟩, .inl ⟨_, rfl, _, rfl, _, _, rfl, rfl, m0, ?_⟩⟩
      exact fin _ _ _ _ d4 (Int.emod_nonneg _ (by omega)) (Int.emod_lt_of_pos _ m0)
    · have e1 : (!(ms ++ [z]).isEmpty) = true := by cases ms <;> rfl
      rw [List.concat_eq_append] at d3
      have q1 : (!(ms.concat z).isEmpty) = true := by rw [List.concat_eq_append]; exact e1
      rw [q1]
      refine iteT ?_
      have hlast : ((ms ++ [z]).map V.int)[((ms ++ [z]).map V.int).length - 1]? = some (.int z) := by
        rw [map_last, List.length_append, List.length_singleton, Nat.add_sub_cancel, List.getElem?_append_right (Nat.le_refl _), Nat.sub_self]
        rfl
      have hdrop : ((ms ++ [z]).map V.int).dropLast = ms.map V.int := by rw [map_last, List.dropLast_concat]
      have hz : 0 ≤ z := d3.pos z (List.mem_append_right _ (List.mem_singleton.mpr rfl))
      have few : ms.length + 1 ≤ 1000 := by
        have := d3.few
        rw [List.length_append, List.length_singleton] at this
        exact this
      refine ⟨_, rfl, p, _, 0, _, rfl, rfl, SqL.of d3.hp, at0 (p := p), .inl ⟨rfl, _, SqL.of d3.hl⟩, l, _, _, rfl, rfl, d3.hl, hlast, ?_⟩
      rw [hdrop]
      have d4 := d3.setl (ms := ms) (by omega) fun n hn => d3.pos n (List.mem_append_left _ hn)
      show (tSeq (tDrop (tBM K "list" rAppend (tD0 K) (tCons (tOp rFd' (tVar 2) (tVar 1)) tNil))) (tRet (tOp rMod' (tCB rInt' (tCons (tVar 2) tNil)) (tVar 1)))) _ [some (.ref p), some (.int m), some (.int z)] _
      refine ⟨_, rfl, p, _, 0, _, rfl, rfl, SqL.of d4.hp, at0 (p := p), .inl ⟨rfl, _, SqL.of d4.hl⟩, _, rfl, _, rfl, z, m, rfl, rfl, ⟨m0, m1⟩, l, _, _, rfl, rfl, d4.hl, ?_, ?_⟩
      · rw [List.length_map]
        exact Nat.lt_of_le_of_lt (Nat.le_trans (Nat.le_succ _) few) (by decide)
      rw [← map_last]
      have d5 := d4.setl (ms := ms ++ [z / m]) (by rw [List.length_append, List.length_singleton]; exact few) fun n hn => by
        rcases List.mem_append.mp hn with hn | hn
        · exact d3.pos n (List.mem_append_left _ hn)
        · rw [List.mem_singleton.mp hn]
          exact Int.ediv_nonneg hz (by omega)
      refine ⟨_, rfl, .inl ⟨_, rfl, _, rfl, _, _, rfl, rfl, m0, ?_⟩⟩
      exact fin _ _ _ _ d5 (Int.emod_nonneg _ (by omega)) (Int.emod_lt_of_pos _ m0)
  refine test0 rfl D1 fun H2 d2 => ?_
  rcases List.eq_nil_or_concat ns with rfl | ⟨ms, z, e⟩
  · exact after [] k H2 d2
  · rw [List.concat_eq_append] at e
    subst e
    have e1 : (!(ms ++ [z]).isEmpty) = true := by cases ms <;> rfl
    rw [e1]
    refine iteT ?_
    have hlast : atI ((ms ++ [z]).map V.int) (-1) = some (.int z) := by rw [map_last]; exact atI_last _ _
    have hlast2 : ((ms ++ [z]).map V.int)[((ms ++ [z]).map V.int).length - 1]? = some (.int z) := by
      rw [map_last, List.length_append, List.length_singleton, Nat.add_sub_cancel, List.getElem?_append_right (Nat.le_refl _), Nat.sub_self]
      rfl
    have hdrop : ((ms ++ [z]).map V.int).dropLast = ms.map V.int := by rw [map_last, List.dropLast_concat]
    refine ⟨_, rfl, p, _, 0, _, rfl, rfl, SqL.of d2.hp, at0 (p := p), 1, rfl, l, _, _, _, rfl, rfl, SqL.of d2.hl, hlast, rfl, decide (V.int z = V.int 0), rfl, ?_⟩
    by_cases hz : V.int z = V.int 0
    · rw [decide_eq_true hz]
      refine iteT ⟨fun σ' H' => σ' = [some (.ref p), some (.int m), none] ∧ ∃ k, DA2 H H' p l ms k, fun σ' H' ⟨a, k', b⟩ => ⟨ms.length, by rw [← hlen, List.length_append, List.length_singleton]; omega, a, ms, k', rfl, b⟩, ?_⟩
      refine ⟨_, rfl, p, _, 0, _, rfl, rfl, SqL.of d2.hp, at0 (p := p), .inl ⟨rfl, _, SqL.of d2.hl⟩, l, _, _, rfl, rfl, d2.hl, hlast2, ?_⟩
      rw [hdrop]
      refine ⟨rfl, k, d2.setl (ms := ms) ?_ fun n hn => d2.pos n (List.mem_append_left _ hn)⟩
      have := d2.few
      rw [List.length_append, List.length_singleton] at this
      omega
    · rw [decide_eq_false hz]
      exact iteF (after _ k H2 d2)
end
end DL

set_option Elab.async false
set_option linter.all false
set_option maxRecDepth 100000
set_option maxHeartbeats 4000000
namespace DL
open PySem L2 PySem.Spec PyProof.Rows

/-! ### what the head looks up, as booleans -/
theorem b2 {a b : Bool} (h : (a && b) = true) : a = true ∧ b = true := Bool.and_eq_true_iff.mp h
def oexT (K : Fg) (C : Addr) : Bool := match K.lookup C with
  | some ⟨.type "type", _, .cls cd, sl⟩ => (match cd.mro, sl.toList with
    | .ref C' :: bm, [_, _, _, _, some (.builtin n), _] => C' == C && n == "ValueError.__new__" && !cd.hasDel && cd.hasDict && PySem.HandSPX.refsVE bm
    | _, _ => false)
  | _ => false
theorem oexT_ok {K : Fg} {C : Addr} (q : oexT K C = true) : ∃ nm qn N bs bm sn sub ab col dd k0 k1 k2 k3 k5, K.lookup C = some (excClassObj nm qn C N bs bm true sn sub ab col dd k0 k1 k2 k3 k5 "ValueError.__new__") ∧ PySem.HandSPX.refsVE bm = true := by
  unfold oexT at q
  split at q
  · rename_i dd cd sl ho
    split at q
    · rename_i C' bm k0 k1 k2 k3 n k5 hm hs
      simp only [Bool.and_eq_true, beq_iff_eq, Bool.not_eq_true'] at q
      obtain ⟨⟨⟨⟨rfl, rfl⟩, hdel⟩, hh⟩, ht⟩ := q
      obtain ⟨nm, bs, mro, ns, qn, hd, sn, sub, ab, col, del⟩ := cd
      dsimp only at hm hdel hh
      subst hm hdel hh
      have hsl : sl = #[k0, k1, k2, k3, some (.builtin "ValueError.__new__"), k5] := by
        obtain ⟨l⟩ := sl
        simp only at hs
        rw [hs]
      subst hsl
      exact ⟨nm, qn, ns, bs, bm, sn, sub, ab, col, dd, k0, k1, k2, k3, k5, ho, ht⟩
    · cases q
  · cases q
def eqOV (a b : Option (Option Value)) : Bool := decide (a = b)
def oexB (K : Fg) (C : Addr) : Bool := oexT K C && (eqOV (PySem.W.findIn K (.ref C) "__setattr__") (some (some (.builtin "object.__setattr__"))) && (decide (PySem.W.subIn K (.ref C) (.type "BaseException") = some true) && (decide (PySem.W.typeIn K (.ref C) = some (.type "type")) && PySem.W.keepIn K (.ref C))))
theorem oexB_ok {K : Fg} {C : Addr} (h : oexB K C = true) : OexC K C := by
  obtain ⟨h1, h⟩ := b2 h
  obtain ⟨h2, h⟩ := b2 h
  obtain ⟨h3, h⟩ := b2 h
  obtain ⟨h4, h5⟩ := b2 h
  exact ⟨oexT_ok h1, of_decide_eq_true h2, of_decide_eq_true h3, of_decide_eq_true h4, h5⟩
def cobB (K : Fg) (C : Addr) : Bool := eqOV (PySem.W.findIn K (.ref C) "__class__") (some (some (.builtin "object.__class__"))) && (eqOV (PySem.W.specialIn K (.builtin "object.__class__") "__get__") (some (some (.builtin "getset_descriptor.__get__"))) && (decide (PySem.W.takesIn K (.builtin "object.__class__") = some true) && decide (PySem.W.mroIn K C (.type "object") = some true)))
def clsB (K : Fg) (C : Addr) : Bool := PySem.W.plainGet K C Str.empty && (PySem.W.hasDictIn K C && (PySem.W.plainOver K C && eqOV (PySem.W.findIn K (.ref C) "__setattr__") (some (some (.builtin "object.__setattr__")))))
theorem clsB_ok {K : Fg} {C : Addr} (h : clsB K C = true) : Cls K C := by
  obtain ⟨c1, c⟩ := b2 h
  obtain ⟨c2, c⟩ := b2 c
  obtain ⟨c3, c4⟩ := b2 c
  exact ⟨c1, c2, c3, of_decide_eq_true c4⟩
theorem isC_ok {K : Fg} {C : Addr} (h : (clsB K C && cobB K C) = true) : IsC K C := by
  obtain ⟨h0, h⟩ := b2 h
  obtain ⟨h1, h⟩ := b2 h
  obtain ⟨h2, h⟩ := b2 h
  obtain ⟨h3, h4⟩ := b2 h
  exact ⟨clsB_ok h0, of_decide_eq_true h1, of_decide_eq_true h2, of_decide_eq_true h3, of_decide_eq_true h4⟩
theorem excC_ok {K : Fg} {C : Addr} (h : (xfB K C && cobB K C) = true) : ExcC K C := by
  obtain ⟨h0, h⟩ := b2 h
  obtain ⟨h1, h⟩ := b2 h
  obtain ⟨h2, h⟩ := b2 h
  obtain ⟨h3, h4⟩ := b2 h
  obtain ⟨x1, x2, x3, x4⟩ := xfB_ok h0
  exact ⟨x1, x2, x3, x4, of_decide_eq_true h1, of_decide_eq_true h2, of_decide_eq_true h3, of_decide_eq_true h4⟩
def initB (K : Fg) (C f : Addr) : Bool := eqOV (PySem.W.findIn K (.ref C) "__init__") (some (some (.ref f))) && decide (PySem.W.typeIn K (.ref f) = some (.type "function"))
theorem initB_ok {K : Fg} {C f : Addr} (h : initB K C f = true) : PySem.W.findIn K (.ref C) "__init__" = some (some (.ref f)) ∧ PySem.W.typeIn K (.ref f) = some (.type "function") := by
  obtain ⟨h1, h2⟩ := b2 h
  exact ⟨of_decide_eq_true h1, of_decide_eq_true h2⟩
def nofB (K : Fg) (C : Addr) (f : Str) : Bool := eqOV (PySem.W.findIn K (.ref C) f) (some none)
theorem nofB_ok {K : Fg} {C : Addr} {f : Str} (h : nofB K C f = true) : PySem.W.findIn K (.ref C) f = some none := of_decide_eq_true h
def kitB (K : Fg) (t : Value) (us : List Value) (b : Bool) : Bool := decide (PySem.W.kitAny K t us = some b)
theorem kitB_ok {K : Fg} {t : Value} {us : List Value} {b : Bool} (h : kitB K t us b = true) : PySem.W.kitAny K t us = some b := of_decide_eq_true h
theorem kit1_ok {K : Fg} {t u : Value} {b : Bool} (h : decide (PySem.W.kitOne K t u = some b) = true) : PySem.W.kitOne K t u = some b := of_decide_eq_true h
/-- a tuple in a def's defaults -/
def tupAtB (K : Fg) (a : Addr) (vs : List He.Dv) : Bool := match K.lookup a with
  | some ⟨.type c, _, .seq its _, _⟩ => decide (c = "tuple") && (decide (its.size ≤ sizeLine) && He.relAll (vs.map (He.Dv.v K)) its.toList)
  | _ => false
theorem tupAtB_ok {K : Fg} {a : Addr} {vs : List He.Dv} (h : tupAtB K a vs = true) (H : Hp) : SqT K H a (vs.map (He.Dv.v K)) := by
  unfold tupAtB at h
  split at h
  · rename_i c od its n sl e
    obtain ⟨h1, h⟩ := b2 h
    obtain ⟨h2, h3⟩ := b2 h
    have e1 := of_decide_eq_true h1
    subst e1
    exact .inr ⟨_, its, n, e, rfl, rfl, of_decide_eq_true h2, He.relAll_ok h3⟩
  · cases h
end DL

set_option Elab.async false
set_option linter.all false
set_option maxRecDepth 100000
set_option maxHeartbeats 4000000
namespace DL
open PySem L2 PySem.Spec PyProof.Rows

/-! ### a def that others call -/
structure Fn (P : Program) (w : World) (K : Fg) (mg : Str → Option Value) (base : Heap) (x : Str) (k n : Nat) (wd : Bool) (ff : FF) : Prop where
  ok : ∃ (f : Addr) (fd : FuncData) (ps : List Str), FnOk P w K mg base (L2.CX P w) k f fd ps (spD K n wd ff) ∧ mg x = some (.ref f) ∧ PySem.W.keepIn K (.ref f) = true ∧ Binds K fd ps []
section
variable {X : Cx} {c : Ct} {W : WX} {e a b : Expr} {es : List Expr} {pos p : Pos} {x : Str} {k n : Nat} {ff : FF} {mr : MA} {tr : TA}
theorem takes0 : Takes X W0 := fun u s' ⟨a, B, sI, pins, σ, H, cls, d, e, I, nb, up, sky, na, os, ag, w⟩ => w.elim
theorem de_f (C : Fn X.prog X.w X.K X.mg X.base x k n false ff) (hr : Room k X.A) (hg : Gl X x) (tk : Takes X W)
    (ha : DA X c W (e :: es) tr mr) (hdb : (x == ("__debug__" : Str)) = false := by decide) (he : starEach (e :: es) X.env = (false, eval e X.env) :: starEach es X.env := by rfl) (hpl : (backTo pos (starEach es X.env)).any (·.1) = false := by rfl) :
    DE X c W (.Call (.Name x p) (e :: es) [] pos) (tCallSD (spD X.K n false ff) [] (fun σ cls d H => W cls d σ H) tr) (mCall ff [] n mr) := by
  obtain ⟨f, fd, ps, F, hm, hk, hb⟩ := C.ok
  exact de_call F hr hg hm hk hb .nil (fun _ => .nil) tk ha hdb he hpl
theorem de_fL (i : Nat) {z : Str} {zp : Pos} (C : Fn X.prog X.w X.K X.mg X.base x k n true ff) (hr : Room k X.A) (hg : Gl X x) (tk : Takes X W)
    (hz : PE X (.Name z zp) (tVar i)) (ha : DA X c W es tr mr) (hdb : (x == ("__debug__" : Str)) = false := by decide) (he : starEach (.Name z zp :: es) X.env = (false, eval (.Name z zp) X.env) :: starEach es X.env := by rfl) (hpl : (backTo pos (starEach es X.env)).any (·.1) = false := by rfl) :
    DE X c W (.Call (.Name x p) (.Name z zp :: es) [] pos) (tCallSD (spD X.K n true ff) [] (fun σ cls d H => W cls d σ H) (tCons (tVar i) tr)) (mCallL i ff [] n mr) := by
  obtain ⟨f, fd, ps, F, hm, hk, hb⟩ := C.ok
  exact de_callL i F hr hg hm hk hb .nil (fun _ => .nil) tk hz ha hdb he hpl
end
/-- fewer levels are enough -/
theorem room_le {A : Around} {j k : Nat} (h : Room k A) (l : j ≤ k) : Room j A := by
  first | exact h.mono l | exact Room.le h l | exact h.le l
/-! ### comparing ints -/
abbrev gLe : D → D → (D → Prop) → Prop := gI0 fun i j => .bl (decide (i ≤ j))
abbrev gLt : D → D → (D → Prop) → Prop := gI0 fun i j => .bl (decide (i < j))
theorem rd_le {K : Fg} : RD K (rI0 fun i j => .bl (decide (i ≤ j))) gLe := rd_I0 fun i j G => .bl _
theorem rd_lt {K : Fg} : RD K (rI0 fun i j => .bl (decide (i < j))) gLt := rd_I0 fun i j G => .bl _

theorem de_ty {X : Cx} {c : Ct} {W : WX} {x : Str} {pos : Pos} (T : String) (hg : Gl X x) (hm : X.mg x = none) (hv : bootBuiltins x = some (.type T)) (hn : x ≠ "__name__" := by decide) (hd : (x == ("__debug__" : Str)) = false := by decide) : DE X c W (.Name x pos) (tC (.ty T)) (mC (.fx (.ty T))) :=
  de_bltn hg hm hv rfl hn hd
/-! ### == of two texts, of two ints -/
def gEqS (d e : D) (F : D → Prop) : Prop := match d, e with
  | .str a, .str b => F (.bl (decide (a = b)))
  | .int a, .int b => F (.bl (decide (a = b)))
  | _, _ => False
def gNeS (d e : D) (F : D → Prop) : Prop := match d, e with
  | .str a, .str b => F (.bl (!decide (a = b)))
  | .int a, .int b => F (.bl (!decide (a = b)))
  | _, _ => False
theorem dec_s {a b : Str} : decide (V.str a = V.str b) = decide (a = b) := decide_eq_decide.mpr ⟨fun h => V.str.inj h, fun h => h ▸ rfl⟩
theorem dec_i {a b : Int} : decide (V.int a = V.int b) = decide (a = b) := decide_eq_decide.mpr ⟨fun h => V.int.inj h, fun h => h ▸ rfl⟩
theorem rd_eqS {K : Fg} : RD K rEq gEqS := fun H G x y d e F Q s rx ry h k => by
  unfold gEqS at h
  split at h
  · rw [rx.str_of, ry.str_of]
    exact ⟨rfl, k _ _ H G (Go.refl s .no) (by rw [dec_s]; exact .bl _) h⟩
  · rw [rx.int_of, ry.int_of]
    exact ⟨rfl, k _ _ H G (Go.refl s .no) (by rw [dec_i]; exact .bl _) h⟩
  · exact h.elim
theorem rd_neS {K : Fg} : RD K rNe gNeS := fun H G x y d e F Q s rx ry h k => by
  unfold gNeS at h
  split at h
  · rw [rx.str_of, ry.str_of]
    exact ⟨rfl, k _ _ H G (Go.refl s .no) (by rw [dec_s]; exact .bl _) h⟩
  · rw [rx.int_of, ry.int_of]
    exact ⟨rfl, k _ _ H G (Go.refl s .no) (by rw [dec_i]; exact .bl _) h⟩
  · exact h.elim
/-! ### walking a list or a tuple -/
def iSeq (K : Fg) (te : TE) : TI := fun σ H R => te σ H fun x H' => ∃ q, x = .ref q ∧ (((∃ ys, SqL K H' q ys) ∧ R (Itl K q) H') ∨ ((∃ ys, SqT K H' q ys) ∧ R (Itt K q) H'))
theorem pi_seq {X : Cx} {tg l : Expr} {te : TE} (hl : PE X l te) : PI X tg l (iSeq X.K te) :=
  ⟨fun pins s σ H R I h => thn (hl.run pins s σ H _ I h) fun v t1 post => by
    obtain ⟨x, H1, I1, r1, q, e, z⟩ := post
    subst e
    cases r1
    rcases z with ⟨⟨ys, hs⟩, k⟩ | ⟨⟨ys, hs⟩, k⟩
    · obtain ⟨its, rv, pl, hz⟩ := I1.list hs
      refine wpAny_pyIter_list (pl.isList) ?_
      refine ⟨t1.heap.objs.size, [t1.heap.objs.size], _, _, H1, rfl, I1.kept (t' := t1.toks) (fun b o => Heap.get?_push_of_some _), turn_list q _, ⟨_, Heap.get?_push_size _ rfl, rfl, rfl⟩, ?_, k⟩
      intro b hb
      rw [List.mem_singleton.mp hb]
      exact I1.fpOk (Nat.le_refl _) (I1.hok.fresh (Nat.le_refl _))
    · obtain ⟨its, rv, pl, hz⟩ := I1.tuple hs
      refine wpAny_pyIter_tuple (show t1.heap.IsTuple q (its.toArray) from pl) ?_
      refine ⟨t1.heap.objs.size, [t1.heap.objs.size], _, _, H1, rfl, I1.kept (t' := t1.toks) (fun b o => Heap.get?_push_of_some _), turn_tuple q _, ⟨_, Heap.get?_push_size _ rfl, rfl, rfl⟩, ?_, k⟩
      intro b hb
      rw [List.mem_singleton.mp hb]
      exact I1.fpOk (Nat.le_refl _) (I1.hok.fresh (Nat.le_refl _))⟩
def miS (ma : ME) : MA := fun δ F X => ma δ (fun d => ∃ ds, seqD d = some ds ∧ F ds) X
section
variable {X : Cx} {c : Ct} {W : WX} {e tg : Expr} {ma : ME} {ta : TE}
theorem di_seq (h : DE X c W e ta ma) : DI X c W tg e (iSeq X.K ta) (miS ma) := by
  obtain ⟨p, w⟩ := h
  refine ⟨pi_seq p, fun H G σ δ F X R cr rs h q x => ?_⟩
  refine w H G σ δ _ _ _ cr rs h (fun v d H' G' g r f => ?_) x
  obtain ⟨ds, e1, f⟩ := f
  cases d with
  | lst l =>
    cases e1
    obtain ⟨a, xs, e1, h1, r1⟩ := r.lst_of
    exact ⟨a, e1, .inl ⟨⟨xs, SqL.of (g.sub _ _ h1)⟩, q _ _ H' G' g (walk_l h1 r1) f⟩⟩
  | tup l =>
    cases e1
    obtain ⟨a, xs, e1, h1, r1⟩ := r.tup_of
    exact ⟨a, e1, .inr ⟨⟨xs, same_t g.sub h1⟩, q _ _ H' G' g (walk_t h1 r1) f⟩⟩
  | _ => cases e1
end
theorem slot_strip : Slot "str" "strip" "str.strip" := .of (owner := "str") (n := "strip")
  (by rw [typeLookup_type, builtinLookup_eq_fast]; kernel_rfl) (by decide +kernel)
  (by decide +kernel) (by decide +kernel) (by first | exact .inl (by decide +kernel) | exact .inr (by decide +kernel))
  (by rw [isSubtype_type]; kernel_rfl)
theorem type_strip : typeOf (.builtin "str.strip") = pure (.type "method_descriptor") := by
  show builtinType _ = _
  rw [builtinType_eq_fast]
  kernel_rfl

/-! ### the rule for a def, whose reading knows the way out -/
section
variable {P : Program} {w : World} {K : Fg} {mg : Str → Option Value} {base : Heap} {x qual : Str} {params : Arguments} {body : List Stmt} {scope : Scope} {dvs : List V} {kws : List (Str × V)} {f : Addr} {fd : FuncData} {N ps : List Str} {n k : Nat} {wd : Bool} {ff : FF}
theorem fn_okE (F : FunD K x qual params body scope dvs kws f fd) (S : FnScope N ps scope) (hl : ps.length = n + dn wd) (hN : ps.length ≤ N.length)
    (hb : ∀ (c : Ct) (cdv : Value) (A : Around) (outer : List Env) (s : Shared) (H : Hp) (E : XK), Room k (A.deeper (PyProof.Rows.envOfC qual scope s.heap.objs.size f cdv)) → ∃ t ms, DSs (cxOf (L2.CX P w) P w K mg base N qual scope f cdv A outer s H E) c (WF E) body t ms ∧
      ∀ ds G X, ds.length = n → ff ds G X → ms (start0 wd ds (N.length - (n + dn wd))) { nx := fun _ => G .non, rt := G, rs := fun x _ => X x }) : FnOk P w K mg base (L2.CX P w) (k + 1) f fd ps (spD K n wd ff) := by
  refine F.ok S (fun vs H Q E h => (spD_len h).trans hl.symm) (fun cdv A outer s H vs Q E hr h => ?_)
  obtain ⟨G, ds, dl, vs', G0, X0, hn, hw, sm, dk, r, hf, hq, hx⟩ := h
  obtain ⟨t, ms, ⟨p, w'⟩, hm⟩ := hb ⟨dl, none, H, G⟩ cdv A outer s H E hr
  refine ⟨t, p, ?_⟩
  have cr : Cr ⟨dl, none, H, G⟩ H G := ⟨fun _ _ q _ _ => q, Same.refl _, sm, fun _ _ q => .inl q, dk, fun p' l' e => by
    obtain ⟨⟨_, _, q1, q2, _⟩, _⟩ := dk p' l' e
    exact ⟨fun z => (by rw [show H p' = none from z] at q1; cases q1), fun z => (by rw [show H l' = none from z] at q2; cases q2)⟩, fun _ e => nomatch e⟩
  refine w' H G _ _ _ _ cr (rs_start hn hw r (by omega)) (hm ds G0 X0 hn hf) ⟨fun σ δ H' G' a b z q => hq .non .non H' G' (a.go rfl) .non q, fun v d H' G' a b z q => hq v d H' G' (a.go rfl) b q, fun _ _ _ _ _ _ _ q => q.elim, fun _ _ _ _ _ _ _ q => q.elim,
    fun C fs d σ δ H' G' a b z e q => hx C fs d H' G' (a.go rfl) e q⟩
end
end DL

set_option Elab.async false
set_option linter.all false
set_option maxRecDepth 100000
set_option maxHeartbeats 4000000
namespace DL
open PySem L2 PySem.Spec PyProof.Rows
/-! ### what a comprehension makes -/
theorem lcD_gen {mg : MG} {mt : MT} {me : ME} {δ : List Sl} {g : D → List Sl} {p : D → Bool} {f : D → D} {F : List D → Prop} : ∀ (ds acc : List D),
    (∀ d ∈ ds, (∀ F' : List Sl → Prop, F' (g d) → mg d δ F') ∧ (∀ F' : Bool → Prop, F' (p d) → mt (g d) F' (fun _ => False)) ∧ (p d = true → ∀ F' : D → Prop, F' (f d) → me (g d) F' (fun _ => False))) →
    F (acc ++ (ds.filter p).map f) → lcD mg mt me δ F ds acc
  | [], acc, _, h => by
    rw [List.filter_nil, List.map_nil, List.append_nil] at h
    exact h
  | d :: ds, acc, hs, h => by
    obtain ⟨h1, h2, h3⟩ := hs d (List.mem_cons_self ..)
    refine h1 _ (h2 _ ?_)
    cases e : p d with
    | true =>
      rw [List.filter_cons_of_pos e, List.map_cons] at h
      show (if true = true then _ else _)
      rw [if_pos rfl]
      exact h3 e _ (lcD_gen ds _ (fun d' m => hs d' (List.mem_cons_of_mem _ m)) (by rw [List.append_assoc]; exact h))
    | false =>
      rw [List.filter_cons_of_neg (by rw [e]; decide)] at h
      show (if false = true then _ else _)
      rw [if_neg (by decide)]
      exact lcD_gen ds _ (fun d' m => hs d' (List.mem_cons_of_mem _ m)) h
/-- one name, no test -/
theorem lcD_map {i : Nat} {me : ME} {δ : List Sl} {f : D → D} {F : List D → Prop} (ds : List D) (hs : ∀ d ∈ ds, ∀ F' : D → Prop, F' (f d) → me (δ.set i (.dat d)) F' (fun _ => False)) (h : F (ds.map f)) : lcD (mgName i) mYes me δ F ds [] :=
  lcD_gen (g := fun d => δ.set i (.dat d)) (p := fun _ => true) (f := f) ds [] (fun d m => ⟨fun _ q => q, fun _ q => q, fun _ => hs d m⟩) (by rw [List.filter_eq_self.mpr fun _ _ => rfl, List.nil_append]; exact h)
/-- one name, a test -/
theorem lcD_if {i : Nat} {mt : MT} {me : ME} {δ : List Sl} {p : D → Bool} {f : D → D} {F : List D → Prop} (ds : List D) (ht : ∀ d ∈ ds, ∀ F' : Bool → Prop, F' (p d) → mt (δ.set i (.dat d)) F' (fun _ => False))
    (hs : ∀ d ∈ ds, p d = true → ∀ F' : D → Prop, F' (f d) → me (δ.set i (.dat d)) F' (fun _ => False)) (h : F ((ds.filter p).map f)) : lcD (mgName i) mt me δ F ds [] :=
  lcD_gen (g := fun d => δ.set i (.dat d)) (p := p) (f := f) ds [] (fun d m => ⟨fun _ q => q, ht d m, hs d m⟩) h
theorem bls_map {α : Type} {f : α → Bool} : ∀ ds : List α, blsD (ds.map fun d => .bl (f d)) = some (ds.map f)
  | [] => rfl
  | d :: ds => by
    show (blsD (ds.map fun d => D.bl (f d))).map (f d :: ·) = _
    rw [bls_map ds]
    rfl
theorem all_map {α : Type} {f : α → Bool} (ds : List α) : (ds.map f).all id = ds.all f := by rw [List.all_map]; rfl

section
variable {X : Cx} {c : Ct} {W : WX} {elt iter tg : Expr} {ifs : List Expr} {scope : Scope} {own : List (Str × Nat)} {pos : Pos} {ti : TI} {mi : MA} {is : List Nat} {tgg : Shared → Hp → Addr → List (Str × Addr) → List Addr → TG} {mg : Shared → Hp → Addr → List (Str × Addr) → List Addr → MG}
  {tt : Shared → Hp → Addr → List (Str × Addr) → List Addr → TT} {mt : Shared → Hp → Addr → List (Str × Addr) → List Addr → MT} {te : Shared → Hp → Addr → List (Str × Addr) → List Addr → TE} {me : Shared → Hp → Addr → List (Str × Addr) → List Addr → ME}
abbrev z5 {α : Type} (f : Shared → Hp → Addr → List (Str × Addr) → List Addr → α) : α := f {} (fun _ => none) 0 [] []
theorem de_lcF (hc : X.calm = true) (hN : X.N.Nodup) (hi : DIC X c W tg iter ti mi) (ok : BlkOk X.N X.env.scope scope own) (hv : ∀ i ∈ is, i ∈ own.map (·.2))
    (hg : ∀ (s : Shared) (H : Hp) (C : Addr) (cl : List (Str × Addr)) (fp : List Addr), DG (Blk X scope s H C cl fp) tg (tgg s H C cl fp) is (mg s H C cl fp))
    (ht : ∀ (s : Shared) (H : Hp) (C : Addr) (cl : List (Str × Addr)) (fp : List Addr), DTs (Blk X scope s H C cl fp) c W0 ifs (tt s H C cl fp) (mt s H C cl fp))
    (he : ∀ (s : Shared) (H : Hp) (C : Addr) (cl : List (Str × Addr)) (fp : List Addr), DE (Blk X scope s H C cl fp) c W0 elt (te s H C cl fp) (me s H C cl fp))
    (hs : ∀ x, foldedSetIterable iter X.env x = pure x := by intro _; rfl)
    (q1 : ∀ s H C cl fp, tgg s H C cl fp = z5 tgg := by intros; rfl) (q2 : ∀ s H C cl fp, mg s H C cl fp = z5 mg := by intros; rfl) (q3 : ∀ s H C cl fp, tt s H C cl fp = z5 tt := by intros; rfl)
    (q4 : ∀ s H C cl fp, mt s H C cl fp = z5 mt := by intros; rfl) (q5 : ∀ s H C cl fp, te s H C cl fp = z5 te := by intros; rfl) (q6 : ∀ s H C cl fp, me s H C cl fp = z5 me := by intros; rfl) :
    DE X c W (.ListComp elt [⟨tg, iter, ifs, 0⟩] scope pos) (tLc ti (z5 tgg) (z5 tt) (z5 te) (own.map (·.2))) (mLc mi (z5 mg) (z5 mt) (z5 me) (own.map (·.2))) :=
  de_lc hc hN hi ok hv (fun s H C cl fp => by rw [← q1 s H C cl fp, ← q2 s H C cl fp]; exact hg s H C cl fp) (fun s H C cl fp => by rw [← q3 s H C cl fp, ← q4 s H C cl fp]; exact ht s H C cl fp)
    (fun s H C cl fp => by rw [← q5 s H C cl fp, ← q6 s H C cl fp]; exact he s H C cl fp) hs
end

section
variable {P : Program} {w : World} {K : Fg} {mg : Str → Option Value} {base : Heap} {x qual : Str} {params : Arguments} {body : List Stmt} {scope : Scope} {dvs : List V} {kws : List (Str × V)} {f C : Addr} {fd : FuncData} {N ps : List Str} {n k : Nat} {ff : FI}
theorem fn_okIE (F : FunD K x qual params body scope dvs kws f fd) (S : FnScope N ps scope) (hl : ps.length = n + 1) (hN : ps.length ≤ N.length)
    (hb : ∀ (c : Ct) (cdv : Value) (A : Around) (outer : List Env) (s : Shared) (H : Hp) (E : XK), Room k (A.deeper (envOfC qual scope s.heap.objs.size f cdv)) → ∃ t ms, DSs (cxOf (L2.CX P w) P w K mg base N qual scope f cdv A outer s H E) c (WF E) body t ms ∧
      ∀ ds G X, ds.length = n → ff ds G X → ms (Sl.self C [] :: (ds.map Sl.dat ++ List.replicate (N.length - (n + 1)) .un)) { nx := selfIs C G, rt := fun _ => False, rs := fun x _ => X x }) : FnOk P w K mg base (L2.CX P w) (k + 1) f fd ps (spI K n C ff) := by
  refine F.ok S (fun vs H Q E h => ?_) (fun cdv A outer s H vs Q E hr h => ?_)
  · obtain ⟨G, ds, y, dx, vs', F0, X0, rfl, hn, _, _, _, r, _⟩ := h
    rw [List.length_cons, r.length, hl]
    omega
  · obtain ⟨G, ds, y, dx, vs', F0, X0, rfl, hn, h1, h2, sm, r, hf, hq, hx⟩ := h
    obtain ⟨t, ms, ⟨p, w'⟩, hm⟩ := hb ⟨none, some y, H, G⟩ cdv A outer s H E hr
    refine ⟨t, p, ?_⟩
    have cr : Cr ⟨none, some y, H, G⟩ H G := ⟨fun _ _ q _ _ => q, Same.refl _, sm, fun _ _ q => .inl q, .no, (fun _ _ e => nomatch e), fun a e => ⟨C, dx, [], (Option.some.inj (show some y = some a from e)) ▸ h1⟩⟩
    have lv := r.length
    have eN : L2.start N (V.ref y :: vs') = some (V.ref y) :: (vs'.map some ++ List.replicate (N.length - (n + 1)) none) := by
      unfold L2.start
      rw [List.length_cons, lv, hn]
      rfl
    have rs : RS K ⟨none, some y, H, G⟩ H G (L2.start N (V.ref y :: vs')) (Sl.self C [] :: (ds.map Sl.dat ++ List.replicate (N.length - (n + 1)) .un)) := by
      rw [eN]
      have at_ : ∀ (i : Nat) (s : Sl), (Sl.self C [] :: (ds.map Sl.dat ++ List.replicate (N.length - (n + 1)) .un))[i]? = some s → ∃ z, (some (V.ref y) :: (vs'.map some ++ List.replicate (N.length - (n + 1)) none))[i]? = some z ∧ SlotOk K ⟨none, some y, H, G⟩ H G z s ∧ ∀ es, s ≠ .own es := by
        intro i s e
        cases i with
        | zero =>
          cases e
          exact ⟨_, rfl, ⟨y, dx, [], rfl, rfl, h1, h2, Nat.zero_le _, .nil⟩, fun _ z => nomatch z⟩
        | succ i => exact dat_at _ i s r e
      refine ⟨by simp; omega, fun i s e => let ⟨z, a, b, _⟩ := at_ i s e; ⟨z, a, b⟩, fun i j p ds es ne h1 _ _ => ?_⟩
      obtain ⟨_, _, _, z⟩ := at_ i _ h1
      exact absurd rfl (z ds)
    have gos : ∀ {H' G' : Hp}, Cr ⟨none, some y, H, G⟩ H' G' → GoS y H G H' G' := fun {H' G'} a => ⟨fun b o q ne => a.keep b o q .non fun z => ne (Option.some.inj z).symm, a.grow, a.sub, a.new⟩
    refine w' H G _ _ _ _ cr rs (hm ds F0 X0 hn hf) ⟨fun σ δ H' G' a b z q => ?_, fun _ _ _ _ _ _ _ q => q.elim, fun _ _ _ _ _ _ _ q => q.elim, fun _ _ _ _ _ _ _ q => q.elim, fun C' fs d σ δ H' G' a b z e q => hx C' fs d H' G' (gos a) e q⟩
    have q : selfIs C F0 δ := q
    cases δ with
    | nil => exact q.elim
    | cons sl rest =>
      cases sl with
      | self C' fs =>
        obtain ⟨rfl, q3⟩ := (show C' = C ∧ F0 fs from q)
        obtain ⟨u, u1, a', dx', fv, u2, u3, u4, u5, u6, u7⟩ := b.at_ 0 _ rfl
        have u3 : some y = some a' := u3
        cases u3
        exact hq fv fs H' G' dx' (gos a) u4 u5 u7 q3
      | _ => exact q.elim
end
/-- a class that others make: its __init__ -/
structure Mkr (P : Program) (w : World) (K : Fg) (mg : Str → Option Value) (base : Heap) (x : Str) (C : Addr) (k n : Nat) (ff : FI) : Prop where
  ok : ∃ (fI : Addr) (fd : FuncData) (ps : List Str), Mk K C fI ∧ FnOk P w K mg base (L2.CX P w) k fI fd ps (spI K n C ff) ∧ mg x = some (.ref C) ∧ Binds K fd ps []
end DL

set_option Elab.async false
set_option linter.all false
set_option maxRecDepth 100000
set_option maxHeartbeats 4000000
namespace DL
open PySem L2 PySem.Spec PyProof.Rows
theorem slot_pop : Slot "list" "pop" "list.pop" := .of (owner := "list") (n := "pop")
  (by rw [typeLookup_type, builtinLookup_eq_fast]; kernel_rfl) (by decide +kernel)
  (by decide +kernel) (by decide +kernel) (by first | exact .inl (by decide +kernel) | exact .inr (by decide +kernel))
  (by rw [isSubtype_type]; kernel_rfl)
theorem type_pop : typeOf (.builtin "list.pop") = pure (.type "method_descriptor") := by
  show builtinType _ = _
  rw [builtinType_eq_fast]
  kernel_rfl
theorem slot_append : Slot "list" "append" "list.append" := .of (owner := "list") (n := "append")
  (by rw [typeLookup_type, builtinLookup_eq_fast]; kernel_rfl) (by decide +kernel)
  (by decide +kernel) (by decide +kernel) (by first | exact .inl (by decide +kernel) | exact .inr (by decide +kernel))
  (by rw [isSubtype_type]; kernel_rfl)
theorem type_append : typeOf (.builtin "list.append") = pure (.type "method_descriptor") := by
  show builtinType _ = _
  rw [builtinType_eq_fast]
  kernel_rfl

/-! ### the signs of a text, walked -/
def sigD (z : Str) : List D := z.cps.toList.map fun c => D.str ⟨#[c]⟩
theorem walk_s {K : Fg} {G : Hp} {z : Str} : IsWalk K G (Its z) (sigD z) := fun i H G' s s' => by
  refine ⟨fun d e => ?_, fun e => ?_⟩
  · unfold sigD at e
    rw [List.getElem?_map, Array.getElem?_toList] at e
    cases hc : z.cps[i]? with
    | none => rw [hc] at e; cases e
    | some c =>
      rw [hc] at e
      cases e
      have hi : i < z.cps.size := by
        obtain ⟨h, _⟩ := Array.getElem?_eq_some_iff.mp hc
        exact h
      refine ⟨hi, fun x H' ⟨e1, c2, e2, e3⟩ => ?_⟩
      rw [hc] at e2
      cases e2
      subst e1 e3
      exact ⟨G', Go.refl s' .no, .str _⟩
  · unfold sigD at e
    rw [List.length_map, Array.length_toList] at e
    exact Nat.le_of_eq e.symm
def miZ (ma : ME) : MA := fun δ F X => ma δ (fun d => match d with
  | .str z => F (sigD z)
  | _ => False) X
section
variable {X : Cx} {c : Ct} {W : WX} {e tg : Expr} {ma : ME} {ta : TE}
theorem di_str (h : DE X c W e ta ma) : DI X c W tg e (iStr ta) (miZ ma) := by
  obtain ⟨p, w⟩ := h
  refine ⟨pi_str p, fun H G σ δ F X R cr rs h q x => ?_⟩
  refine w H G σ δ _ _ _ cr rs h (fun v d H' G' g r f => ?_) x
  split at f
  · exact ⟨_, r.str_of, q _ _ H' G' g walk_s f⟩
  · exact f.elim
end
end DL

set_option Elab.async false
set_option linter.all false
set_option maxRecDepth 100000
set_option maxHeartbeats 4000000
namespace DL
open PySem L2 PySem.Spec PyProof.Rows
/-! ### a list of anything against [] -/
def rEqE (K : Fg) : R2 := fun x y H Q => ∃ a b xs, x = .ref a ∧ y = .ref b ∧ xs ≠ [] ∧ SqL K H a xs ∧ SqL K H b [] ∧ Q (.bl false) H
def rNeE (K : Fg) : R2 := fun x y H Q => ∃ a b xs, x = .ref a ∧ y = .ref b ∧ xs ≠ [] ∧ SqL K H a xs ∧ SqL K H b [] ∧ Q (.bl true) H
section
variable {X : Cx}
theorem sizes_ne {xs : List V} {us ws : List Value} (n : xs ≠ []) (r1 : Vals xs us) (r2 : Vals [] ws) : (us.toArray.size != ws.toArray.size) = true := by
  cases r2
  cases r1 with
  | nil => exact absurd rfl n
  | cons _ _ => simp
theorem op_eqE (hu : X.A.units < cLine) : OpR X (compareOp .Eq) (rEqE X.K) := by
  intro pins s σ H x y v u Q I rx ry h
  obtain ⟨a, b, xs, rfl, rfl, n, ha, hb, q⟩ := h
  cases (show v = Value.ref a from rx)
  cases (show u = Value.ref b from ry)
  obtain ⟨us, r1, p1, _⟩ := I.list ha
  obtain ⟨ws, r2, p2, _⟩ := I.list hb
  exact PySem.SeqAt.eq_list_lengthsAt p1.isList p2.isList (sizes_ne n r1 r2) hu ⟨.bl false, H, I, rfl, q⟩
theorem op_neE (hu : X.A.units < cLine) : OpR X (compareOp .NotEq) (rNeE X.K) := by
  intro pins s σ H x y v u Q I rx ry h
  obtain ⟨a, b, xs, rfl, rfl, n, ha, hb, q⟩ := h
  cases (show v = Value.ref a from rx)
  cases (show u = Value.ref b from ry)
  obtain ⟨us, r1, p1, _⟩ := I.list ha
  obtain ⟨ws, r2, p2, _⟩ := I.list hb
  exact PySem.SeqAt.RcNeAt.lists_lengths p1.isList p2.isList (sizes_ne n r1 r2) hu X.prog X.w _ _ ⟨.bl true, H, I, rfl, q⟩
def rEqL (K : Fg) : R2 := fun x y H Q => rEqD K x y H Q ∨ rEqE K x y H Q
def rNeL (K : Fg) : R2 := fun x y H Q => rNeD K x y H Q ∨ rNeE K x y H Q
theorem op_eqL (hu : X.A.units + 64 < cLine) : OpR X (compareOp .Eq) (rEqL X.K) := (op_eqD hu).or (op_eqE (by omega))
theorem op_neL (hu : X.A.units + 64 < cLine) : OpR X (compareOp .NotEq) (rNeL X.K) := (op_neD hu).or (op_neE (by omega))
end
def gEqL (d e : D) (F : D → Prop) : Prop := match d, e with
  | .lst xs, .lst [] => F (.bl xs.isEmpty)
  | _, _ => False
def gNeL (d e : D) (F : D → Prop) : Prop := match d, e with
  | .lst xs, .lst [] => F (.bl (!xs.isEmpty))
  | _, _ => False
theorem rd_eqL {K : Fg} : RD K (rEqL K) gEqL := fun H G x y d e F Q s rx ry h k => by
  unfold gEqL at h
  split at h
  · rename_i xs
    obtain ⟨a, vs, e1, g1, r1⟩ := rx.lst_of
    obtain ⟨b, ws, e2, g2, r2⟩ := ry.lst_of
    cases r2
    cases r1 with
    | nil => exact .inl ⟨.list [], .list [], by rw [e1]; exact .lst (SqL.of (s _ _ g1)) .nil, by rw [e2]; exact .lst (SqL.of (s _ _ g2)) .nil, rfl, rfl, k _ _ H G (Go.refl s .no) (.bl _) h⟩
    | cons c1 c2 => exact .inr ⟨a, b, _, e1, e2, List.cons_ne_nil _ _, SqL.of (s _ _ g1), SqL.of (s _ _ g2), k _ _ H G (Go.refl s .no) (.bl _) h⟩
  · exact h.elim
theorem rd_neL {K : Fg} : RD K (rNeL K) gNeL := fun H G x y d e F Q s rx ry h k => by
  unfold gNeL at h
  split at h
  · rename_i xs
    obtain ⟨a, vs, e1, g1, r1⟩ := rx.lst_of
    obtain ⟨b, ws, e2, g2, r2⟩ := ry.lst_of
    cases r2
    cases r1 with
    | nil => exact .inl ⟨.list [], .list [], by rw [e1]; exact .lst (SqL.of (s _ _ g1)) .nil, by rw [e2]; exact .lst (SqL.of (s _ _ g2)) .nil, rfl, rfl, k _ _ H G (Go.refl s .no) (.bl _) h⟩
    | cons c1 c2 => exact .inr ⟨a, b, _, e1, e2, List.cons_ne_nil _ _, SqL.of (s _ _ g1), SqL.of (s _ _ g2), k _ _ H G (Go.refl s .no) (.bl _) h⟩
  · exact h.elim
end DL

set_option Elab.async false
set_option linter.all false
set_option maxRecDepth 100000
set_option maxHeartbeats 4000000
namespace DL
open PySem L2 PySem.Spec PyProof.Rows
/-! ### what is never reached -/
section
variable {X : Cx} {c : Ct} {W : WX} {st : Stmt} {e a b : Expr} {es : List Expr} {pos p p2 q : Pos} {ma : ME} {ta : TE} {mr : MA} {tr : TA}
theorem ds_never : DS X c W st (fun _ _ _ => False) (fun _ _ => False) := ⟨⟨fun _ _ _ _ _ _ h => h.elim⟩, fun _ _ _ _ _ _ _ _ h _ => h.elim⟩
theorem de_never : DE X c W e (fun _ _ _ => False) (fun _ _ _ => False) := ⟨⟨fun _ _ _ _ _ _ h => h.elim⟩, fun _ _ _ _ _ _ _ _ _ h _ _ => h.elim⟩
/-! ### sorted(set(x)) of an empty list -/
def gSort0 (d : D) (F : D → Prop) : Prop := match d with
  | .lst [] => F (.lst [])
  | _ => False
theorem de_sortSet0 (hc : X.calm = true) (hu : X.A.units + 64 < cLine) (hg : Gl X "sorted") (hm : X.mg "sorted" = none) (hg2 : Gl X "set") (hm2 : X.mg "set" = none) (ha : DE X c W a ta ma)
    (h2 : starEach [a] X.env = (false, eval a X.env) :: starEach [] X.env := by rfl)
    (h1 : starEach [.Call (.Name "set" p2) [a] [] q] X.env = (false, eval (.Call (.Name "set" p2) [a] [] q) X.env) :: starEach [] X.env := by rfl) :
    DE X c W (.Call (.Name "sorted" p) [.Call (.Name "set" p2) [a] [] q] [] pos) (tCB (rSortedT X.K X.prog X.w) (tCons (tCB (rSetOfT X.K X.prog X.w) (tCons ta tNil)) tNil)) (fun δ F Y => ma δ (fun d => gSort0 d F) Y) := by
  refine ⟨pe_callB (cr_sortedT hc) hg hm (by decide +kernel) (pa_cons (pe_callTy (cr_setOfT hc hu) hg2 hm2 (by decide +kernel) (pa_cons ha.p pa_nil h2) (by decide) (by decide) h2 (by rfl)) pa_nil h1) (by decide) (by decide) h1 (by rfl), fun H G σ δ F Y Q cr rs h k x => ?_⟩
  refine ha.w H G σ δ _ _ _ cr rs h (fun v d H1 G1 g1 r1 f => ?_) x
  unfold gSort0 at f
  split at f
  · obtain ⟨l, xs, rfl, h3, r2⟩ := r1.lst_of
    cases r2
    refine ⟨l, [], rfl, SqL.of (g1.sub _ _ h3), (fun _ z => by cases z), by decide, fun s L hs hL _ => ?_⟩
    have e : L = [] := List.eq_nil_iff_forall_not_mem.mpr fun z hz => by cases hL z hz
    subst e
    refine ⟨s, [], 1, 0, rfl, upd_same, (fun _ z => by cases z), by decide, (fun _ z => by cases z), fun L' t hp _ _ _ ht => ?_⟩
    have e : L' = [] := List.perm_nil.mp hp
    subst e
    have g2 := Go.mine (o := SetTO X.prog X.w s []) g1.sub hs
    have g3 := Go.laid (o := .lst []) g2.sub ht
    exact k (.ref t) (.lst []) _ _ ((g1.trans (g2.lift g1.deal)).trans (g3.lift (g2.lift g1.deal).deal)) (.lst upd_same .nil) f
  · exact f.elim
end

/-! ### two loops in one list, the outer one over nothing -/
section
variable {X : Cx} {c : Ct} {W : WX} {elt iter tg iter1 tg1 : Expr} {scope : Scope} {own : List (Str × Nat)} {pos : Pos} {ti : TI} {mi : MA}
theorem de_lc2E (hc : X.calm = true) (hN : X.N.Nodup) (hi : DIC X c W tg iter ti mi) (ok : BlkOk X.N X.env.scope scope own) (hs : ∀ x, foldedSetIterable iter X.env x = pure x := by intro _; rfl) (hs1 : ∀ env x, foldedSetIterable iter1 env x = pure x := by intro _ _; rfl) :
    DE X c W (.ListComp elt [⟨tg, iter, [], 0⟩, ⟨tg1, iter1, [], 0⟩] scope pos) (tLc2 ti (fun _ _ _ _ => False) tYes (fun _ _ _ => False) (fun _ _ _ _ => False) tYes (fun _ _ _ => False) (own.map (·.2)) []) (fun δ F Y => mi δ (fun ds => ds = [] ∧ F (.lst [])) Y) := by
  refine ⟨pe_lc2 hc hN hi.p ok (fun _ z => by cases z) (fun _ _ _ _ _ => ⟨fun _ _ _ _ _ _ _ _ _ h => h.elim⟩) (fun _ _ _ _ _ => pts_nil) (fun _ _ _ _ _ => ⟨fun _ _ _ _ _ _ h => h.elim⟩) (fun _ _ _ _ _ => ⟨fun _ _ _ _ _ _ _ _ _ h => h.elim⟩) (fun _ _ _ _ _ => pts_nil) (fun _ _ _ _ _ => ⟨fun _ _ _ _ _ _ h => h.elim⟩) hs hs1, fun H G σ δ F Y Q cr rs h q x => ?_⟩
  refine hi.w H G σ δ _ _ _ cr rs h (fun J ds H1 G1 g1 wk f => ?_) x
  obtain ⟨rfl, f⟩ := f
  intro D hD
  refine ⟨fun i m H' => i = 0 ∧ H' = upd H1 D (.lst []), ⟨0, rfl, rfl⟩, ?_⟩
  rintro i m H2 ⟨rfl, rfl⟩
  have g2 := Go.laid (o := .lst []) g1.sub hD
  have g3 := g2.lift g1.deal
  exact .inl ⟨(wk 0 _ _ g3).2 rfl, q (.ref D) (.lst []) _ _ (g1.trans g3) (.lst upd_same .nil) f⟩
end

section
variable {X : Cx} {c : Ct} {W : WX} {ss : List Stmt} {es : List Expr} {elt iter tg : Expr} {ifs : List Expr} {scope : Scope} {own : List (Str × Nat)} {pos : Pos} {ti : TI} {mi : MA} {is : List Nat} {tgg : Shared → Hp → Addr → List (Str × Addr) → List Addr → TG} {mg : Shared → Hp → Addr → List (Str × Addr) → List Addr → MG}
  {tt : Shared → Hp → Addr → List (Str × Addr) → List Addr → TT} {mt : Shared → Hp → Addr → List (Str × Addr) → List Addr → MT} {te : Shared → Hp → Addr → List (Str × Addr) → List Addr → TE} {me : Shared → Hp → Addr → List (Str × Addr) → List Addr → ME}
theorem dss_never : DSs X c W ss (fun _ _ _ => False) (fun _ _ => False) := ⟨⟨fun _ _ _ _ _ _ h => h.elim⟩, fun _ _ _ _ _ _ _ _ h _ => h.elim⟩
theorem dts_never : DTs X c W es (fun _ _ _ => False) (fun _ _ _ => False) := ⟨⟨fun _ _ _ _ _ _ h => h.elim⟩, fun _ _ _ _ _ _ _ _ _ h _ _ => h.elim⟩
theorem ds_setLcF (i : Nat) {y : Str} {py spos : Pos} (hc : X.calm = true) (hN : X.N.Nodup) (hy : X.N[i]? = some y) (hyl : X.env.scope.names.lookup y = some .local)
    (hsw : swapsWith (.ListComp elt [⟨tg, iter, ifs, 0⟩] scope pos) (some (.Name y py)) spos.line X.env = pure true) (hi : DIC X c W tg iter ti mi) (ok : BlkOk X.N X.env.scope scope own) (hv : ∀ i ∈ is, i ∈ own.map (·.2))
    (hg : ∀ (s : Shared) (H : Hp) (C : Addr) (cl : List (Str × Addr)) (fp : List Addr), DG (Blk X scope s H C cl fp) tg (tgg s H C cl fp) is (mg s H C cl fp))
    (ht : ∀ (s : Shared) (H : Hp) (C : Addr) (cl : List (Str × Addr)) (fp : List Addr), DTs (Blk X scope s H C cl fp) c W0 ifs (tt s H C cl fp) (mt s H C cl fp))
    (he : ∀ (s : Shared) (H : Hp) (C : Addr) (cl : List (Str × Addr)) (fp : List Addr), DE (Blk X scope s H C cl fp) c W0 elt (te s H C cl fp) (me s H C cl fp))
    (hs : ∀ x, foldedSetIterable iter X.env x = pure x := by intro _; rfl)
    (q1 : ∀ s H C cl fp, tgg s H C cl fp = z5 tgg := by intros; rfl) (q2 : ∀ s H C cl fp, mg s H C cl fp = z5 mg := by intros; rfl) (q3 : ∀ s H C cl fp, tt s H C cl fp = z5 tt := by intros; rfl)
    (q4 : ∀ s H C cl fp, mt s H C cl fp = z5 mt := by intros; rfl) (q5 : ∀ s H C cl fp, te s H C cl fp = z5 te := by intros; rfl) (q6 : ∀ s H C cl fp, me s H C cl fp = z5 me := by intros; rfl) :
    DS X c W (.Assign [.Name y py] (.ListComp elt [⟨tg, iter, ifs, 0⟩] scope pos) spos) (tAsg (tLc ti (z5 tgg) (z5 tt) (z5 te) (own.map (·.2))) (gName i)) (msSet i (mLc mi (z5 mg) (z5 mt) (z5 me) (own.map (·.2)))) :=
  ds_setLc i hc hN hy hyl hsw hi ok hv (fun s H C cl fp => by rw [← q1 s H C cl fp, ← q2 s H C cl fp]; exact hg s H C cl fp) (fun s H C cl fp => by rw [← q3 s H C cl fp, ← q4 s H C cl fp]; exact ht s H C cl fp)
    (fun s H C cl fp => by rw [← q5 s H C cl fp, ← q6 s H C cl fp]; exact he s H C cl fp) hs
end
end DL

set_option Elab.async false
set_option linter.all false
set_option maxRecDepth 100000
set_option maxHeartbeats 4000000
namespace DL
open PySem L2 PySem.Spec PyProof.Rows
/-- a class that others make, with the defaults that fill up -/
structure MkrD (P : Program) (w : World) (K : Fg) (mg : Str → Option Value) (base : Heap) (x : Str) (C : Addr) (k n : Nat) (ff : FI) (dvs : List V) (dd : List D) : Prop where
  ok : ∃ (fI : Addr) (fd : FuncData) (ps : List Str) (ds : List Value), Mk K C fI ∧ FnOk P w K mg base (L2.CX P w) k fI fd ps (spI K n C ff) ∧ mg x = some (.ref C) ∧ Vals dvs ds ∧ Binds K fd ps ds ∧ ∀ G, RepL K G dvs dd
section
variable {X : Cx} {c : Ct} {E : XK} {e : Expr} {es : List Expr} {pos p : Pos} {x : Str} {mr : MA} {tr : TA} {C : Addr} {k n : Nat} {dvs : List V} {dd : List D} {ff : FI}
theorem de_mk (M : Mkr X.prog X.w X.K X.mg X.base x C k n ff) (hr : Room (k + 1) X.A) (hg : Gl X x) (tk : Takes X (WF E)) (ha : DA X c (WF E) (e :: es) tr mr)
    (hdb : (x == ("__debug__" : Str)) = false := by decide) (he : starEach (e :: es) X.env = (false, eval e X.env) :: starEach es X.env := by rfl) (hpl : (backTo pos (starEach es X.env)).any (·.1) = false := by rfl) :
    DE X c (WF E) (.Call (.Name x p) (e :: es) [] pos) (tMake C (spI X.K n C ff) [] (fun cls d H => ∀ σ, WF E cls d σ H) tr) (mMake C ff [] n mr) := by
  obtain ⟨fI, fd, ps, m, F, hm, hb⟩ := M.ok
  exact de_make m F hr hg hm hb .nil (fun _ => .nil) tk (fun _ _ _ _ _ h => h) ha hdb he hpl
theorem de_mkD (M : MkrD X.prog X.w X.K X.mg X.base x C k n ff dvs dd) (hr : Room (k + 1) X.A) (hg : Gl X x) (tk : Takes X (WF E)) (ha : DA X c (WF E) (e :: es) tr mr)
    (hdb : (x == ("__debug__" : Str)) = false := by decide) (he : starEach (e :: es) X.env = (false, eval e X.env) :: starEach es X.env := by rfl) (hpl : (backTo pos (starEach es X.env)).any (·.1) = false := by rfl) :
    DE X c (WF E) (.Call (.Name x p) (e :: es) [] pos) (tMake C (spI X.K n C ff) dvs (fun cls d H => ∀ σ, WF E cls d σ H) tr) (mMake C ff dd n mr) := by
  obtain ⟨fI, fd, ps, ds, m, F, hm, hd, hb, hdd⟩ := M.ok
  exact de_make m F hr hg hm hb hd hdd tk (fun _ _ _ _ _ h => h) ha hdb he hpl
end
end DL

set_option Elab.async false
set_option linter.all false
set_option maxRecDepth 100000
set_option maxHeartbeats 4000000
namespace DL
open PySem L2 PySem.Spec PyProof.Rows
section
variable {X : Cx} {c : Ct} {W : WX} {pos pos' : Pos} {x : Str} {C : Addr}
abbrev ob0 : Obj := { cls := .none, data := .fields #[] }
theorem ds_tryF (i : Nat) {n : Str} {np : Pos} {body suite : List Stmt} {b0 : Stmt} {tb : WX → List (Addr × Obj) → (Value → Shared → Prop) → TS} {ts : Addr → Obj → Option Addr → List (Addr × Obj) → TS} {mb : WX → List (Addr × Obj) → (Value → Shared → Prop) → MS} {ms : Addr → Obj → Option Addr → List (Addr × Obj) → MS} {cv : Value}
    (hs : X.stack = X.env :: X.outer) (hf : X.env.frame = some X.env.locals) (hN : X.N.Nodup) (hi : X.N[i]? = some n) (hln : X.env.kindOf n = some .local) (hc : Names X x cv) (tk : Takes X W)
    (hC : PySem.W.exmOne X.K (.ref C) cv = some true)
    (hb : ∀ (W2 : WX) (pn : List (Addr × Obj)) (xe : Value → Shared → Prop), Takes (X.tr pn xe) W2 → DSs (X.tr pn xe) c W2 body (tb W2 pn xe) (mb W2 pn xe))
    (hsu : ∀ (a : Addr) (oe : Obj) (d : Option Addr) (pn : List (Addr × Obj)), Zc (.ref C) d oe → (∃ vs, oe.data = .fields vs) → DSs (X.suite a ((a, oe) :: pn)) c W0 (b0 :: suite) (ts a oe d pn) (ms a oe d pn))
    (q1 : ∀ W2 pn xe, tb W2 pn xe = tb W2 [] X.xe := by intros; rfl) (q2 : ∀ W2 pn xe, mb W2 pn xe = mb W0 [] X.xe := by intros; rfl)
    (q3 : ∀ a oe d pn, ts a oe d pn = ts a ob0 d [] := by intros; rfl) (q4 : ∀ a oe d pn, ms a oe d pn = ms a ob0 d [] := by intros; rfl) :
    DS X c W (.Try body [.ExceptHandler (some (.Name x np)) (some n) (b0 :: suite) pos'] [] [] pos) (fun Y σ H => tb (wAs X.K cv i (tsOnly C fun a d => ts a ob0 d []) W Y) [] X.xe Y σ H) (msTry X.K i C cv (mb W0 [] X.xe) fun a d => ms a ob0 d []) :=
  ds_try i (pos2 := pos) (tb := fun W2 => tb W2 [] X.xe) (ts := fun a d => ts a ob0 d []) hs hf hN hi hln hc tk hC (fun W2 pn xe t => by rw [← q1 W2 pn xe, ← q2 W2 pn xe]; exact hb W2 pn xe t)
    (fun a oe d pn hz h => by rw [← q3 a oe d pn, ← q4 a oe d pn]; exact hsu a oe d pn hz h)
end
end DL

set_option Elab.async false
set_option linter.all false
set_option maxRecDepth 100000
set_option maxHeartbeats 4000000
namespace DL
open PySem L2 PySem.Spec PyProof.Rows
/-! ### more of integers -/
abbrev gGe : D → D → (D → Prop) → Prop := gI0 fun i j => .bl (decide (j ≤ i))
abbrev gGt : D → D → (D → Prop) → Prop := gI0 fun i j => .bl (decide (j < i))
theorem rd_ge {K : Fg} : RD K (rI0 fun i j => .bl (decide (j ≤ i))) gGe := rd_I0 fun i j G => .bl _
theorem rd_gt {K : Fg} : RD K (rI0 fun i j => .bl (decide (j < i))) gGt := rd_I0 fun i j G => .bl _
abbrev gMod : D → D → (D → Prop) → Prop := gI (fun _ j => 0 < j) fun i j => .int (i % j)
theorem rd_mod {K : Fg} : RD K (rI (fun _ j => 0 < j) fun i j => .int (i % j)) gMod := rd_I fun i j G => .int _
abbrev gPow : D → D → (D → Prop) → Prop := gI CPow fun i j => .int (i ^ j.toNat)
theorem rd_pow {K : Fg} : RD K (rI CPow fun i j => .int (i ^ j.toNat)) gPow := rd_I fun i j G => .int _
/-! ### loops by what stays true -/
theorem forD_inv {mg : MG} {mb : MS} {k : MK} (I : List Sl → Prop) : ∀ (ds : List D) (δ : List Sl), (∀ d ∈ ds, ∀ δ, I δ → ∀ k' : MK, (∀ δ2, I δ2 → k'.nx δ2) → mg d δ fun δ' => mb δ' k') → I δ → (∀ δ, I δ → k.nx δ) → forD mg mb ds δ k
  | [], δ, _, i, h => h δ i
  | d :: ds, δ, st, i, h => by
    refine st d (by simp) δ i _ fun δ2 i2 => ?_
    exact forD_inv I ds δ2 (fun e he => st e (by simp [he])) i2 h
/-! ### own lists -/
theorem flat_rep {K : Fg} {G G' : Hp} {v : V} {d : D} (r : Rep K G v d) (h : flatD d = true) : Rep K G' v d := by
  cases r with
  | non => exact .non
  | bl b => exact .bl b
  | int i => exact .int i
  | str x => exact .str x
  | _ => cases h
theorem notDl_own {c : Ct} {H G : Hp} (cr : Cr c H G) {p : Addr} (h : c.He p = none) : NotDl c.dl p := fun p' l' e => by
  obtain ⟨h1, h2⟩ := cr.he p' l' e
  exact ⟨fun z => h1 (z ▸ h), fun z => h2 (z ▸ h)⟩
/-- known for the time of a call -/
theorem Go.lend {dl : Dl} {H G H' G' : Hp} {p : Addr} {o : HO} (s : Same G H) (d : DlOk dl H G) (hp : H p = some o) (np : G p = none) (b : Go none H (upd G p o) H' G') : Go dl H G H' G where
  keep := fun a u h _ => b.keep a u h .non
  grow := Same.refl _
  sub := fun a u h => b.keep a u (s _ _ h) .non
  new := fun _ _ h => .inl h
  deal := fun p' l' e => by
    obtain ⟨⟨ns, m, h1, h2, h3⟩, g1, g2⟩ := d p' l' e
    exact ⟨⟨ns, m, b.keep _ _ h1 .non, b.keep _ _ h2 .non, h3⟩, g1, g2⟩
def mCallO (j : Nat) (ff : FF) (ma : ME) : ME := fun δ F X => ma δ (fun d => match δ[j]? with
  | some (.own bs) => ff [d, .lst bs] (fun r => flatD r = true ∧ F r) (fun _ => False)
  | _ => False) X
section
variable {X : Cx} {c : Ct} {W : WX} {e a b tg : Expr} {es : List Expr} {pos p : Pos} {x : Str} {k n : Nat} {ff : FF} {ma mb me : ME} {mr : MA} {ta tb te : TE} {tr : TA} {K : Fg}
theorem we_callO {j : Nat} (wa : WE K c W ta ma) : WE K c W (tCallSD (spD K 2 false ff) [] (fun σ cls d H => W cls d σ H) (tCons ta (tCons (tVar j) tNil))) (mCallO j ff ma) := fun H G σ δ F X Q cr rs h q x => by
  refine wa H G σ δ _ _ _ cr rs h (fun v d H1 G1 g1 r1 h1 => ?_) x
  have rs1 := rs.step cr g1
  have cr1 := cr.step g1
  split at h1
  · rename_i bs ej
    obtain ⟨y, q1, p', ys, q2, q3, q4, q5, q6⟩ := rs1.at_ _ _ ej
    subst q2
    refine ⟨_, q1, ?_⟩
    have sm : Same G1 (upd G1 p' (.lst ys)) := fun a u z => by rw [upd_ne (ne_of_none z q4)]; exact z
    have sub : Same (upd G1 p' (.lst ys)) H1 := fun a u z => by
      by_cases e : a = p'
      · subst e
        rw [upd_same] at z
        cases z
        exact q3
      · rw [upd_ne e] at z
        exact g1.sub _ _ z
    refine ⟨upd G1 p' (.lst ys), [d, .lst bs], none, [v, .ref p'], _, _, rfl, ⟨rfl, rfl⟩, sub, .no, .cons (r1.mono sm) (.cons (.lst upd_same (q6.mono sm)) .nil), h1, fun v2 d2 H2 G2 g2 r2 f2 => ?_, fun _ _ _ _ _ _ _ f2 => f2.elim⟩
    exact q v2 d2 H2 G1 (g1.trans (Go.lend g1.sub g1.deal q3 q4 g2)) (flat_rep r2 f2.1) f2.2
  · exact h1.elim
theorem de_fO (j : Nat) {z : Str} {zp : Pos} (C : Fn X.prog X.w X.K X.mg X.base x k 2 false ff) (hr : Room k X.A) (hg : Gl X x) (tk : Takes X W)
    (ha : DE X c W e ta ma) (hz : PE X (.Name z zp) (tVar j)) (hdb : (x == ("__debug__" : Str)) = false := by decide) (he1 : starEach [.Name z zp] X.env = [(false, eval (.Name z zp) X.env)] := by rfl) (he : starEach [e, .Name z zp] X.env = (false, eval e X.env) :: starEach [.Name z zp] X.env := by rfl) (hpl : (backTo pos (starEach [.Name z zp] X.env)).any (·.1) = false := by rfl) :
    DE X c W (.Call (.Name x p) [e, .Name z zp] [] pos) (tCallSD (spD X.K 2 false ff) [] (fun σ cls d H => W cls d σ H) (tCons ta (tCons (tVar j) tNil))) (mCallO j ff ma) := by
  obtain ⟨f, fd, ps, F, hm, hk, hb⟩ := C.ok
  exact ⟨pe_callSD F hr hg hm hk hb .nil (passAt tk) (pa_cons ha.p (pa_cons hz pa_nil he1) he) hdb he hpl, we_callO ha.w⟩
/-- len of an own list -/
def mLenO (j : Nat) : ME := fun δ F _ => match δ[j]? with
  | some (.own bs) => F (.int bs.length)
  | _ => False
abbrev rLenX (K : Fg) : List V → Hp → VK → Prop := fun xs H Q => ∃ x n, xs = [x] ∧ LenV K x H n ∧ Q (.int n) H
theorem de_lenO (j : Nat) {z : Str} {zp : Pos} (hg : Gl X "len") (hm : X.mg "len" = none) (hv : bootBuiltins "len" = some (.builtin "len")) (hz : PE X (.Name z zp) (tVar j)) (he1 : starEach [.Name z zp] X.env = [(false, eval (.Name z zp) X.env)] := by rfl) :
    DE X c W (.Call (.Name "len" p) [.Name z zp] [] pos) (tCB (rLenX X.K) (tCons (tVar j) tNil)) (mLenO j) := by
  refine ⟨pe_callB call_len hg hm hv (pa_cons hz pa_nil he1), fun H G σ δ F Y Q cr rs h q _ => ?_⟩
  unfold mLenO at h
  split at h
  · rename_i bs ej
    obtain ⟨y, q1, p', ys, q2, q3, q4, q5, q6⟩ := rs.at_ _ _ ej
    subst q2
    refine ⟨_, q1, _, ys.length, rfl, Or.inl ⟨_, SqL.of q3, rfl⟩, ?_⟩
    refine q _ _ H G cr.rfl' (.int _) ?_
    rw [q6.length]
    exact h
  · exact h.elim
/-- xs[i] = e, xs an own list -/
theorem Cr.setOwn {H G : Hp} (cr : Cr c H G) {p : Addr} {xs ys : List V} (h1 : H p = some (.lst xs)) (h2 : G p = none) (h3 : c.He p = none) : Cr c (upd H p (.lst ys)) G where
  keep := fun a o z nd m => by rw [upd_ne (ne_of_none z h3)]; exact cr.keep a o z nd m
  grow := cr.grow
  sub := fun a o z => by rw [upd_ne (ne_of_none z h2)]; exact cr.sub a o z
  new := cr.new
  dlok := fun p' l' e => by
    obtain ⟨⟨ns, m, q1, q2, q3⟩, g1, g2⟩ := cr.dlok p' l' e
    obtain ⟨n1, n2⟩ := notDl_own cr h3 p' l' e
    exact ⟨⟨ns, m, by rw [upd_ne (Ne.symm n1)]; exact q1, by rw [upd_ne (Ne.symm n2)]; exact q2, q3⟩, g1, g2⟩
  he := cr.he
  sfo := fun a e => by
    obtain ⟨C, dx, fv, z⟩ := cr.sfo a e
    refine ⟨C, dx, fv, ?_⟩
    rw [upd_ne (fun y => by rw [y, h1] at z; cases z)]
    exact z
theorem RS.setOwn {H G : Hp} {σ : L2.St} {δ : List Sl} (r : RS K c H G σ δ) (cr : Cr c H G) {j : Nat} {p : Addr} {xs ys : List V} {ds es : List D} (hj : δ[j]? = some (.own ds)) (hs : σ[j]? = some (some (.ref p))) (h1 : H p = some (.lst xs)) (h2 : G p = none) (h3 : c.He p = none) (rl : RepL K G ys es) :
    RS K c (upd H p (.lst ys)) G σ (δ.set j (.own es)) where
  len := by rw [List.length_set]; exact r.len
  at_ := fun i t e => by
    by_cases hij : j = i
    · subst hij
      have hl : j < δ.length := (List.getElem?_eq_some_iff.mp hj).1
      rw [List.getElem?_set_self hl] at e
      cases e
      exact ⟨_, hs, p, ys, rfl, upd_same, h2, h3, rl⟩
    · rw [List.getElem?_set_ne hij] at e
      obtain ⟨x, q1, q2⟩ := r.at_ i t e
      refine ⟨x, q1, ?_⟩
      cases t with
      | un => trivial
      | dat d => exact q2
      | own fs =>
        obtain ⟨p', xs', a1, a2, a3, a4, a5⟩ := q2
        subst a1
        have ne : p' ≠ p := fun z => by
          subst z
          exact r.sep j i p' ds fs hij hj e hs q1
        exact ⟨p', xs', rfl, by rw [upd_ne ne]; exact a2, a3, a4, a5⟩
      | deal => exact q2
      | exn a C d fs => exact q2
      | self C fs =>
        obtain ⟨a, dx, fv, a1, a2, a3, a4, a5⟩ := q2
        refine ⟨a, dx, fv, a1, a2, ?_, a4, a5⟩
        rw [upd_ne (fun z => by rw [z, h1] at a3; cases a3)]
        exact a3
  sep := fun i k q ds' fs n e1 e2 h => by
    have up : ∀ (i : Nat) (ds' : List D), (δ.set j (.own es))[i]? = some (.own ds') → ∃ ds2, δ[i]? = some (.own ds2) := fun i ds' e => by
      by_cases hij : j = i
      · subst hij
        exact ⟨_, hj⟩
      · rw [List.getElem?_set_ne hij] at e
        exact ⟨_, e⟩
    obtain ⟨_, z1⟩ := up i ds' e1
    obtain ⟨_, z2⟩ := up k fs e2
    exact r.sep i k q _ _ n z1 z2 h
def msSetO (j : Nat) (me mi : ME) : MS := fun δ k => me δ (fun d => match δ[j]? with
  | some (.own ds) => mi δ (fun i => match i with
    | .int i => 0 ≤ i ∧ i < ds.length ∧ k.nx (δ.set j (.own (ds.set i.toNat d)))
    | _ => False) (fun x => k.rs x δ)
  | _ => False) (fun x => k.rs x δ)
theorem ixN_in {n : Nat} {i : Int} (h0 : 0 ≤ i) (h1 : i < n) : ixN n i = some i.toNat := by
  unfold ixN
  split <;> first | rfl | (split <;> first | rfl | omega) | omega
theorem ds_setO (j : Nat) {z : Str} {zp sp : Pos} {ti : TE} {mi : ME} {i : Expr} (hz : PE X (.Name z zp) (tVar j)) (he : DE X c W e te me) (hi : DE X c W i ti mi)
    (hp : PE X (.Name z zp) (tVar j) → PE X i ti → PG X (.Subscript (.Name z zp) i sp) (gSub (tVar j) ti rSetL) := by exact fun a b => pg_sub a b set_list)
    (hs : swapsWithSole [.Subscript (.Name z zp) i sp] e pos.line X.env = pure false := by rfl) (hw : swappedStores [.Subscript (.Name z zp) i sp] e X.env = pure none := by rfl)
    (h1 : (assignEach [.Subscript (.Name z zp) i sp] X.env).map (·.2) = [assign (.Subscript (.Name z zp) i sp) X.env] := by rfl) :
    DS X c W (.Assign [.Subscript (.Name z zp) i sp] e pos) (tAsg te (gSub (tVar j) ti rSetL)) (msSetO j me mi) := by
  refine ⟨ps_asg he.p (hp hz hi.p) hs hw h1, fun H G σ δ k Y cr rs h en => ?_⟩
  refine he.w H G σ δ _ _ _ cr rs h (fun v d H1 G1 g1 r1 h2 => ?_) (en.xw cr rs)
  have cr1 := cr.step g1
  have rs1 := rs.step cr g1
  split at h2
  · rename_i ds ej
    obtain ⟨y, q1, p0, _, q2, _⟩ := rs1.at_ _ _ ej
    subst q2
    refine ⟨_, q1, ?_⟩
    refine hi.w H1 G1 σ δ _ _ _ cr1 rs1 h2 (fun u b H2 G2 g2 r2 h3 => ?_) ((en.mono g1.grow).xw cr1 rs1)
    split at h3
    · rename_i n
      obtain ⟨n0, n1, h3⟩ := h3
      have cr2 := cr1.step g2
      have rs2 := rs1.step cr1 g2
      obtain ⟨y, u1, p', ys, u2, u3, u4, u5, u6⟩ := rs2.at_ _ _ ej
      rw [q1] at u1
      cases u1
      cases u2
      refine ⟨p0, ys, n, n.toNat, rfl, r2.int_of, u3, ixN_in n0 (by rw [u6.length]; exact n1), ?_⟩
      have r1' := r1.mono g2.grow
      exact en.nx _ _ _ G2 (cr2.setOwn u3 u4 u5) (rs2.setOwn cr2 ej q1 u3 u4 u5 (u6.set _ r1')) (g1.grow.trans g2.grow) h3
    · exact h3.elim
  · exact h2.elim
/-- a comprehension that is one's own -/
def moLc (mi : MA) (mg : MG) (mt : MT) (me : ME) (vs : List Nat) : MA := fun δ F X => mi δ (fun ds => ds.length < sizeLine ∧ lcD mg mt me (wipeD δ vs) F ds []) X
theorem wo_lc {wi : TI} {g : TG} {tt : TT} {is vs : List Nat} {mi : MA} {mg : MG} {mt : MT} (hv : ∀ i ∈ is, i ∈ vs) (ww : WIC K c W wi mi) (wg : WG K g is mg) (wt : WT K c W0 tt mt) (we : WE K c W0 te me) :
    WO K c W (tLc wi g tt te vs) (moLc mi mg mt me vs) := fun H G σ δ F X Q cr rs h q x => by
  refine ww H G σ δ _ X _ cr rs h (fun J ds H1 G1 g1 wk f => ?_) x
  obtain ⟨hz, f⟩ := f
  have cr1 := cr.step g1
  have rs1 := (rs.step cr g1).wipe vs
  intro D hD
  have nD : G1 D = none := by
    cases z : G1 D with
    | none => rfl
    | some o =>
      rw [g1.sub _ _ z] at hD
      cases hD
  refine ⟨fun i n H' => n = ds.length - i ∧ i ≤ ds.length ∧ ∃ G' acc rr, Go c.dl H1 G1 H' G' ∧ H' D = some (.lst acc) ∧ G' D = none ∧ RepL K G' acc rr ∧ acc.length ≤ i ∧ lcD mg mt me (wipeD δ vs) F (ds.drop i) rr,
    ⟨ds.length, by simp, Nat.zero_le _, G1, [], [], (Go.mine cr1.sub hD).lift cr1.dlok, upd_same, nD, .nil, Nat.le_refl _, f⟩, ?_⟩
  rintro i n H2 ⟨rfl, hi, G2, acc, rr, g2, hA, nG, ra, hl, f2⟩
  obtain ⟨w1, w2⟩ := wk i H2 G2 g2
  by_cases hlt : i < ds.length
  · right
    have hd : ds[i]? = some ds[i] := List.getElem?_eq_getElem hlt
    obtain ⟨go, y⟩ := w1 _ hd
    rw [List.drop_eq_getElem_cons hlt] at f2
    refine ⟨go, fun H' => ∃ G' acc rr, Go c.dl H1 G1 H' G' ∧ H' D = some (.lst acc) ∧ G' D = none ∧ RepL K G' acc rr ∧ acc.length ≤ i + 1 ∧ lcD mg mt me (wipeD δ vs) F (ds.drop (i + 1)) rr,
      fun H' z => ⟨ds.length - (i + 1), by omega, rfl, hlt, z⟩, fun v H3 hy => ?_⟩
    obtain ⟨G3, g3, r3⟩ := y v H3 hy
    have cr2 : Cr c H2 G2 := cr1.step g2
    have rs2 := rs1.step cr1 g2
    have g3' := g3.lift cr2.dlok
    have step : ∀ {H4 G4 : Hp}, Go c.dl H2 G2 H4 G4 → H4 D = some (.lst acc) ∧ G4 D = none := fun {H4 G4} g4 => by
      refine ⟨g4.keep _ _ hA fun p l e => ?_, ?_⟩
      · obtain ⟨⟨_, _, q1, q2, _⟩, _⟩ := cr1.dlok p l e
        exact ⟨fun z => (by rw [z, q1] at hD; cases hD), fun z => (by rw [z, q2] at hD; cases hD)⟩
      · cases z : G4 D with
        | none => rfl
        | some o => rcases g4.new _ _ z with y | y
                    · rw [nG] at y; cases y
                    · rw [hA] at y; cases y
    refine wg c H3 G3 (L2.wipe σ vs) (wipeD δ vs) v _ _ _ g3.sub (rs2.step cr2 g3') r3 f2 fun σ4 δ4 rs4 z4 f4 => ⟨?_, ?_⟩
    · rw [z4 vs hv]
      exact wipe_wipe σ vs vs fun _ h => h
    refine wt H3 G3 σ4 δ4 _ _ _ (cr2.step g3') rs4 f4 (fun b H5 G5 g5 f5 => ?_) XW.no
    have g5' := g3'.trans g5
    cases b with
    | true =>
      show te σ4 H5 _
      refine we H5 G5 σ4 δ4 _ _ _ ((cr2.step g3').step g5) (rs4.step (cr2.step g3') g5) f5 (fun u d H6 G6 g6 r6 f6 => ?_) XW.no
      have g6' := g5'.trans g6
      obtain ⟨h6, n6⟩ := step g6'
      refine ⟨acc, h6, Nat.lt_of_le_of_lt hl (Nat.lt_trans hlt hz), G6, acc ++ [u], rr ++ [d], (g2.trans g6').mut cr1.dlok hD n6, upd_same, n6, (ra.mono g6'.grow).append (.cons r6 .nil), ?_, f6⟩
      rw [List.length_append, List.length_singleton]
      omega
    | false =>
      show (if false = true then _ else _)
      refine iteF ?_
      obtain ⟨h6, n6⟩ := step g5'
      exact ⟨G5, acc, rr, g2.trans g5', h6, n6, ra.mono g5'.grow, by omega, f5⟩
  · left
    have he : i = ds.length := by omega
    refine ⟨w2 he, ?_⟩
    rw [he, List.drop_length] at f2
    exact q D acc rr H2 G2 (g1.trans g2) hA nG (g1.back cr.dlok hD) ra f2
end
section
variable {X : Cx} {c : Ct} {W : WX} {elt iter tg : Expr} {ifs : List Expr} {scope : Scope} {own : List (Str × Nat)} {pos : Pos} {ti : TI} {mi : MA} {is : List Nat} {tgg : Shared → Hp → Addr → List (Str × Addr) → List Addr → TG} {mg : Shared → Hp → Addr → List (Str × Addr) → List Addr → MG}
  {tt : Shared → Hp → Addr → List (Str × Addr) → List Addr → TT} {mt : Shared → Hp → Addr → List (Str × Addr) → List Addr → MT} {te : Shared → Hp → Addr → List (Str × Addr) → List Addr → TE} {me : Shared → Hp → Addr → List (Str × Addr) → List Addr → ME}
theorem ds_ownLcF (i : Nat) {y : Str} {py spos : Pos} (hc : X.calm = true) (hN : X.N.Nodup) (hy : X.N[i]? = some y) (hyl : X.env.scope.names.lookup y = some .local)
    (hsw : swapsWith (.ListComp elt [⟨tg, iter, ifs, 0⟩] scope pos) (some (.Name y py)) spos.line X.env = pure true) (hi : DIC X c W tg iter ti mi) (ok : BlkOk X.N X.env.scope scope own) (hv : ∀ i ∈ is, i ∈ own.map (·.2))
    (hg : ∀ (s : Shared) (H : Hp) (C : Addr) (cl : List (Str × Addr)) (fp : List Addr), DG (Blk X scope s H C cl fp) tg (tgg s H C cl fp) is (mg s H C cl fp))
    (ht : ∀ (s : Shared) (H : Hp) (C : Addr) (cl : List (Str × Addr)) (fp : List Addr), DTs (Blk X scope s H C cl fp) c W0 ifs (tt s H C cl fp) (mt s H C cl fp))
    (he : ∀ (s : Shared) (H : Hp) (C : Addr) (cl : List (Str × Addr)) (fp : List Addr), DE (Blk X scope s H C cl fp) c W0 elt (te s H C cl fp) (me s H C cl fp))
    (hs : ∀ x, foldedSetIterable iter X.env x = pure x := by intro _; rfl)
    (q1 : ∀ s H C cl fp, tgg s H C cl fp = z5 tgg := by intros; rfl) (q2 : ∀ s H C cl fp, mg s H C cl fp = z5 mg := by intros; rfl) (q3 : ∀ s H C cl fp, tt s H C cl fp = z5 tt := by intros; rfl)
    (q4 : ∀ s H C cl fp, mt s H C cl fp = z5 mt := by intros; rfl) (q5 : ∀ s H C cl fp, te s H C cl fp = z5 te := by intros; rfl) (q6 : ∀ s H C cl fp, me s H C cl fp = z5 me := by intros; rfl) :
    DS X c W (.Assign [.Name y py] (.ListComp elt [⟨tg, iter, ifs, 0⟩] scope pos) spos) (tAsg (tLc ti (z5 tgg) (z5 tt) (z5 te) (own.map (·.2))) (gName i)) (msOwn i (moLc mi (z5 mg) (z5 mt) (z5 me) (own.map (·.2)))) :=
  ⟨ps_setLc hc hN hy hyl hsw hi.p ok (fun s H C cl fp => by rw [← q1 s H C cl fp]; exact (hg s H C cl fp).p) (fun s H C cl fp => by rw [← q3 s H C cl fp]; exact (ht s H C cl fp).p) (fun s H C cl fp => by rw [← q5 s H C cl fp]; exact (he s H C cl fp).p) hs,
    ws_own (wo_lc hv hi.w (hg {} (fun _ => none) 0 [] []).w (ht {} (fun _ => none) 0 [] []).w (he {} (fun _ => none) 0 [] []).w)⟩
end
/-! ### zip of a known list and an own one -/
section
variable {X : Cx} {c : Ct} {W : WX} {pos p tpos : Pos} {elts : List Expr} {kk : Nat} {K : Fg}
def miZipO (i j : Nat) : MA := fun δ F _ => match δ[i]?, δ[j]? with
  | some (.dat (.lst as)), some (.own bs) => F (List.zipWith (fun a b => D.tup [a, b]) as bs)
  | _, _ => False
theorem walk_zipO {dl : Dl} {H0 G0 : Hp} {a b : Addr} {xs ys : List V} {as bs : List D} (ha : G0 a = some (.lst xs)) (ra : RepL K G0 xs as) (hb : H0 b = some (.lst ys)) (nb : NotDl dl b) (rb : RepL K G0 ys bs) :
    IsWalkC K dl H0 G0 (Itz K a b) (List.zipWith (fun a b => D.tup [a, b]) as bs) := fun i H G g => by
  have hA : SqL K H a xs := SqL.of (g.sub _ _ (g.grow _ _ ha))
  have hB : SqL K H b ys := SqL.of (g.keep _ _ hb nb)
  refine ⟨fun d e => ?_, fun e => ?_⟩
  · obtain ⟨u, z, e1, e2, e3⟩ : ∃ u z, as[i]? = some u ∧ bs[i]? = some z ∧ d = D.tup [u, z] := by
      rw [List.getElem?_zipWith] at e
      cases e1 : as[i]? with
      | none => rw [e1] at e; cases e
      | some u =>
        cases e2 : bs[i]? with
        | none => rw [e1, e2] at e; cases e
        | some z =>
          rw [e1, e2] at e
          cases e
          exact ⟨u, z, rfl, rfl, rfl⟩
    obtain ⟨x, f1, r1⟩ := ra.get e1
    obtain ⟨y, f2, r2⟩ := rb.get e2
    refine ⟨⟨xs, ys, x, y, hA, hB, f1, f2⟩, fun v H' ⟨T, x', y', h1, h2, h3, h4, h5⟩ => ?_⟩
    subst h1 h3 e3
    have h4 := h4 _ hA
    have h5 := h5 _ hB
    rw [f1] at h4
    rw [f2] at h5
    cases h4
    cases h5
    have gl := Go.laid (o := .tup [x, y]) g.sub h2
    exact ⟨_, gl, .tup (SqT.of upd_same) (.cons ((r1.mono g.grow).mono gl.grow) (.cons ((r2.mono g.grow).mono gl.grow) .nil))⟩
  · rw [List.length_zipWith] at e
    refine ⟨xs, ys, hA, hB, ?_⟩
    rw [ra.length, rb.length]
    omega
theorem di_zipO (i j : Nat) {x y : Str} {xp yp : Pos} (hg : Gl X "zip") (hm : X.mg "zip" = none) (hx : PE X (.Name x xp) (tVar i)) (hy : PE X (.Name y yp) (tVar j)) (he1 : starEach [.Name y yp] X.env = [(false, eval (.Name y yp) X.env)] := by rfl)
    (he : starEach [.Name x xp, .Name y yp] X.env = (false, eval (.Name x xp) X.env) :: starEach [.Name y yp] X.env := by rfl) (hpl : (backTo pos (starEach [.Name y yp] X.env)).any (·.1) = false := by rfl) :
    DIC X c W (.Tuple elts kk tpos) (.Call (.Name "zip" p) [.Name x xp, .Name y yp] [] pos) (iZip X.K (tCons (tVar i) (tCons (tVar j) tNil))) (miZipO i j) := by
  refine ⟨pi_zip hg hm (pa_cons hx (pa_cons hy pa_nil he1) he) he hpl, fun H G σ δ F Y R cr rs h q _ => ?_⟩
  unfold miZipO at h
  split at h
  · rename_i as bs e1 e2
    obtain ⟨v, q1, u, q2, q3⟩ := rs.at_ _ _ e1
    subst q2
    obtain ⟨a, xs, q4, q5, q6⟩ := q3.lst_of
    subst q4
    obtain ⟨v, u1, p', ys, u2, u3, u4, u5, u6⟩ := rs.at_ _ _ e2
    subst u2
    refine ⟨_, q1, _, u1, a, p', xs, ys, rfl, SqL.of (cr.sub _ _ q5), SqL.of u3, ?_⟩
    exact q _ _ H G cr.rfl' (walk_zipO q5 q6 u3 (notDl_own cr u5) u6) h
  · exact h.elim
end
end DL

set_option Elab.async false
set_option linter.all false
set_option maxRecDepth 100000
set_option maxHeartbeats 4000000
namespace DL
open PySem L2 PySem.Spec PyProof.Rows
/-! ### a law: its first statement lays the deal -/
structure DSw (X : Cx) (c : Ct) (W : WX) (ss : List Stmt) (t1 t2 : TS) (m1 m2 : MS) : Prop where
  p : PSs X ss (tSeq t1 t2)
  w1 : WS X.K c W t1 m1
  w2 : ∀ c1 : Ct, WS X.K c1 W t2 m2
theorem dsw {X : Cx} {c : Ct} {W : WX} {st : Stmt} {rest : List Stmt} {t1 t2 : TS} {m1 m2 : MS} (h1 : DS X c W st t1 m1) (h2 : ∀ c1 : Ct, DSs X c1 W rest t2 m2) : DSw X c W (st :: rest) t1 t2 m1 m2 :=
  ⟨pss_cons h1.p (h2 c).p, h1.w, fun c1 => (h2 c1).w⟩
theorem reps_ints {K : Fg} {G : Hp} : ∀ ns : List Int, RepL K G (ns.map V.int) (ns.map D.int)
  | [] => .nil
  | n :: ns => .cons (.int n) (reps_ints ns)
theorem ints_reps {K : Fg} {G : Hp} : ∀ {ns : List Int} {vs : List V}, RepL K G vs (ns.map D.int) → vs = ns.map V.int
  | [], _, .nil => rfl
  | n :: ns, _, .cons a r => by rw [a.int_of, ints_reps r]; rfl
def spLawD (K : Fg) : Sp := fun vs H Q _ => ∃ (a : Addr) (ns : List Int), vs = [.ref a] ∧ ns.length ≤ 63 ∧ SqL K H a (ns.map V.int) ∧ ∀ H', Q (.bl true) H'
def dealt (n : Nat) : List Sl → Prop := fun δ => δ.length = n ∧ ∃ (ms : List Int) (m : Int), ms.length ≤ 1000 ∧ (∀ n ∈ ms, 0 ≤ n) ∧ 0 ≤ m ∧ m < 2147483647 ∧ δ[1]? = some (.dat (.lst [.lst (ms.map D.int), .int m]))
section
variable {P : Program} {w : World} {K : Fg} {mg : Str → Option Value} {base : Heap} {x qual : Str} {params : Arguments} {body : List Stmt} {scope : Scope} {dvs : List V} {kws : List (Str × V)} {f : Addr} {fd : FuncData} {N : List Str} {x0 : Str} {k : Nat}
theorem fn_law (F : FunD K x qual params body scope dvs kws f fd) (S : FnScope N [x0] scope) (hN : 2 ≤ N.length)
    (hb : ∀ (cdv : Value) (A : Around) (outer : List Env) (s : Shared) (H : Hp) (E : XK), Room k (A.deeper (PyProof.Rows.envOfC qual scope s.heap.objs.size f cdv)) → ∃ t1 t2 m1 m2, (∀ c, DSw (cxOf (L2.CX P w) P w K mg base N qual scope f cdv A outer s H E) c (WF E) body t1 t2 m1 m2) ∧
      (∀ ns : List Int, ns.length ≤ 63 → m1 (start0 false [.scr (ns.map D.int)] (N.length - 1)) { nx := dealt N.length, rt := fun _ => False }) ∧
      m2 (.un :: .deal :: List.replicate (N.length - 2) .un) { nx := fun _ => False, rt := fun d => d = .bl true }) : FnOk P w K mg base (L2.CX P w) (k + 1) f fd [x0] (spLawD K) := by
  refine F.ok S (fun vs H Q E h => ?_) (fun cdv A outer s H vs Q E hr h => ?_)
  · obtain ⟨a, ns, rfl, _⟩ := h
    rfl
  obtain ⟨a, ns, rfl, hl, hS, hq⟩ := h
  obtain ⟨t1, t2, m1, m2, hd, hm1, hm2⟩ := hb cdv A outer s H E hr
  have d0 := hd ⟨none, none, H, H⟩
  refine ⟨_, d0.p, ?_⟩
  have cr : Cr ⟨none, none, H, H⟩ H H := ⟨fun _ _ q _ _ => q, Same.refl _, Same.refl _, fun _ _ q => .inl q, .no, (fun _ _ e => nomatch e), fun _ e => nomatch e⟩
  have rs := rs_start (N := N) (wd := false) (dl := none) (n := 1) (ds := [D.scr (ns.map D.int)]) (vs := [V.ref a]) (vs' := [V.ref a]) (K := K) (H := H) (G := H) rfl ⟨rfl, rfl⟩ (.cons (.scr hS (reps_ints ns)) .nil) (by show 1 ≤ N.length; omega)
  refine d0.w1 H H _ _ _ _ cr rs (hm1 ns hl) ⟨fun σ δ H' G' a1 b1 z q => ?_, fun _ _ _ _ _ _ _ q => q.elim, fun _ _ _ _ _ _ _ q => q.elim, fun _ _ _ _ _ _ _ q => q.elim, fun _ _ _ _ _ _ _ _ _ _ _ q => q.elim⟩
  obtain ⟨hlen, ms, m, l1, l2, l3, l4, e1⟩ := q
  obtain ⟨v, q1, v', q2, q3⟩ := b1.at_ _ _ e1
  subst q2
  obtain ⟨p, xs, rfl, g1, r1⟩ := q3.lst_of
  obtain ⟨v1, v2, rfl, r2, r3⟩ := r1.two
  obtain ⟨l, ys, rfl, g2, r4⟩ := r2.lst_of
  have e3 := r3.int_of
  subst e3
  have e4 := ints_reps r4
  subst e4
  have hD : DealAt H' p l := ⟨ms, m, a1.sub _ _ g1, a1.sub _ _ g2, l1, l3, l4, l2⟩
  have hp : H' p ≠ none := fun z => (by rw [a1.sub _ _ g1] at z; cases z)
  have hl' : H' l ≠ none := fun z => (by rw [a1.sub _ _ g2] at z; cases z)
  have cr1 : Cr ⟨some (p, l), none, H', fun _ => none⟩ H' (fun _ => none) :=
    ⟨fun _ _ q _ _ => q, Same.refl _, (fun _ _ q => nomatch q), (fun _ _ q => nomatch q), fun p' l' e => (by cases e; exact ⟨hD, rfl, rfl⟩), fun p' l' e => (by cases e; exact ⟨hp, hl'⟩), fun _ e => nomatch e⟩
  have ls : σ.length = N.length := by rw [b1.len]; exact hlen
  have at0 : ∀ i : Nat, i < N.length → (Sl.un :: Sl.deal :: List.replicate (N.length - 2) Sl.un)[i]? = some (if i = 1 then .deal else .un) := fun i hi => by
    match i with
    | 0 => rfl
    | 1 => rfl
    | i + 2 =>
      show (List.replicate (N.length - 2) Sl.un)[i]? = _
      rw [List.getElem?_replicate, if_pos (by omega), if_neg (by omega)]
  have len0 : (Sl.un :: Sl.deal :: List.replicate (N.length - 2) Sl.un).length = N.length := by
    rw [List.length_cons, List.length_cons, List.length_replicate]
    omega
  have rs1 : RS K ⟨some (p, l), none, H', fun _ => none⟩ H' (fun _ => none) σ (Sl.un :: Sl.deal :: List.replicate (N.length - 2) Sl.un) := by
    refine ⟨ls.trans len0.symm, fun i t e => ?_, fun i j q ds es n h1 h2 h3 => ?_⟩
    · have hi : i < N.length := by
        have := (List.getElem?_eq_some_iff.mp e).1
        rwa [len0] at this
      rw [at0 i hi] at e
      by_cases h1 : i = 1
      · subst h1
        rw [if_pos rfl] at e
        cases e
        exact ⟨_, q1, p, l, rfl, rfl⟩
      · rw [if_neg h1] at e
        cases e
        exact ⟨_, List.getElem?_eq_getElem (by rw [ls]; exact hi), trivial⟩
    · have hi : i < N.length := by
        have := (List.getElem?_eq_some_iff.mp h1).1
        rwa [len0] at this
      rw [at0 i hi] at h1
      split at h1 <;> cases h1
  exact d0.w2 _ H' _ σ _ _ _ cr1 rs1 hm2 ⟨fun _ _ _ _ _ _ _ q => q.elim, fun v d H2 G2 a2 b2 z q => by
      have q : d = .bl true := q
      subst q
      rw [b2.bl_of]
      exact hq H2, fun _ _ _ _ _ _ _ q => q.elim, fun _ _ _ _ _ _ _ q => q.elim, fun _ _ _ _ _ _ _ _ _ _ _ q => q.elim⟩
end
/-! ### comprehensions whose elements are some of several -/
def All2 {α β : Type} (R : α → β → Prop) : List α → List β → Prop
  | [], [] => True
  | a :: as, b :: bs => R a b ∧ All2 R as bs
  | _, _ => False
theorem lcD_any {mg : MG} {me : ME} {δ : List Sl} {R : D → D → Prop} {F : List D → Prop} : ∀ (ds acc : List D),
    (∀ d ∈ ds, ∀ F' : D → Prop, (∀ e, R d e → F' e) → mg d δ fun δ1 => me δ1 F' (fun _ => False)) →
    (∀ es, All2 R ds es → F (acc ++ es)) → lcD mg (fun _ F _ => F true) me δ F ds acc
  | [], acc, _, h => by
    have := h [] trivial
    rw [List.append_nil] at this
    exact this
  | d :: ds, acc, hs, h => by
    show mg d δ fun δ1 => (if true = true then me δ1 (fun r => lcD mg (fun _ F _ => F true) me δ F ds (acc ++ [r])) (fun _ => False) else _)
    refine hs d (by simp) (fun r => lcD mg (fun _ F _ => F true) me δ F ds (acc ++ [r])) fun e he => ?_
    refine lcD_any ds _ (fun d' m => hs d' (List.mem_cons_of_mem _ m)) fun es h2 => ?_
    rw [List.append_assoc]
    exact h _ ⟨he, h2⟩
end DL

set_option Elab.async false
set_option linter.all false
set_option maxRecDepth 100000
set_option maxHeartbeats 4000000
namespace DL
open PySem L2 PySem.Spec PyProof.Rows HandSHeadRun
/-! ### what the module's names reach, each address looked at once -/
def addF {α : Type} (k : Nat → List Addr → α) : List Addr → Nat → List Addr → α
  | [], m, acc => k m acc
  | a :: as, m, acc => frNat a fun a => match Nat.beq (Nat.land (Nat.shiftRight m a) 1) 1 with
    | true => addF k as m acc
    | false => frNat (Nat.lor m (Nat.shiftLeft 1 a)) fun m => addF k as m (a :: acc)
def growF (g : Addr → Option Obj) : Nat → Nat → List Addr → List Addr → List Addr
  | 0, _, all, _ => all
  | n + 1, m, all, fr => addF (fun m new => growF g n m (new ++ all) new) (fr.flatMap fun a => match g a with
    | some o => He.refsD o
    | none => []) m []
def asF (g : Addr → Option Obj) (n : Nat) : List Addr := growF g n (Nat.shiftLeft 1 mainGlobals) [mainGlobals] [mainGlobals]
abbrev AlF : Type := He.AlD × Bool
def obsF (n : Nat) (fa : List He.Fa) (fn : List He.DefD) (ex : Fg → Bool) (g : Addr → Option Obj) : AlF := (He.obsD fa fn (He.frG g (asF g n)), ex (He.frG g (asF g n)))
def hookF (n : Nat) (fa : List He.Fa) (fn : List He.DefD) (ex : Fg → Bool) : PySem.W.Hook where
  α := AlF
  obs := fun s => obsF n fa fn ex s.heap.get?
  val := fun _ => (He.valD fn, true)
  says := fun _ h => ∃ K : Fg, K.In h ∧ He.SaysD fa fn K ∧ ex K = true
  of := fun _ _ e => ⟨_, He.frG_in, congrArg (fun z : AlF => z.1) e, congrArg (fun z : AlF => z.2) e⟩
  keeps := fun _ _ _ ⟨K, hK, c⟩ k => ⟨K, PySem.W.Frag.In.keeps hK k, c⟩
theorem obsF_eq {n : Nat} {fa : List He.Fa} {fn : List He.DefD} {ex : Fg → Bool} {g : Addr → Option Obj} {s : Shared} (h : ∀ a, g a = s.heap.get? a) : obsF n fa fn ex g = (hookF n fa fn ex).obs s := by
  have e : g = s.heap.get? := funext h
  rw [e] <;> rfl
end DL

set_option Elab.async false
set_option linter.all false
set_option maxRecDepth 100000
set_option maxHeartbeats 0
namespace K12
open PySem PySem.Spec PyProof.Rows L2 DL
abbrev PR : PySem.Program := PySem.Challenge.pw_meltback_k12_steps_refused
def top (i : Nat) : Stmt := PR.main.body.getD i (.Pass ⟨0, 0, 0, 0⟩)
def dfn (p : Str × Option Str) (x q : Str) (s : Stmt) (d : List He.Dv := []) : He.DefD := ⟨p, x, q, defArgs s, defBody s, defScope s, d, []⟩
abbrev s_InvalidStep_init : Stmt := inClass (top 4) 0
abbrev s_is_sequence : Stmt := top 15
abbrev s_is_word : Stmt := top 16
abbrev s_is_name : Stmt := top 17
abbrev s_is_text : Stmt := top 18
abbrev s_is_cell : Stmt := top 19
abbrev s_are_names : Stmt := top 20
abbrev s_need : Stmt := top 23
abbrev s_are_steps : Stmt := top 24
abbrev s_Pick_init : Stmt := inClass (top 25) 0
abbrev s_Rename_init : Stmt := inClass (top 26) 0
abbrev s_Has_init : Stmt := inClass (top 27) 0
abbrev s_Is_init : Stmt := inClass (top 28) 0
abbrev s_Put_init : Stmt := inClass (top 29) 0
abbrev s_Alike_init : Stmt := inClass (top 30) 0
abbrev s_Melt_init : Stmt := inClass (top 31) 0
abbrev s_Pivot_init : Stmt := inClass (top 32) 0
abbrev s_Join_init : Stmt := inClass (top 33) 0
abbrev s_Stack_init : Stmt := inClass (top 34) 0
abbrev s_places_told : Stmt := top 39
abbrev s_with_places : Stmt := top 41
abbrev s_unlike_places : Stmt := top 42
abbrev s_ascending : Stmt := top 44
abbrev s_rows_left : Stmt := top 45
abbrev s_need_rows : Stmt := top 50
abbrev s_Table_init : Stmt := inClass (top 54) 0
abbrev s_law_deal : Stmt := top 56
abbrev s_law_draw : Stmt := top 57
abbrev s_law_pick : Stmt := top 58
abbrev s_law_is_word : Stmt := top 59
abbrev s_law_fits : Stmt := top 60
abbrev s_law_good : Stmt := top 61
abbrev s_law_odd : Stmt := top 62
abbrev s_law_sorts : Stmt := top 63
abbrev s_law_step : Stmt := top 64
abbrev s_law_told : Stmt := top 65
abbrev s_law : Stmt := top 66
def fn : List He.DefD := [dfn ("InvalidStep", some "__init__") "__init__" "InvalidStep.__init__" s_InvalidStep_init,
  dfn ("is_sequence", none) "is_sequence" "is_sequence" s_is_sequence,
  dfn ("is_word", none) "is_word" "is_word" s_is_word,
  dfn ("is_name", none) "is_name" "is_name" s_is_name,
  dfn ("is_text", none) "is_text" "is_text" s_is_text,
  dfn ("is_cell", none) "is_cell" "is_cell" s_is_cell,
  dfn ("are_names", none) "are_names" "are_names" s_are_names,
  dfn ("need", none) "need" "need" s_need,
  dfn ("are_steps", none) "are_steps" "are_steps" s_are_steps,
  dfn ("Pick", some "__init__") "__init__" "Pick.__init__" s_Pick_init,
  dfn ("Rename", some "__init__") "__init__" "Rename.__init__" s_Rename_init,
  dfn ("Has", some "__init__") "__init__" "Has.__init__" s_Has_init,
  dfn ("Is", some "__init__") "__init__" "Is.__init__" s_Is_init,
  dfn ("Put", some "__init__") "__init__" "Put.__init__" s_Put_init,
  dfn ("Alike", some "__init__") "__init__" "Alike.__init__" s_Alike_init,
  dfn ("Melt", some "__init__") "__init__" "Melt.__init__" s_Melt_init,
  dfn ("Pivot", some "__init__") "__init__" "Pivot.__init__" s_Pivot_init,
  dfn ("Join", some "__init__") "__init__" "Join.__init__" s_Join_init,
  dfn ("Stack", some "__init__") "__init__" "Stack.__init__" s_Stack_init,
  dfn ("places_told", none) "places_told" "places_told" s_places_told,
  dfn ("with_places", none) "with_places" "with_places" s_with_places,
  dfn ("unlike_places", none) "unlike_places" "unlike_places" s_unlike_places,
  dfn ("ascending", none) "ascending" "ascending" s_ascending,
  dfn ("rows_left", none) "rows_left" "rows_left" s_rows_left,
  dfn ("need_rows", none) "need_rows" "need_rows" s_need_rows,
  dfn ("Table", some "__init__") "__init__" "Table.__init__" s_Table_init [.adr (He.dflAt ("Table", some "__init__") 0)],
  dfn ("_law_deal", none) "_law_deal" "_law_deal" s_law_deal,
  dfn ("_law_draw", none) "_law_draw" "_law_draw" s_law_draw,
  dfn ("_law_pick", none) "_law_pick" "_law_pick" s_law_pick,
  dfn ("_law_is_word", none) "_law_is_word" "_law_is_word" s_law_is_word,
  dfn ("_law_fits", none) "_law_fits" "_law_fits" s_law_fits,
  dfn ("_law_good", none) "_law_good" "_law_good" s_law_good,
  dfn ("_law_odd", none) "_law_odd" "_law_odd" s_law_odd,
  dfn ("_law_sorts", none) "_law_sorts" "_law_sorts" s_law_sorts,
  dfn ("_law_step", none) "_law_step" "_law_step" s_law_step,
  dfn ("_law_told", none) "_law_told" "_law_told" s_law_told,
  dfn ("law", none) "law" "law" s_law]
-- 0 s_InvalidStep_init
-- 1 s_is_sequence
-- 2 s_is_word
-- 3 s_is_name
-- 4 s_is_text
-- 5 s_is_cell
-- 6 s_are_names
-- 7 s_need
-- 8 s_are_steps
-- 9 s_Pick_init
-- 10 s_Rename_init
-- 11 s_Has_init
-- 12 s_Is_init
-- 13 s_Put_init
-- 14 s_Alike_init
-- 15 s_Melt_init
-- 16 s_Pivot_init
-- 17 s_Join_init
-- 18 s_Stack_init
-- 19 s_places_told
-- 20 s_with_places
-- 21 s_unlike_places
-- 22 s_ascending
-- 23 s_rows_left
-- 24 s_need_rows
-- 25 s_Table_init
-- 26 s_law_deal
-- 27 s_law_draw
-- 28 s_law_pick
-- 29 s_law_is_word
-- 30 s_law_fits
-- 31 s_law_good
-- 32 s_law_odd
-- 33 s_law_sorts
-- 34 s_law_step
-- 35 s_law_told
-- 36 s_law
def names : List PySem.Str := [("_wall" : PySem.Str), ("__name__" : PySem.Str), ("TableError" : PySem.Str), ("InvalidTable" : PySem.Str), ("InvalidStep" : PySem.Str), ("InvalidText" : PySem.Str), ("Mismatch" : PySem.Str), ("NoRow" : PySem.Str), ("NoColumn" : PySem.Str), ("LETTERS" : PySem.Str), ("LETTERS_AND_DIGITS" : PySem.Str), ("LONGEST_NAME" : PySem.Str), ("LONGEST_TEXT" : PySem.Str), ("PARTING_WORDS" : PySem.Str), ("is_sequence" : PySem.Str), ("is_word" : PySem.Str), ("is_name" : PySem.Str), ("is_text" : PySem.Str), ("is_cell" : PySem.Str), ("are_names" : PySem.Str), ("Step" : PySem.Str), ("need" : PySem.Str), ("are_steps" : PySem.Str), ("Pick" : PySem.Str), ("Rename" : PySem.Str), ("Has" : PySem.Str), ("Is" : PySem.Str), ("Put" : PySem.Str), ("Alike" : PySem.Str), ("Melt" : PySem.Str), ("Pivot" : PySem.Str), ("Join" : PySem.Str), ("Stack" : PySem.Str), ("LACKING" : PySem.Str), ("has_width" : PySem.Str), ("is_row" : PySem.Str), ("places_told" : PySem.Str), ("cells_at" : PySem.Str), ("with_places" : PySem.Str), ("unlike_places" : PySem.Str), ("all_told" : PySem.Str), ("ascending" : PySem.Str), ("rows_left" : PySem.Str), ("told_by_both" : PySem.Str), ("row_line" : PySem.Str), ("row_of_line" : PySem.Str), ("need_rows" : PySem.Str), ("need_same_columns" : PySem.Str), ("read_rows" : PySem.Str), ("different_texts" : PySem.Str), ("Table" : PySem.Str), ("_law_deal" : PySem.Str), ("_law_draw" : PySem.Str), ("_law_pick" : PySem.Str), ("_law_is_word" : PySem.Str), ("_law_fits" : PySem.Str), ("_law_good" : PySem.Str), ("_law_odd" : PySem.Str), ("_law_sorts" : PySem.Str), ("_law_step" : PySem.Str), ("_law_told" : PySem.Str)]
-- law at 66
abbrev R : PySem.W.OpenRow := PySem.W.OpenLaw.row PySem.Challenge.rw_meltback_k12_steps_refused
def gl : List Str := [("is_sequence" : Str), ("is_word" : Str), ("is_name" : Str), ("is_text" : Str), ("is_cell" : Str), ("are_names" : Str), ("need" : Str), ("are_steps" : Str), ("InvalidStep" : Str), ("TableError" : Str), ("Step" : Str), ("places_told" : Str), ("with_places" : Str), ("unlike_places" : Str), ("ascending" : Str), ("rows_left" : Str), ("need_rows" : Str), ("_law_deal" : Str), ("_law_draw" : Str), ("_law_pick" : Str), ("_law_is_word" : Str), ("_law_fits" : Str), ("_law_good" : Str), ("_law_odd" : Str), ("_law_sorts" : Str), ("_law_step" : Str), ("_law_told" : Str), ("law" : Str), ("PARTING_WORDS" : Str), ("has_width" : Str), ("Pick" : Str), ("Rename" : Str), ("Has" : Str), ("Is" : Str), ("Put" : Str), ("Alike" : Str), ("Melt" : Str), ("Pivot" : Str), ("Join" : Str), ("Stack" : Str), ("Table" : Str)]
def fr : List Str := [("len" : Str), ("isinstance" : Str), ("str" : Str), ("list" : Str), ("tuple" : Str), ("all" : Str), ("set" : Str), ("int" : Str), ("range" : Str), ("abs" : Str), ("sorted" : Str), ("enumerate" : Str), ("zip" : Str)]
def fa : List He.Fa := gl.map He.Fa.glo ++ (fr.map He.Fa.free ++ [.mkr "Pick", .mkr "Rename", .mkr "Has", .mkr "Is", .mkr "Put", .mkr "Alike", .mkr "Melt", .mkr "Pivot", .mkr "Join", .mkr "Stack", .mkr "Table",
  .cls "Pick", .cls "Rename", .cls "Has", .cls "Is", .cls "Put", .cls "Alike", .cls "Melt", .cls "Pivot", .cls "Join", .cls "Stack", .cls "Table",
  .noat "Pick" "columns", .noat "Rename" "old", .noat "Rename" "new", .noat "Has" "column", .noat "Is" "column", .noat "Is" "text", .noat "Put" "column", .noat "Put" "text", .noat "Alike" "column", .noat "Alike" "other", .noat "Melt" "columns", .noat "Melt" "name", .noat "Melt" "value", .noat "Pivot" "by", .noat "Pivot" "name", .noat "Pivot" "value", .noat "Pivot" "heads", .noat "Join" "columns", .noat "Join" "steps", .noat "Stack" "steps", .noat "Table" "columns", .noat "Table" "rows",
  .str "LETTERS" "abcdefghijklmnopqrstuvwxyz", .str "LETTERS_AND_DIGITS" "abcdefghijklmnopqrstuvwxyz0123456789", .int "LONGEST_NAME" 4, .int "LONGEST_TEXT" 6])
def iS (K : Fg) : Addr := He.ga K "InvalidStep"
def cPick (K : Fg) : Addr := He.ga K "Pick"
def cHas (K : Fg) : Addr := He.ga K "Has"
def cTable (K : Fg) : Addr := He.ga K "Table"
def cStep (K : Fg) : Addr := He.ga K "Step"
def tys : List String := ["NoneType", "bool", "int", "str", "list", "tuple"]
def ex (K : Fg) : Bool := oexB K (iS K) && (initB K (iS K) (He.ma K (iS K) "__init__") && (nofB K (iS K) "word" && ((xfB K (iS K) && cobB K (iS K)) && (decide (PySem.W.exmOne K (.ref (iS K)) (.ref (iS K)) = some true) && (decide (PySem.W.kitOne K (.ref (iS K)) (.ref (He.ga K "TableError")) = some true) &&
  ((clsB K (cPick K) && cobB K (cPick K)) && ((clsB K (cHas K) && cobB K (cHas K)) && ((clsB K (cTable K) && cobB K (cTable K)) &&
  (He.tupB K "PARTING_WORDS" [.str "as", .str "by", .str "to", .str "end"] && (tupAtB K (He.dflAt ("Table", some "__init__") 0 K) [] &&
  ([cPick K, cHas K, cTable K].all (fun C => kitB K (.ref C) [.type "list", .type "tuple"] false && kitB K (.ref C) [.type "str"] false) &&
  ((kitB K (.ref (cPick K)) [.ref (cStep K)] true && kitB K (.ref (cHas K)) [.ref (cStep K)] true && kitB K (.ref (cTable K)) [.ref (cStep K)] false) &&
  ((kitB K (.ref (cPick K)) [.ref (cHas K), .ref (cPick K)] true && kitB K (.ref (cHas K)) [.ref (cHas K), .ref (cPick K)] true && kitB K (.ref (cTable K)) [.ref (cHas K), .ref (cPick K)] false) &&
  tys.all (fun T => kitB K (.type T) [.ref (cStep K)] false && kitB K (.type T) [.ref (cHas K), .ref (cPick K)] false))))))))))))))
abbrev hk : PySem.W.Hook := hookF 5 fa fn ex
def ob (s : PySem.W.SharedT) : AlF := obsF 5 fa fn ex (HandSHeadRun.getT s)
theorem ob_eq (s : PySem.W.SharedT) : ob s = hk.obs s.abs := obsF_eq (HandSHeadRun.getT_eq s)



end K12

set_option Elab.async false
set_option linter.all false
set_option maxRecDepth 100000
set_option maxHeartbeats 4000000
namespace K12
open PySem PySem.Spec PyProof.Rows L2 DL
/-! ### what is known of the module's names -/
structure Glo (K : Fg) (mg : Str → Option Value) : Prop where
  g : ∀ z ∈ gl, mg z = some (.ref (He.ga K z))
  n : ∀ z ∈ fr, mg z = none
  hL : ∃ t, mg "LETTERS" = some (.str "abcdefghijklmnopqrstuvwxyz" t)
  hA : ∃ t, mg "LETTERS_AND_DIGITS" = some (.str "abcdefghijklmnopqrstuvwxyz0123456789" t)
  hN : ∃ t, mg "LONGEST_NAME" = some (.int 4 t)
  hT : ∃ t, mg "LONGEST_TEXT" = some (.int 6 t)
/-- what is known of the classes -/
structure Kls (K : Fg) : Prop where
  part : ∀ H, SqT K H (He.ga K "PARTING_WORDS") [.str "as", .str "by", .str "to", .str "end"]
  seq : ∀ C, C = cPick K ∨ C = cHas K ∨ C = cTable K → PySem.W.kitAny K (.ref C) [.type "list", .type "tuple"] = some false
  str : ∀ C, C = cPick K ∨ C = cHas K ∨ C = cTable K → PySem.W.kitAny K (.ref C) [.type "str"] = some false
  isC : ∀ C, C = cPick K ∨ C = cHas K ∨ C = cTable K → IsC K C
structure Kst (K : Fg) : Prop where
  bst : ∀ T ∈ tys, PySem.W.kitAny K (.type T) [.ref (cStep K)] = some false
  hst : ∀ C, C = cPick K ∨ C = cHas K → PySem.W.kitAny K (.ref C) [.ref (cStep K)] = some true
  tst : PySem.W.kitAny K (.ref (cTable K)) [.ref (cStep K)] = some false
/-- the exception of steps: its class, its __init__ -/
def Exs (P : Program) (w : World) (K : Fg) (mg : Str → Option Value) (base : Heap) : Prop := ∃ (fI : Addr) (fd : FuncData) (ps : List Str), OexC K (iS K) ∧ PySem.W.findIn K (.ref (iS K)) "__init__" = some (some (.ref fI)) ∧ PySem.W.typeIn K (.ref fI) = some (.type "function") ∧
  FnOk P w K mg base (L2.CX P w) 1 fI fd ps (spX1 (iS K) "word") ∧ Binds K fd ps []
/-! ### data -/
def partD : List D := [.str "as", .str "by", .str "to", .str "end"]
theorem partRep {K : Fg} (k : Kls K) (H : Hp) : Rep K H (.ref (He.ga K "PARTING_WORDS")) (.tup partD) :=
  .tup (k.part H) (.cons (.str _) (.cons (.str _) (.cons (.str _) (.cons (.str _) .nil))))
def isSeqD : D → Bool
  | .lst _ => true
  | .tup _ => true
  | _ => false
def isStrD : D → Bool
  | .str _ => true
  | _ => false
/-- a value of the law: what isinstance tells of it is known -/
def Kn (K : Fg) : D → Prop
  | .fx _ => False
  | .scr _ => False
  | .obj C _ => C = cPick K ∨ C = cHas K ∨ C = cTable K
  | _ => True
theorem kn_seq {K : Fg} (k : Kls K) : ∀ {d : D}, Kn K d → ∃ t, TyD K d t ∧ PySem.W.kitAny K t [.type "list", .type "tuple"] = some (isSeqD d)
  | .non, _ => ⟨_, rfl, rfl⟩
  | .bl _, _ => ⟨_, rfl, rfl⟩
  | .int _, _ => ⟨_, rfl, rfl⟩
  | .str _, _ => ⟨_, rfl, rfl⟩
  | .lst _, _ => ⟨_, rfl, rfl⟩
  | .tup _, _ => ⟨_, rfl, rfl⟩
  | .obj C _, h => ⟨_, ⟨rfl, k.isC C h⟩, k.seq C h⟩
  | .fx _, h => h.elim
  | .scr _, h => h.elim
theorem kn_str {K : Fg} (k : Kls K) : ∀ {d : D}, Kn K d → ∃ t, TyD K d t ∧ PySem.W.kitAny K t [.type "str"] = some (isStrD d)
  | .non, _ => ⟨_, rfl, rfl⟩
  | .bl _, _ => ⟨_, rfl, rfl⟩
  | .int _, _ => ⟨_, rfl, rfl⟩
  | .str _, _ => ⟨_, rfl, rfl⟩
  | .lst _, _ => ⟨_, rfl, rfl⟩
  | .tup _, _ => ⟨_, rfl, rfl⟩
  | .obj C _, h => ⟨_, ⟨rfl, k.isC C h⟩, k.str C h⟩
  | .fx _, h => h.elim
  | .scr _, h => h.elim
def gSeq (K : Fg) : FF := fun ds F _ => ∃ d, ds = [d] ∧ Kn K d ∧ F (.bl (isSeqD d))
theorem kit1_of {K : Fg} {t u : Value} {b : Bool} (h : PySem.W.kitAny K t [u] = some b) : PySem.W.kitOne K t u = some b := by
  unfold PySem.W.kitAny at h
  split at h
  · rename_i e
    cases h
    exact e
  · rename_i e
    cases h
    exact e
  · cases h
def szD : D → Prop
  | .str z => z.length ≤ 100 ∧ PyData.strOk z = true
  | .lst ds => ds.length ≤ 100
  | .tup ds => ds.length ≤ 100
  | _ => True
def wordD (d : D) (s : Str) (m : Int) : Bool := match d with
  | .str z => decide (1 ≤ (z.length : Int)) && decide ((z.length : Int) ≤ m) && decide (Txt.stripChars z s = "")
  | _ => false
def gWord (K : Fg) : FF := fun ds F _ => ∃ d s m, ds = [d, .str s, .int m] ∧ Kn K d ∧ szD d ∧ F (.bl (wordD d s m))
def nameD (d : D) : Bool := wordD d "abcdefghijklmnopqrstuvwxyz" 4 && !inD d partD
def textD (d : D) : Bool := wordD d "abcdefghijklmnopqrstuvwxyz0123456789" 6
def elD (d : D) : List D := (seqD d).getD []
/-- a value of the law, of the first and of the second level -/
def V1 (K : Fg) (d : D) : Prop := Kn K d ∧ szD d
def V2 (K : Fg) (d : D) : Prop := V1 K d ∧ ∀ e ∈ elD d, V1 K e
def gName (K : Fg) : FF := fun ds F _ => ∃ d, ds = [d] ∧ V1 K d ∧ F (.bl (nameD d))
def gText (K : Fg) : FF := fun ds F _ => ∃ d, ds = [d] ∧ V1 K d ∧ F (.bl (textD d))
def diffD (ds : List D) : Bool := match strsD ds with
  | some xs => decide (((ddS [] xs).length : Int) = (ds.length : Int))
  | none => false
def namesD (d : D) (least : Int) : Bool := isSeqD d && (!decide (((elD d).length : Int) < least) && ((elD d).all nameD && diffD (elD d)))
def gNames (K : Fg) : FF := fun ds F _ => ∃ d m, ds = [d, .int m] ∧ V2 K d ∧ F (.bl (namesD d m))
theorem word_str {d : D} {s : Str} {m : Int} (h : wordD d s m = true) : ∃ z, d = .str z := by
  cases d with
  | str z => exact ⟨z, rfl⟩
  | _ => cases h
theorem strs_all : ∀ {l : List D}, l.all nameD = true → ∃ xs, strsD l = some xs ∧ xs.length = l.length
  | [], _ => ⟨[], rfl, rfl⟩
  | d :: l, h => by
    rw [List.all_cons, Bool.and_eq_true] at h
    obtain ⟨xs, h1, h2⟩ := strs_all h.2
    obtain ⟨z, rfl⟩ := word_str (Bool.and_eq_true_iff.mp h.1).1
    refine ⟨z :: xs, ?_, by rw [List.length_cons, List.length_cons, h2]⟩
    show (strsD l).map (z :: ·) = _
    rw [h1]
    rfl
def isStepD (K : Fg) : D → Bool
  | .obj C _ => C != cTable K
  | _ => false
theorem kn_step {K : Fg} (k : Kls K) (s : Kst K) : ∀ {d : D}, Kn K d → ∃ t, TyD K d t ∧ PySem.W.kitAny K t [.ref (cStep K)] = some (isStepD K d)
  | .non, _ => ⟨_, rfl, s.bst _ (by decide)⟩
  | .bl _, _ => ⟨_, rfl, s.bst _ (by decide)⟩
  | .int _, _ => ⟨_, rfl, s.bst _ (by decide)⟩
  | .str _, _ => ⟨_, rfl, s.bst _ (by decide)⟩
  | .lst _, _ => ⟨_, rfl, s.bst _ (by decide)⟩
  | .tup _, _ => ⟨_, rfl, s.bst _ (by decide)⟩
  | .obj C _, h => ⟨_, ⟨rfl, k.isC C h⟩, by
    by_cases e : C = cTable K
    · subst e
      show _ = some (cTable K != cTable K)
      rw [s.tst, bne_self_eq_false]
    · show _ = some (C != cTable K)
      rw [s.hst C (h.elim .inl fun z => z.elim .inr fun y => (e y).elim), bne_iff_ne.mpr e]⟩
  | .fx _, h => h.elim
  | .scr _, h => h.elim
def stepsD (K : Fg) (d : D) : Bool := isSeqD d && (elD d).all (isStepD K)
def gSteps (K : Fg) : FF := fun ds F _ => ∃ d, ds = [d] ∧ V2 K d ∧ F (.bl (stepsD K d))
def gNeed (K : Fg) : FF := fun ds F X => ∃ (b : Bool) (z : Str), ds = [.bl b, .str z] ∧ (b = true → F .non) ∧ (b = false → X (iS K, [("word", .str z)]))
theorem ms_at {ms : MS} {δ : List Sl} {k : MK} {e : List Sl} (q : δ = e) (h : ms e k) : ms δ k := by
  rw [q]
  exact h
section
variable {P : Program} {w : World} {K : Fg} {mg : Str → Option Value} {base : Heap}
theorem sc_is_sequence : FnScope ["value"] ["value"] (defScope s_is_sequence) := ⟨rfl, rfl, rfl, by decide +kernel, rfl, by decide +kernel, by decide +kernel⟩
theorem ok_is_sequence (G : Glo K mg) (c : He.SaysD fa fn K) (kl : Kls K) : Fn P w K mg base "is_sequence" 1 1 false (gSeq K) := by
  obtain ⟨fd, F⟩ := c.defs (d := dfn ("is_sequence", none) "is_sequence" "is_sequence" s_is_sequence) (by unfold fn; simp)
  replace F : FunD K "is_sequence" "is_sequence" (defArgs s_is_sequence) (defBody s_is_sequence) (defScope s_is_sequence) [] [] (He.ga K "is_sequence") fd := F
  refine ⟨_, fd, ["value"], ?_, G.g "is_sequence" (by decide), F.kp, F.bindsN fun _ _ _ _ _ _ us hl => match us, hl with | [_], _ => rfl⟩
  have nd : (["value"] : List Str).Nodup := sc_is_sequence.nd
  obtain ⟨_, h_LETTERS⟩ := G.hL
  obtain ⟨_, h_LAD⟩ := G.hA
  obtain ⟨_, h_LN⟩ := G.hN
  obtain ⟨_, h_LT⟩ := G.hT
  apply fn_okE (k := 0) (N := ["value"]) F sc_is_sequence rfl (by decide)
  intro c cdv A outer s H E hr
  have hu := hr.units
  have tk := takes_of (X := cxOf (L2.CX P w) P w K mg base ["value"] "is_sequence" (defScope s_is_sequence) (He.ga K "is_sequence") cdv A outer s H E) rfl rfl rfl rfl
  apply Exists.intro
  apply Exists.intro
  apply And.intro
  · exact (dss_one (ds_ret (de_isiT rfl (G.n "isinstance" (by decide)) (de_var 0) (da_cons (de_ty "list" rfl (G.n "list" (by decide)) (by decide +kernel)) (da_cons (de_ty "tuple" rfl (G.n "tuple" (by decide)) (by decide +kernel)) da_nil)))))
  · intro ds F1 X1 hn h
    obtain ⟨d, rfl, hd, f⟩ := h
    obtain ⟨t, h1, h2⟩ := kn_seq kl hd
    refine Exists.intro [.ty "list", .ty "tuple"] (Exists.intro [.type "list", .type "tuple"] (Exists.intro t (Exists.intro (isSeqD d) ⟨rfl, by decide, ?_, h1, h2, f⟩)))
    exact .cons (.ty _) (.cons (.ty _) .nil)
theorem sc_is_word : FnScope ["value", "signs", "longest"] ["value", "signs", "longest"] (defScope s_is_word) := ⟨rfl, rfl, rfl, by decide +kernel, rfl, by decide +kernel, by decide +kernel⟩
theorem ok_is_word (G : Glo K mg) (c : He.SaysD fa fn K) (kl : Kls K) : Fn P w K mg base "is_word" 1 3 false (gWord K) := by
  obtain ⟨fd, F⟩ := c.defs (d := dfn ("is_word", none) "is_word" "is_word" s_is_word) (by unfold fn; simp)
  replace F : FunD K "is_word" "is_word" (defArgs s_is_word) (defBody s_is_word) (defScope s_is_word) [] [] (He.ga K "is_word") fd := F
  refine ⟨_, fd, ["value", "signs", "longest"], ?_, G.g "is_word" (by decide), F.kp, F.bindsN fun _ _ _ _ _ _ us hl => match us, hl with | [_, _, _], _ => rfl⟩
  have nd : (["value", "signs", "longest"] : List Str).Nodup := sc_is_word.nd
  obtain ⟨_, h_LETTERS⟩ := G.hL
  obtain ⟨_, h_LAD⟩ := G.hA
  obtain ⟨_, h_LN⟩ := G.hN
  obtain ⟨_, h_LT⟩ := G.hT
  apply fn_okE (k := 0) (N := ["value", "signs", "longest"]) F sc_is_word rfl (by decide)
  intro c cdv A outer s H E hr
  have hu := hr.units
  have tk := takes_of (X := cxOf (L2.CX P w) P w K mg base ["value", "signs", "longest"] "is_word" (defScope s_is_word) (He.ga K "is_word") cdv A outer s H E) rfl rfl rfl rfl
  apply Exists.intro
  apply Exists.intro
  apply And.intro
  · exact (dss_cons (ds_if (DW.dt (dw_or (dt_not (dt_truth (de_callB call_isi cd_isi rfl (G.n "isinstance" (by decide)) (by decide +kernel) (da_cons (de_var 0) (da_cons (de_ty "str" rfl (G.n "str" (by decide)) (by decide +kernel)) da_nil))))) (dw_or1 (dt_not (dt_chain op_le op_le rd_le rd_le de_int (de_callB call_len cd_len rfl (G.n "len" (by decide)) (by decide +kernel) (da_cons (de_var 0) da_nil)) (de_var 2)))))) (dss_one (ds_ret de_bl)) dss_nil)
    (dss_one (ds_ret (de_cmp op_eq rd_eqS (de_ms slot_strip type_strip mt_stripChars md_strip (de_var 0) (da_cons (de_var 1) da_nil)) de_str (nomark _)))))
  · intro ds F1 X1 hn h
    obtain ⟨d, sg, m, rfl, hv, hz, f⟩ := h
    obtain ⟨t, h1, h2⟩ := kn_str kl hv
    refine ms_at (e := [.dat d, .dat (.str sg), .dat (.int m)]) rfl ?_
    simp only [msRet, msRetN, msSeq, msIf, msNext, msExpr, msSet, mtAnd, mtOr, mtNot, mTru, mB, mCB, mCall, maCons, maNil, mVar, mC, mOp, mChain, mIf, mAndV, mOrV, mNotV, mLst, mTup, mMS, gI0, gLen, gEq, gNe, gEqS, gNeS, gIn, gAll, gStrip, truD, start0, dn, mLc, miS, mgName, wipeD, mYes, lcD, List.map_cons, List.map_nil, List.replicate, List.cons_append, List.nil_append, List.getElem?_cons_zero, List.getElem?_cons_succ, List.getElem?_nil, List.append_nil, gLe, gLt, Bool.not_true, Bool.not_false, Bool.false_eq_true, reduceIte]
    refine ⟨t, .type "str", isStrD d, .ty _, h1, kit1_of h2, ?_⟩
    cases d with
    | str z =>
      have hz : z.length ≤ 100 := hz.1
      have hz2 : z.length ≤ sizeLine := Nat.le_trans hz (by decide)
      have f : F1 (.bl (decide (1 ≤ (z.length : Int)) && decide ((z.length : Int) ≤ m) && decide (Txt.stripChars z sg = ""))) := f
      simp only [isStrD, Bool.not_true, Bool.false_eq_true, reduceIte]
      refine ⟨hz2, ?_⟩
      cases e1 : decide (1 ≤ (z.length : Int)) <;> rw [e1] at f
      · exact f
      · cases e2 : decide ((z.length : Int) ≤ m) <;> rw [e2] at f
        · simp only [e2]
          exact f
        · simp only [e2]
          exact ⟨hz2, f⟩
    | _ => exact f
theorem sc_is_name : FnScope ["value"] ["value"] (defScope s_is_name) := ⟨rfl, rfl, rfl, by decide +kernel, rfl, by decide +kernel, by decide +kernel⟩
theorem ok_is_name (G : Glo K mg) (c : He.SaysD fa fn K) (H_is_word : Fn P w K mg base "is_word" 1 3 false (gWord K)) (kl : Kls K) : Fn P w K mg base "is_name" 2 1 false (gName K) := by
  obtain ⟨fd, F⟩ := c.defs (d := dfn ("is_name", none) "is_name" "is_name" s_is_name) (by unfold fn; simp)
  replace F : FunD K "is_name" "is_name" (defArgs s_is_name) (defBody s_is_name) (defScope s_is_name) [] [] (He.ga K "is_name") fd := F
  refine ⟨_, fd, ["value"], ?_, G.g "is_name" (by decide), F.kp, F.bindsN fun _ _ _ _ _ _ us hl => match us, hl with | [_], _ => rfl⟩
  have nd : (["value"] : List Str).Nodup := sc_is_name.nd
  obtain ⟨_, h_LETTERS⟩ := G.hL
  obtain ⟨_, h_LAD⟩ := G.hA
  obtain ⟨_, h_LN⟩ := G.hN
  obtain ⟨_, h_LT⟩ := G.hT
  apply fn_okE (k := 1) (N := ["value"]) F sc_is_name rfl (by decide)
  intro c cdv A outer s H E hr
  have hu := hr.units
  have tk := takes_of (X := cxOf (L2.CX P w) P w K mg base ["value"] "is_name" (defScope s_is_name) (He.ga K "is_name") cdv A outer s H E) rfl rfl rfl rfl
  apply Exists.intro
  apply Exists.intro
  apply And.intro
  · exact (dss_one (ds_ret (de_and (de_f H_is_word (hr.mono (by decide)) rfl tk (da_cons (de_var 0) (da_cons (de_glob (v := .str "abcdefghijklmnopqrstuvwxyz") rfl h_LETTERS ⟨_, rfl⟩ (fun _ => .str _)) (da_cons (de_glob (v := .int 4) rfl h_LN ⟨_, rfl⟩ (fun _ => .int _)) da_nil)))) (de_one (de_cmp op_notInA rd_in (de_var 0) (de_glob (v := .ref (He.ga K "PARTING_WORDS")) rfl (G.g "PARTING_WORDS" (by decide)) rfl (fun G1 => partRep kl G1)) (by rfl))))))
  · intro ds F1 X1 hn h
    obtain ⟨d, rfl, hv, f⟩ := h
    refine ms_at (e := [.dat d]) rfl ?_
    simp only [msRet, msRetN, msSeq, msIf, msNext, msExpr, msSet, mtAnd, mtOr, mtNot, mTru, mB, mCB, mCall, maCons, maNil, mVar, mC, mOp, mChain, mIf, mAndV, mOrV, mNotV, mLst, mTup, mMS, gI0, gLen, gEq, gNe, gEqS, gNeS, gIn, gAll, gStrip, truD, start0, dn, mLc, miS, mgName, wipeD, mYes, lcD, List.map_cons, List.map_nil, List.replicate, List.cons_append, List.nil_append, List.getElem?_cons_zero, List.getElem?_cons_succ, List.getElem?_nil, List.append_nil, gLe, gLt, Bool.not_true, Bool.not_false, Bool.false_eq_true, reduceIte]
    refine ⟨rfl, d, _, _, rfl, hv.1, hv.2, ?_⟩
    have f : F1 (.bl (wordD d "abcdefghijklmnopqrstuvwxyz" 4 && !inD d partD)) := f
    cases e : wordD d "abcdefghijklmnopqrstuvwxyz" 4 <;> rw [e] at f
    · exact f
    · obtain ⟨z, rfl⟩ := word_str e
      exact ⟨rfl, rfl, f⟩
theorem sc_is_text : FnScope ["value"] ["value"] (defScope s_is_text) := ⟨rfl, rfl, rfl, by decide +kernel, rfl, by decide +kernel, by decide +kernel⟩
theorem ok_is_text (G : Glo K mg) (c : He.SaysD fa fn K) (H_is_word : Fn P w K mg base "is_word" 1 3 false (gWord K)) : Fn P w K mg base "is_text" 2 1 false (gText K) := by
  obtain ⟨fd, F⟩ := c.defs (d := dfn ("is_text", none) "is_text" "is_text" s_is_text) (by unfold fn; simp)
  replace F : FunD K "is_text" "is_text" (defArgs s_is_text) (defBody s_is_text) (defScope s_is_text) [] [] (He.ga K "is_text") fd := F
  refine ⟨_, fd, ["value"], ?_, G.g "is_text" (by decide), F.kp, F.bindsN fun _ _ _ _ _ _ us hl => match us, hl with | [_], _ => rfl⟩
  have nd : (["value"] : List Str).Nodup := sc_is_text.nd
  obtain ⟨_, h_LETTERS⟩ := G.hL
  obtain ⟨_, h_LAD⟩ := G.hA
  obtain ⟨_, h_LN⟩ := G.hN
  obtain ⟨_, h_LT⟩ := G.hT
  apply fn_okE (k := 1) (N := ["value"]) F sc_is_text rfl (by decide)
  intro c cdv A outer s H E hr
  have hu := hr.units
  have tk := takes_of (X := cxOf (L2.CX P w) P w K mg base ["value"] "is_text" (defScope s_is_text) (He.ga K "is_text") cdv A outer s H E) rfl rfl rfl rfl
  apply Exists.intro
  apply Exists.intro
  apply And.intro
  · exact (dss_one (ds_ret (de_f H_is_word (hr.mono (by decide)) rfl tk (da_cons (de_var 0) (da_cons (de_glob (v := .str "abcdefghijklmnopqrstuvwxyz0123456789") rfl h_LAD ⟨_, rfl⟩ (fun _ => .str _)) (da_cons (de_glob (v := .int 6) rfl h_LT ⟨_, rfl⟩ (fun _ => .int _)) da_nil))))))
  · intro ds F1 X1 hn h
    obtain ⟨d, rfl, hv, f⟩ := h
    refine ms_at (e := [.dat d]) rfl ?_
    simp only [msRet, msRetN, msSeq, msIf, msNext, msExpr, msSet, mtAnd, mtOr, mtNot, mTru, mB, mCB, mCall, maCons, maNil, mVar, mC, mOp, mChain, mIf, mAndV, mOrV, mNotV, mLst, mTup, mMS, gI0, gLen, gEq, gNe, gEqS, gNeS, gIn, gAll, gStrip, truD, start0, dn, mLc, miS, mgName, wipeD, mYes, lcD, List.map_cons, List.map_nil, List.replicate, List.cons_append, List.nil_append, List.getElem?_cons_zero, List.getElem?_cons_succ, List.getElem?_nil, List.append_nil, gLe, gLt, Bool.not_true, Bool.not_false, Bool.false_eq_true, reduceIte]
    exact ⟨rfl, d, _, _, rfl, hv.1, hv.2, f⟩
theorem sc_are_names : FnScope ["value", "least", "name"] ["value", "least"] (defScope s_are_names) := ⟨rfl, rfl, rfl, by decide +kernel, rfl, by decide +kernel, by decide +kernel⟩
theorem ok_are_names (G : Glo K mg) (c : He.SaysD fa fn K) (H_is_sequence : Fn P w K mg base "is_sequence" 1 1 false (gSeq K)) (H_is_name : Fn P w K mg base "is_name" 2 1 false (gName K)) : Fn P w K mg base "are_names" 3 2 false (gNames K) := by
  obtain ⟨fd, F⟩ := c.defs (d := dfn ("are_names", none) "are_names" "are_names" s_are_names) (by unfold fn; simp)
  replace F : FunD K "are_names" "are_names" (defArgs s_are_names) (defBody s_are_names) (defScope s_are_names) [] [] (He.ga K "are_names") fd := F
  refine ⟨_, fd, ["value", "least"], ?_, G.g "are_names" (by decide), F.kp, F.bindsN fun _ _ _ _ _ _ us hl => match us, hl with | [_, _], _ => rfl⟩
  have nd : (["value", "least", "name"] : List Str).Nodup := sc_are_names.nd
  obtain ⟨_, h_LETTERS⟩ := G.hL
  obtain ⟨_, h_LAD⟩ := G.hA
  obtain ⟨_, h_LN⟩ := G.hN
  obtain ⟨_, h_LT⟩ := G.hT
  apply fn_okE (k := 2) (N := ["value", "least", "name"]) F sc_are_names rfl (by decide)
  intro c cdv A outer s H E hr
  have hu := hr.units
  have tk := takes_of (X := cxOf (L2.CX P w) P w K mg base ["value", "least", "name"] "are_names" (defScope s_are_names) (He.ga K "are_names") cdv A outer s H E) rfl rfl rfl rfl
  apply Exists.intro
  apply Exists.intro
  apply And.intro
  · exact (dss_cons (ds_if (DW.dt (dw_or (dt_not (dt_truth (de_f H_is_sequence (hr.mono (by decide)) rfl tk (da_cons (de_var 0) da_nil)))) (dw_or1 (dt_cmp op_lt rd_lt (de_callB call_len cd_len rfl (G.n "len" (by decide)) (by decide +kernel) (da_cons (de_var 0) da_nil)) (de_var 1) (nomark _))))) (dss_one (ds_ret de_bl)) dss_nil)
    (dss_one (ds_ret (de_and (de_callB (cr_all rfl) cd_all rfl (G.n "all" (by decide)) (by decide +kernel) (da_cons (de_lcF (own := [("name", 2)]) rfl nd (dic_of (di_seq (de_var 0))) (blkOk_by (show blkC ["value", "least", "name"] (defScope s_are_names) _ _ = true from by decide +kernel)) (by decide) (fun s H C cl fp => (dg_name 2 nd rfl (.inl rfl))) (fun s H C cl fp => dts_nil) (fun s H C cl fp => (de_f H_is_name (hr.mono (by decide)) rfl DL.takes0 (da_cons (de_var 2) da_nil)))) da_nil)) (de_one (de_cmp op_eq rd_eqS (de_lenSet rfl rfl (G.n "len" (by decide)) rfl (G.n "set" (by decide)) (de_var 0)) (de_callB call_len cd_len rfl (G.n "len" (by decide)) (by decide +kernel) (da_cons (de_var 0) da_nil)) (nomark _)))))))
  · intro ds F1 X1 hn h
    obtain ⟨d, m, rfl, hv, f⟩ := h
    refine ms_at (e := [.dat d, .dat (.int m), .un]) rfl ?_
    cases d with
    | lst l =>
      simp only [msRet, msRetN, msSeq, msIf, msNext, msExpr, msSet, mtAnd, mtOr, mtNot, mTru, mB, mCB, mCall, maCons, maNil, mVar, mC, mOp, mChain, mIf, mAndV, mOrV, mNotV, mLst, mTup, mMS, gI0, gLen, gEq, gNe, gEqS, gNeS, gIn, gAll, gStrip, truD, start0, dn, mLc, miS, mgName, wipeD, mYes, lcD, List.map_cons, List.map_nil, List.replicate, List.cons_append, List.nil_append, List.getElem?_cons_zero, List.getElem?_cons_succ, List.getElem?_nil, List.append_nil, gLe, gLt, Bool.not_true, Bool.not_false, Bool.false_eq_true, reduceIte]
      refine ⟨rfl, _, rfl, hv.1.1, ?_⟩
      simp only [isSeqD, Bool.not_true, Bool.false_eq_true, reduceIte]
      have hz : l.length ≤ 100 := hv.1.2
      have f : F1 (.bl (!decide ((l.length : Int) < m) && (l.all nameD && diffD l))) := f
      cases e1 : decide ((l.length : Int) < m) <;> rw [e1] at f
      · simp only [Bool.false_eq_true, reduceIte]
        refine ⟨l, rfl, Nat.lt_of_le_of_lt hz (by decide), lcD_map (f := fun d => .bl (nameD d)) l (fun e me F' q => ?_) ?_⟩
        · exact ⟨rfl, e, rfl, hv.2 e me, q⟩
        · refine ⟨l.map nameD, bls_map l, ?_⟩
          rw [all_map]
          cases e2 : l.all nameD <;> rw [e2] at f
          · exact f
          · obtain ⟨xs, hx, hn2⟩ := strs_all e2
            have f : F1 (.bl (diffD l)) := f
            unfold diffD at f
            rw [hx] at f
            exact ⟨l, xs, rfl, hx, by rw [hn2]; exact Nat.lt_of_le_of_lt (Nat.succ_le_succ hz) (by decide), f⟩
      · exact f
    | tup l =>
      simp only [msRet, msRetN, msSeq, msIf, msNext, msExpr, msSet, mtAnd, mtOr, mtNot, mTru, mB, mCB, mCall, maCons, maNil, mVar, mC, mOp, mChain, mIf, mAndV, mOrV, mNotV, mLst, mTup, mMS, gI0, gLen, gEq, gNe, gEqS, gNeS, gIn, gAll, gStrip, truD, start0, dn, mLc, miS, mgName, wipeD, mYes, lcD, List.map_cons, List.map_nil, List.replicate, List.cons_append, List.nil_append, List.getElem?_cons_zero, List.getElem?_cons_succ, List.getElem?_nil, List.append_nil, gLe, gLt, Bool.not_true, Bool.not_false, Bool.false_eq_true, reduceIte]
      refine ⟨rfl, _, rfl, hv.1.1, ?_⟩
      simp only [isSeqD, Bool.not_true, Bool.false_eq_true, reduceIte]
      have hz : l.length ≤ 100 := hv.1.2
      have f : F1 (.bl (!decide ((l.length : Int) < m) && (l.all nameD && diffD l))) := f
      cases e1 : decide ((l.length : Int) < m) <;> rw [e1] at f
      · simp only [Bool.false_eq_true, reduceIte]
        refine ⟨l, rfl, Nat.lt_of_le_of_lt hz (by decide), lcD_map (f := fun d => .bl (nameD d)) l (fun e me F' q => ?_) ?_⟩
        · exact ⟨rfl, e, rfl, hv.2 e me, q⟩
        · refine ⟨l.map nameD, bls_map l, ?_⟩
          rw [all_map]
          cases e2 : l.all nameD <;> rw [e2] at f
          · exact f
          · obtain ⟨xs, hx, hn2⟩ := strs_all e2
            have f : F1 (.bl (diffD l)) := f
            unfold diffD at f
            rw [hx] at f
            exact ⟨l, xs, rfl, hx, by rw [hn2]; exact Nat.lt_of_le_of_lt (Nat.succ_le_succ hz) (by decide), f⟩
      · exact f
    | _ =>
      simp only [msRet, msRetN, msSeq, msIf, msNext, msExpr, msSet, mtAnd, mtOr, mtNot, mTru, mB, mCB, mCall, maCons, maNil, mVar, mC, mOp, mChain, mIf, mAndV, mOrV, mNotV, mLst, mTup, mMS, gI0, gLen, gEq, gNe, gEqS, gNeS, gIn, gAll, gStrip, truD, start0, dn, mLc, miS, mgName, wipeD, mYes, lcD, List.map_cons, List.map_nil, List.replicate, List.cons_append, List.nil_append, List.getElem?_cons_zero, List.getElem?_cons_succ, List.getElem?_nil, List.append_nil, gLe, gLt, Bool.not_true, Bool.not_false, Bool.false_eq_true, reduceIte]
      exact ⟨rfl, _, rfl, hv.1.1, f⟩
theorem sc_need : FnScope ["holds", "word"] ["holds", "word"] (defScope s_need) := ⟨rfl, rfl, rfl, by decide +kernel, rfl, by decide +kernel, by decide +kernel⟩
theorem ok_need (G : Glo K mg) (c : He.SaysD fa fn K) (ex0 : Exs P w K mg base) : Fn P w K mg base "need" 3 2 false (gNeed K) := by
  obtain ⟨fd, F⟩ := c.defs (d := dfn ("need", none) "need" "need" s_need) (by unfold fn; simp)
  replace F : FunD K "need" "need" (defArgs s_need) (defBody s_need) (defScope s_need) [] [] (He.ga K "need") fd := F
  refine ⟨_, fd, ["holds", "word"], ?_, G.g "need" (by decide), F.kp, F.bindsN fun _ _ _ _ _ _ us hl => match us, hl with | [_, _], _ => rfl⟩
  have nd : (["holds", "word"] : List Str).Nodup := sc_need.nd
  obtain ⟨_, h_LETTERS⟩ := G.hL
  obtain ⟨_, h_LAD⟩ := G.hA
  obtain ⟨_, h_LN⟩ := G.hN
  obtain ⟨_, h_LT⟩ := G.hT
  obtain ⟨fI, fdI, psI, oex, iC, tI, FI, bI⟩ := ex0
  apply fn_okE (k := 2) (N := ["holds", "word"]) F sc_need rfl (by decide)
  intro c cdv A outer s H E hr
  have hu := hr.units
  have tk := takes_of (X := cxOf (L2.CX P w) P w K mg base ["holds", "word"] "need" (defScope s_need) (He.ga K "need") cdv A outer s H E) rfl rfl rfl rfl
  apply Exists.intro
  apply Exists.intro
  apply And.intro
  · exact (dss_one (ds_if (dt_not (dt_truth (de_var 0))) (dss_one (ds_raise1 rfl tk oex iC tI FI (hr.mono (by decide)) bI rfl (G.g "InvalidStep" (by decide)) (da_cons (de_var 1) da_nil))) dss_nil))
  · intro ds F1 X1 hn h
    obtain ⟨b, z, rfl, h1, h2⟩ := h
    refine ms_at (e := [.dat (.bl b), .dat (.str z)]) rfl ?_
    simp only [msRet, msRetN, msSeq, msIf, msNext, msExpr, msSet, mtAnd, mtOr, mtNot, mTru, mB, mCB, mCall, maCons, maNil, mVar, mC, mOp, mChain, mIf, mAndV, mOrV, mNotV, mLst, mTup, mMS, gI0, gLen, gEq, gNe, gEqS, gNeS, gIn, gAll, gStrip, truD, start0, dn, mLc, miS, mgName, wipeD, mYes, lcD, List.map_cons, List.map_nil, List.replicate, List.cons_append, List.nil_append, List.getElem?_cons_zero, List.getElem?_cons_succ, List.getElem?_nil, List.append_nil, gLe, gLt, Bool.not_true, Bool.not_false, Bool.false_eq_true, reduceIte, msRaise1]
    cases b
    · exact h2 rfl
    · exact h1 rfl
theorem sc_are_steps : FnScope ["value", "step"] ["value"] (defScope s_are_steps) := ⟨rfl, rfl, rfl, by decide +kernel, rfl, by decide +kernel, by decide +kernel⟩
theorem ok_are_steps (G : Glo K mg) (c : He.SaysD fa fn K) (H_is_sequence : Fn P w K mg base "is_sequence" 1 1 false (gSeq K)) (kl : Kls K) (ks : Kst K) : Fn P w K mg base "are_steps" 2 1 false (gSteps K) := by
  obtain ⟨fd, F⟩ := c.defs (d := dfn ("are_steps", none) "are_steps" "are_steps" s_are_steps) (by unfold fn; simp)
  replace F : FunD K "are_steps" "are_steps" (defArgs s_are_steps) (defBody s_are_steps) (defScope s_are_steps) [] [] (He.ga K "are_steps") fd := F
  refine ⟨_, fd, ["value"], ?_, G.g "are_steps" (by decide), F.kp, F.bindsN fun _ _ _ _ _ _ us hl => match us, hl with | [_], _ => rfl⟩
  have nd : (["value", "step"] : List Str).Nodup := sc_are_steps.nd
  obtain ⟨_, h_LETTERS⟩ := G.hL
  obtain ⟨_, h_LAD⟩ := G.hA
  obtain ⟨_, h_LN⟩ := G.hN
  obtain ⟨_, h_LT⟩ := G.hT
  apply fn_okE (k := 1) (N := ["value", "step"]) F sc_are_steps rfl (by decide)
  intro c cdv A outer s H E hr
  have hu := hr.units
  have tk := takes_of (X := cxOf (L2.CX P w) P w K mg base ["value", "step"] "are_steps" (defScope s_are_steps) (He.ga K "are_steps") cdv A outer s H E) rfl rfl rfl rfl
  apply Exists.intro
  apply Exists.intro
  apply And.intro
  · exact (dss_one (ds_ret (de_and (de_f H_is_sequence (hr.mono (by decide)) rfl tk (da_cons (de_var 0) da_nil)) (de_one (de_callB (cr_all rfl) cd_all rfl (G.n "all" (by decide)) (by decide +kernel) (da_cons (de_lcF (own := [("step", 1)]) rfl nd (dic_of (di_seq (de_var 0))) (blkOk_by (show blkC ["value", "step"] (defScope s_are_steps) _ _ = true from by decide +kernel)) (by decide) (fun s H C cl fp => (dg_name 1 nd rfl (.inl rfl))) (fun s H C cl fp => dts_nil) (fun s H C cl fp => (de_callB call_isi cd_isi rfl (G.n "isinstance" (by decide)) (by decide +kernel) (da_cons (de_var 1) (da_cons (de_glob (v := .ref (He.ga K "Step")) rfl (G.g "Step" (by decide)) rfl (fun _ => .fx _)) da_nil))))) da_nil))))))
  · intro ds F1 X1 hn h
    obtain ⟨d, rfl, hv, f⟩ := h
    refine ms_at (e := [.dat d, .un]) rfl ?_
    cases d with
    | lst l =>
      have hz : l.length ≤ 100 := hv.1.2
      simp only [msRet, msRetN, msSeq, msIf, msNext, msExpr, msSet, mtAnd, mtOr, mtNot, mTru, mB, mCB, mCall, maCons, maNil, mVar, mC, mOp, mChain, mIf, mAndV, mOrV, mNotV, mLst, mTup, mMS, gI0, gLen, gEq, gNe, gEqS, gNeS, gIn, gAll, gStrip, truD, start0, dn, mLc, miS, mgName, wipeD, mYes, lcD, List.map_cons, List.map_nil, List.replicate, List.cons_append, List.nil_append, List.getElem?_cons_zero, List.getElem?_cons_succ, List.getElem?_nil, List.append_nil, gLe, gLt, Bool.not_true, Bool.not_false, Bool.false_eq_true, reduceIte]
      refine ⟨rfl, _, rfl, hv.1.1, ?_⟩
      refine ⟨l, rfl, Nat.lt_of_le_of_lt hz (by decide), lcD_map (f := fun d => .bl (isStepD K d)) l (fun e me F' q => ?_) ?_⟩
      · obtain ⟨t, h1, h2⟩ := kn_step kl ks (hv.2 e me).1
        exact ⟨t, .ref (cStep K), isStepD K e, .own _, h1, kit1_of h2, q⟩
      · refine ⟨l.map (isStepD K), bls_map l, ?_⟩
        rw [all_map]
        exact f
    | tup l =>
      have hz : l.length ≤ 100 := hv.1.2
      simp only [msRet, msRetN, msSeq, msIf, msNext, msExpr, msSet, mtAnd, mtOr, mtNot, mTru, mB, mCB, mCall, maCons, maNil, mVar, mC, mOp, mChain, mIf, mAndV, mOrV, mNotV, mLst, mTup, mMS, gI0, gLen, gEq, gNe, gEqS, gNeS, gIn, gAll, gStrip, truD, start0, dn, mLc, miS, mgName, wipeD, mYes, lcD, List.map_cons, List.map_nil, List.replicate, List.cons_append, List.nil_append, List.getElem?_cons_zero, List.getElem?_cons_succ, List.getElem?_nil, List.append_nil, gLe, gLt, Bool.not_true, Bool.not_false, Bool.false_eq_true, reduceIte]
      refine ⟨rfl, _, rfl, hv.1.1, ?_⟩
      refine ⟨l, rfl, Nat.lt_of_le_of_lt hz (by decide), lcD_map (f := fun d => .bl (isStepD K d)) l (fun e me F' q => ?_) ?_⟩
      · obtain ⟨t, h1, h2⟩ := kn_step kl ks (hv.2 e me).1
        exact ⟨t, .ref (cStep K), isStepD K e, .own _, h1, kit1_of h2, q⟩
      · refine ⟨l.map (isStepD K), bls_map l, ?_⟩
        rw [all_map]
        exact f
    | _ =>
      simp only [msRet, msRetN, msSeq, msIf, msNext, msExpr, msSet, mtAnd, mtOr, mtNot, mTru, mB, mCB, mCall, maCons, maNil, mVar, mC, mOp, mChain, mIf, mAndV, mOrV, mNotV, mLst, mTup, mMS, gI0, gLen, gEq, gNe, gEqS, gNeS, gIn, gAll, gStrip, truD, start0, dn, mLc, miS, mgName, wipeD, mYes, lcD, List.map_cons, List.map_nil, List.replicate, List.cons_append, List.nil_append, List.getElem?_cons_zero, List.getElem?_cons_succ, List.getElem?_nil, List.append_nil, gLe, gLt, Bool.not_true, Bool.not_false, Bool.false_eq_true, reduceIte]
      exact ⟨rfl, _, rfl, hv.1.1, f⟩
end
end K12

set_option Elab.async false
set_option linter.all false
set_option maxRecDepth 100000
set_option maxHeartbeats 4000000
namespace K12
open PySem PySem.Spec PyProof.Rows L2 DL
def runD (K : Fg) (F0 : Prop) (X : XC) : List (Bool × Str) → Prop
  | [] => F0
  | (b, w) :: r => if b = true then runD K F0 X r else X (iS K, [("word", .str w)])
theorem tup_of {d : D} {F : D → Prop} (h : isSeqD d = true) (f : F (.tup (elD d))) : gTuple [d] F := by
  cases d with
  | lst l => exact f
  | tup l => exact f
  | _ => cases h
theorem names_seq {d : D} {m : Int} (h : namesD d m = true) : isSeqD d = true := (Bool.and_eq_true_iff.mp h).1
theorem steps_seq {K : Fg} {d : D} (h : stepsD K d = true) : isSeqD d = true := (Bool.and_eq_true_iff.mp h).1
section
variable {P : Program} {w : World} {K : Fg} {mg : Str → Option Value} {base : Heap}
theorem ok_exs (c : He.SaysD fa fn K) (h1 : OexC K (iS K)) (h2 : PySem.W.findIn K (.ref (iS K)) "__init__" = some (some (.ref (He.ma K (iS K) "__init__")))) (h3 : PySem.W.typeIn K (.ref (He.ma K (iS K) "__init__")) = some (.type "function")) (h4 : PySem.W.findIn K (.ref (iS K)) "word" = some none) : Exs P w K mg base := by
  obtain ⟨fd, F⟩ := c.defs (d := dfn ("InvalidStep", some "__init__") "__init__" "InvalidStep.__init__" s_InvalidStep_init) (by unfold fn; simp)
  replace F : FunD K "__init__" "InvalidStep.__init__" (defArgs s_InvalidStep_init) (defBody s_InvalidStep_init) (defScope s_InvalidStep_init) [] [] (He.ma K (iS K) "__init__") fd := F
  have sc : FnScope ["self", "word"] ["self", "word"] (defScope s_InvalidStep_init) := ⟨rfl, rfl, rfl, by decide +kernel, rfl, by decide +kernel, by decide +kernel⟩
  refine ⟨_, fd, ["self", "word"], h1, h2, h3, fn_x1 F sc rfl rfl h1 h4 fun cdv A outer s H E => pss_one (ps_ost (pv 0) (pv 1)), F.bindsN fun _ _ _ _ _ _ us hl => match us, hl with | [_, _], _ => rfl⟩
def gPick (K : Fg) : FI := fun ds F X => ∃ d_columns : D, ds = [d_columns] ∧ V2 K d_columns ∧ runD K (F [("columns", .tup (elD d_columns))]) X [(namesD d_columns 1, "columns")]
theorem sc_Pick_init : FnScope ["self", "columns"] ["self", "columns"] (defScope s_Pick_init) := ⟨rfl, rfl, rfl, by decide +kernel, rfl, by decide +kernel, by decide +kernel⟩
theorem ok_Pick_init (G : Glo K mg) (c : He.SaysD fa fn K) (H_are_names : Fn P w K mg base "are_names" 3 2 false (gNames K)) (H_need : Fn P w K mg base "need" 3 2 false (gNeed K)) : Mkr P w K mg base "Pick" (He.ga K "Pick") 4 1 (gPick K) := by
  obtain ⟨fd, F⟩ := c.defs (d := dfn ("Pick", some "__init__") "__init__" "Pick.__init__" s_Pick_init) (by unfold fn; simp)
  replace F : FunD K "__init__" "Pick.__init__" (defArgs s_Pick_init) (defBody s_Pick_init) (defScope s_Pick_init) [] [] (He.ma K (He.ga K "Pick") "__init__") fd := F
  have kC := He.cls_ok (c.fact 65 (f := .cls "Pick") rfl)
  have n_columns := He.noat_ok (c.fact 76 (f := .noat "Pick" "columns") rfl)
  refine ⟨_, fd, ["self", "columns"], He.mkr_ok (c.fact 54 (f := .mkr "Pick") rfl), ?_, G.g "Pick" (by decide), F.bindsN fun _ _ _ _ _ _ us hl => match us, hl with | [_, _], _ => rfl⟩
  have nd : (["self", "columns"] : List Str).Nodup := sc_Pick_init.nd
  apply fn_okIE (k := 3) (N := ["self", "columns"]) F sc_Pick_init rfl (by decide)
  intro c cdv A outer s H E hr
  have hu := hr.units
  have tk := takes_of (X := cxOf (L2.CX P w) P w K mg base ["self", "columns"] "Pick.__init__" (defScope s_Pick_init) (He.ma K (He.ga K "Pick") "__init__") cdv A outer s H E) rfl rfl rfl rfl
  apply Exists.intro
  apply Exists.intro
  apply And.intro
  · exact (dss_cons (ds_expr (de_f H_need (hr.mono (by decide)) rfl tk (da_cons (de_f H_are_names (hr.mono (by decide)) rfl tk (da_cons (de_var 1) (da_cons de_int da_nil))) (da_cons de_str da_nil))))
    (dss_one (ds_self (pv 0) (de_callTy call_tuple_of cd_tuple rfl (G.n "tuple" (by decide)) (by decide +kernel) (da_cons (de_var 1) da_nil)))))
  · intro ds F1 X1 hn h
    obtain ⟨d_columns, rfl, v_columns, f⟩ := h
    refine ms_at (e := [.self (He.ga K "Pick") [], .dat d_columns]) rfl ?_
    simp only [msRet, msRetN, msSeq, msIf, msNext, msExpr, msSet, mtAnd, mtOr, mtNot, mTru, mB, mCB, mCall, maCons, maNil, mVar, mC, mOp, mChain, mIf, mAndV, mOrV, mNotV, mLst, mTup, mMS, gI0, gLen, gEq, gNe, gEqS, gNeS, gIn, gAll, gStrip, truD, start0, dn, mLc, miS, mgName, wipeD, mYes, lcD, List.map_cons, List.map_nil, List.replicate, List.cons_append, List.nil_append, List.getElem?_cons_zero, List.getElem?_cons_succ, List.getElem?_nil, List.append_nil, gLe, gLt, Bool.not_true, Bool.not_false, Bool.false_eq_true, reduceIte, msSelf, msRaise1]
    simp only [runD] at f
    refine ⟨rfl, d_columns, 1, rfl, v_columns, rfl, namesD d_columns 1, _, rfl, fun e0 => ?_, fun e0 => ?_⟩
    rotate_left
    · rw [if_neg (by rw [e0]; decide)] at f
      exact f
    rw [if_pos e0] at f
    refine tup_of (names_seq e0) ⟨kC, n_columns, (show 0 < 800 from by decide), rfl, ?_⟩
    exact ⟨rfl, f⟩
def gRename (K : Fg) : FI := fun ds F X => ∃ d_old d_new : D, ds = [d_old, d_new] ∧ V2 K d_old ∧ V2 K d_new ∧ runD K (F [("old", d_old), ("new", d_new)]) X [(nameD d_old, "old"), (nameD d_new, "new")]
theorem sc_Rename_init : FnScope ["self", "old", "new"] ["self", "old", "new"] (defScope s_Rename_init) := ⟨rfl, rfl, rfl, by decide +kernel, rfl, by decide +kernel, by decide +kernel⟩
theorem ok_Rename_init (G : Glo K mg) (c : He.SaysD fa fn K) (H_is_name : Fn P w K mg base "is_name" 2 1 false (gName K)) (H_need : Fn P w K mg base "need" 3 2 false (gNeed K)) : Mkr P w K mg base "Rename" (He.ga K "Rename") 4 2 (gRename K) := by
  obtain ⟨fd, F⟩ := c.defs (d := dfn ("Rename", some "__init__") "__init__" "Rename.__init__" s_Rename_init) (by unfold fn; simp)
  replace F : FunD K "__init__" "Rename.__init__" (defArgs s_Rename_init) (defBody s_Rename_init) (defScope s_Rename_init) [] [] (He.ma K (He.ga K "Rename") "__init__") fd := F
  have kC := He.cls_ok (c.fact 66 (f := .cls "Rename") rfl)
  have n_old := He.noat_ok (c.fact 77 (f := .noat "Rename" "old") rfl)
  have n_new := He.noat_ok (c.fact 78 (f := .noat "Rename" "new") rfl)
  refine ⟨_, fd, ["self", "old", "new"], He.mkr_ok (c.fact 55 (f := .mkr "Rename") rfl), ?_, G.g "Rename" (by decide), F.bindsN fun _ _ _ _ _ _ us hl => match us, hl with | [_, _, _], _ => rfl⟩
  have nd : (["self", "old", "new"] : List Str).Nodup := sc_Rename_init.nd
  apply fn_okIE (k := 3) (N := ["self", "old", "new"]) F sc_Rename_init rfl (by decide)
  intro c cdv A outer s H E hr
  have hu := hr.units
  have tk := takes_of (X := cxOf (L2.CX P w) P w K mg base ["self", "old", "new"] "Rename.__init__" (defScope s_Rename_init) (He.ma K (He.ga K "Rename") "__init__") cdv A outer s H E) rfl rfl rfl rfl
  apply Exists.intro
  apply Exists.intro
  apply And.intro
  · exact (dss_cons (ds_expr (de_f H_need (hr.mono (by decide)) rfl tk (da_cons (de_f H_is_name (hr.mono (by decide)) rfl tk (da_cons (de_var 1) da_nil)) (da_cons de_str da_nil))))
    (dss_cons (ds_expr (de_f H_need (hr.mono (by decide)) rfl tk (da_cons (de_f H_is_name (hr.mono (by decide)) rfl tk (da_cons (de_var 2) da_nil)) (da_cons de_str da_nil))))
    (dss_cons (ds_self (pv 0) (de_var 1))
    (dss_one (ds_self (pv 0) (de_var 2))))))
  · intro ds F1 X1 hn h
    obtain ⟨d_old, d_new, rfl, v_old, v_new, f⟩ := h
    refine ms_at (e := [.self (He.ga K "Rename") [], .dat d_old, .dat d_new]) rfl ?_
    simp only [msRet, msRetN, msSeq, msIf, msNext, msExpr, msSet, mtAnd, mtOr, mtNot, mTru, mB, mCB, mCall, maCons, maNil, mVar, mC, mOp, mChain, mIf, mAndV, mOrV, mNotV, mLst, mTup, mMS, gI0, gLen, gEq, gNe, gEqS, gNeS, gIn, gAll, gStrip, truD, start0, dn, mLc, miS, mgName, wipeD, mYes, lcD, List.map_cons, List.map_nil, List.replicate, List.cons_append, List.nil_append, List.getElem?_cons_zero, List.getElem?_cons_succ, List.getElem?_nil, List.append_nil, gLe, gLt, Bool.not_true, Bool.not_false, Bool.false_eq_true, reduceIte, msSelf, msRaise1]
    simp only [runD] at f
    refine ⟨rfl, d_old, rfl, v_old.1, rfl, nameD d_old, _, rfl, fun e0 => ?_, fun e0 => ?_⟩
    rotate_left
    · rw [if_neg (by rw [e0]; decide)] at f
      exact f
    rw [if_pos e0] at f
    refine ⟨rfl, d_new, rfl, v_new.1, rfl, nameD d_new, _, rfl, fun e1 => ?_, fun e1 => ?_⟩
    rotate_left
    · rw [if_neg (by rw [e1]; decide)] at f
      exact f
    rw [if_pos e1] at f
    refine ⟨kC, n_old, (show 0 < 800 from by decide), rfl, ?_⟩
    refine ⟨kC, n_new, (show 1 < 800 from by decide), rfl, ?_⟩
    exact ⟨rfl, f⟩
def gHas (K : Fg) : FI := fun ds F X => ∃ d_column : D, ds = [d_column] ∧ V2 K d_column ∧ runD K (F [("column", d_column)]) X [(nameD d_column, "column")]
theorem sc_Has_init : FnScope ["self", "column"] ["self", "column"] (defScope s_Has_init) := ⟨rfl, rfl, rfl, by decide +kernel, rfl, by decide +kernel, by decide +kernel⟩
theorem ok_Has_init (G : Glo K mg) (c : He.SaysD fa fn K) (H_is_name : Fn P w K mg base "is_name" 2 1 false (gName K)) (H_need : Fn P w K mg base "need" 3 2 false (gNeed K)) : Mkr P w K mg base "Has" (He.ga K "Has") 4 1 (gHas K) := by
  obtain ⟨fd, F⟩ := c.defs (d := dfn ("Has", some "__init__") "__init__" "Has.__init__" s_Has_init) (by unfold fn; simp)
  replace F : FunD K "__init__" "Has.__init__" (defArgs s_Has_init) (defBody s_Has_init) (defScope s_Has_init) [] [] (He.ma K (He.ga K "Has") "__init__") fd := F
  have kC := He.cls_ok (c.fact 67 (f := .cls "Has") rfl)
  have n_column := He.noat_ok (c.fact 79 (f := .noat "Has" "column") rfl)
  refine ⟨_, fd, ["self", "column"], He.mkr_ok (c.fact 56 (f := .mkr "Has") rfl), ?_, G.g "Has" (by decide), F.bindsN fun _ _ _ _ _ _ us hl => match us, hl with | [_, _], _ => rfl⟩
  have nd : (["self", "column"] : List Str).Nodup := sc_Has_init.nd
  apply fn_okIE (k := 3) (N := ["self", "column"]) F sc_Has_init rfl (by decide)
  intro c cdv A outer s H E hr
  have hu := hr.units
  have tk := takes_of (X := cxOf (L2.CX P w) P w K mg base ["self", "column"] "Has.__init__" (defScope s_Has_init) (He.ma K (He.ga K "Has") "__init__") cdv A outer s H E) rfl rfl rfl rfl
  apply Exists.intro
  apply Exists.intro
  apply And.intro
  · exact (dss_cons (ds_expr (de_f H_need (hr.mono (by decide)) rfl tk (da_cons (de_f H_is_name (hr.mono (by decide)) rfl tk (da_cons (de_var 1) da_nil)) (da_cons de_str da_nil))))
    (dss_one (ds_self (pv 0) (de_var 1))))
  · intro ds F1 X1 hn h
    obtain ⟨d_column, rfl, v_column, f⟩ := h
    refine ms_at (e := [.self (He.ga K "Has") [], .dat d_column]) rfl ?_
    simp only [msRet, msRetN, msSeq, msIf, msNext, msExpr, msSet, mtAnd, mtOr, mtNot, mTru, mB, mCB, mCall, maCons, maNil, mVar, mC, mOp, mChain, mIf, mAndV, mOrV, mNotV, mLst, mTup, mMS, gI0, gLen, gEq, gNe, gEqS, gNeS, gIn, gAll, gStrip, truD, start0, dn, mLc, miS, mgName, wipeD, mYes, lcD, List.map_cons, List.map_nil, List.replicate, List.cons_append, List.nil_append, List.getElem?_cons_zero, List.getElem?_cons_succ, List.getElem?_nil, List.append_nil, gLe, gLt, Bool.not_true, Bool.not_false, Bool.false_eq_true, reduceIte, msSelf, msRaise1]
    simp only [runD] at f
    refine ⟨rfl, d_column, rfl, v_column.1, rfl, nameD d_column, _, rfl, fun e0 => ?_, fun e0 => ?_⟩
    rotate_left
    · rw [if_neg (by rw [e0]; decide)] at f
      exact f
    rw [if_pos e0] at f
    refine ⟨kC, n_column, (show 0 < 800 from by decide), rfl, ?_⟩
    exact ⟨rfl, f⟩
def gIs (K : Fg) : FI := fun ds F X => ∃ d_column d_text : D, ds = [d_column, d_text] ∧ V2 K d_column ∧ V2 K d_text ∧ runD K (F [("column", d_column), ("text", d_text)]) X [(nameD d_column, "column"), (textD d_text, "text")]
theorem sc_Is_init : FnScope ["self", "column", "text"] ["self", "column", "text"] (defScope s_Is_init) := ⟨rfl, rfl, rfl, by decide +kernel, rfl, by decide +kernel, by decide +kernel⟩
theorem ok_Is_init (G : Glo K mg) (c : He.SaysD fa fn K) (H_is_name : Fn P w K mg base "is_name" 2 1 false (gName K)) (H_is_text : Fn P w K mg base "is_text" 2 1 false (gText K)) (H_need : Fn P w K mg base "need" 3 2 false (gNeed K)) : Mkr P w K mg base "Is" (He.ga K "Is") 4 2 (gIs K) := by
  obtain ⟨fd, F⟩ := c.defs (d := dfn ("Is", some "__init__") "__init__" "Is.__init__" s_Is_init) (by unfold fn; simp)
  replace F : FunD K "__init__" "Is.__init__" (defArgs s_Is_init) (defBody s_Is_init) (defScope s_Is_init) [] [] (He.ma K (He.ga K "Is") "__init__") fd := F
  have kC := He.cls_ok (c.fact 68 (f := .cls "Is") rfl)
  have n_column := He.noat_ok (c.fact 80 (f := .noat "Is" "column") rfl)
  have n_text := He.noat_ok (c.fact 81 (f := .noat "Is" "text") rfl)
  refine ⟨_, fd, ["self", "column", "text"], He.mkr_ok (c.fact 57 (f := .mkr "Is") rfl), ?_, G.g "Is" (by decide), F.bindsN fun _ _ _ _ _ _ us hl => match us, hl with | [_, _, _], _ => rfl⟩
  have nd : (["self", "column", "text"] : List Str).Nodup := sc_Is_init.nd
  apply fn_okIE (k := 3) (N := ["self", "column", "text"]) F sc_Is_init rfl (by decide)
  intro c cdv A outer s H E hr
  have hu := hr.units
  have tk := takes_of (X := cxOf (L2.CX P w) P w K mg base ["self", "column", "text"] "Is.__init__" (defScope s_Is_init) (He.ma K (He.ga K "Is") "__init__") cdv A outer s H E) rfl rfl rfl rfl
  apply Exists.intro
  apply Exists.intro
  apply And.intro
  · exact (dss_cons (ds_expr (de_f H_need (hr.mono (by decide)) rfl tk (da_cons (de_f H_is_name (hr.mono (by decide)) rfl tk (da_cons (de_var 1) da_nil)) (da_cons de_str da_nil))))
    (dss_cons (ds_expr (de_f H_need (hr.mono (by decide)) rfl tk (da_cons (de_f H_is_text (hr.mono (by decide)) rfl tk (da_cons (de_var 2) da_nil)) (da_cons de_str da_nil))))
    (dss_cons (ds_self (pv 0) (de_var 1))
    (dss_one (ds_self (pv 0) (de_var 2))))))
  · intro ds F1 X1 hn h
    obtain ⟨d_column, d_text, rfl, v_column, v_text, f⟩ := h
    refine ms_at (e := [.self (He.ga K "Is") [], .dat d_column, .dat d_text]) rfl ?_
    simp only [msRet, msRetN, msSeq, msIf, msNext, msExpr, msSet, mtAnd, mtOr, mtNot, mTru, mB, mCB, mCall, maCons, maNil, mVar, mC, mOp, mChain, mIf, mAndV, mOrV, mNotV, mLst, mTup, mMS, gI0, gLen, gEq, gNe, gEqS, gNeS, gIn, gAll, gStrip, truD, start0, dn, mLc, miS, mgName, wipeD, mYes, lcD, List.map_cons, List.map_nil, List.replicate, List.cons_append, List.nil_append, List.getElem?_cons_zero, List.getElem?_cons_succ, List.getElem?_nil, List.append_nil, gLe, gLt, Bool.not_true, Bool.not_false, Bool.false_eq_true, reduceIte, msSelf, msRaise1]
    simp only [runD] at f
    refine ⟨rfl, d_column, rfl, v_column.1, rfl, nameD d_column, _, rfl, fun e0 => ?_, fun e0 => ?_⟩
    rotate_left
    · rw [if_neg (by rw [e0]; decide)] at f
      exact f
    rw [if_pos e0] at f
    refine ⟨rfl, d_text, rfl, v_text.1, rfl, textD d_text, _, rfl, fun e1 => ?_, fun e1 => ?_⟩
    rotate_left
    · rw [if_neg (by rw [e1]; decide)] at f
      exact f
    rw [if_pos e1] at f
    refine ⟨kC, n_column, (show 0 < 800 from by decide), rfl, ?_⟩
    refine ⟨kC, n_text, (show 1 < 800 from by decide), rfl, ?_⟩
    exact ⟨rfl, f⟩
def gPut (K : Fg) : FI := fun ds F X => ∃ d_column d_text : D, ds = [d_column, d_text] ∧ V2 K d_column ∧ V2 K d_text ∧ runD K (F [("column", d_column), ("text", d_text)]) X [(nameD d_column, "column"), (textD d_text, "text")]
theorem sc_Put_init : FnScope ["self", "column", "text"] ["self", "column", "text"] (defScope s_Put_init) := ⟨rfl, rfl, rfl, by decide +kernel, rfl, by decide +kernel, by decide +kernel⟩
theorem ok_Put_init (G : Glo K mg) (c : He.SaysD fa fn K) (H_is_name : Fn P w K mg base "is_name" 2 1 false (gName K)) (H_is_text : Fn P w K mg base "is_text" 2 1 false (gText K)) (H_need : Fn P w K mg base "need" 3 2 false (gNeed K)) : Mkr P w K mg base "Put" (He.ga K "Put") 4 2 (gPut K) := by
  obtain ⟨fd, F⟩ := c.defs (d := dfn ("Put", some "__init__") "__init__" "Put.__init__" s_Put_init) (by unfold fn; simp)
  replace F : FunD K "__init__" "Put.__init__" (defArgs s_Put_init) (defBody s_Put_init) (defScope s_Put_init) [] [] (He.ma K (He.ga K "Put") "__init__") fd := F
  have kC := He.cls_ok (c.fact 69 (f := .cls "Put") rfl)
  have n_column := He.noat_ok (c.fact 82 (f := .noat "Put" "column") rfl)
  have n_text := He.noat_ok (c.fact 83 (f := .noat "Put" "text") rfl)
  refine ⟨_, fd, ["self", "column", "text"], He.mkr_ok (c.fact 58 (f := .mkr "Put") rfl), ?_, G.g "Put" (by decide), F.bindsN fun _ _ _ _ _ _ us hl => match us, hl with | [_, _, _], _ => rfl⟩
  have nd : (["self", "column", "text"] : List Str).Nodup := sc_Put_init.nd
  apply fn_okIE (k := 3) (N := ["self", "column", "text"]) F sc_Put_init rfl (by decide)
  intro c cdv A outer s H E hr
  have hu := hr.units
  have tk := takes_of (X := cxOf (L2.CX P w) P w K mg base ["self", "column", "text"] "Put.__init__" (defScope s_Put_init) (He.ma K (He.ga K "Put") "__init__") cdv A outer s H E) rfl rfl rfl rfl
  apply Exists.intro
  apply Exists.intro
  apply And.intro
  · exact (dss_cons (ds_expr (de_f H_need (hr.mono (by decide)) rfl tk (da_cons (de_f H_is_name (hr.mono (by decide)) rfl tk (da_cons (de_var 1) da_nil)) (da_cons de_str da_nil))))
    (dss_cons (ds_expr (de_f H_need (hr.mono (by decide)) rfl tk (da_cons (de_f H_is_text (hr.mono (by decide)) rfl tk (da_cons (de_var 2) da_nil)) (da_cons de_str da_nil))))
    (dss_cons (ds_self (pv 0) (de_var 1))
    (dss_one (ds_self (pv 0) (de_var 2))))))
  · intro ds F1 X1 hn h
    obtain ⟨d_column, d_text, rfl, v_column, v_text, f⟩ := h
    refine ms_at (e := [.self (He.ga K "Put") [], .dat d_column, .dat d_text]) rfl ?_
    simp only [msRet, msRetN, msSeq, msIf, msNext, msExpr, msSet, mtAnd, mtOr, mtNot, mTru, mB, mCB, mCall, maCons, maNil, mVar, mC, mOp, mChain, mIf, mAndV, mOrV, mNotV, mLst, mTup, mMS, gI0, gLen, gEq, gNe, gEqS, gNeS, gIn, gAll, gStrip, truD, start0, dn, mLc, miS, mgName, wipeD, mYes, lcD, List.map_cons, List.map_nil, List.replicate, List.cons_append, List.nil_append, List.getElem?_cons_zero, List.getElem?_cons_succ, List.getElem?_nil, List.append_nil, gLe, gLt, Bool.not_true, Bool.not_false, Bool.false_eq_true, reduceIte, msSelf, msRaise1]
    simp only [runD] at f
    refine ⟨rfl, d_column, rfl, v_column.1, rfl, nameD d_column, _, rfl, fun e0 => ?_, fun e0 => ?_⟩
    rotate_left
    · rw [if_neg (by rw [e0]; decide)] at f
      exact f
    rw [if_pos e0] at f
    refine ⟨rfl, d_text, rfl, v_text.1, rfl, textD d_text, _, rfl, fun e1 => ?_, fun e1 => ?_⟩
    rotate_left
    · rw [if_neg (by rw [e1]; decide)] at f
      exact f
    rw [if_pos e1] at f
    refine ⟨kC, n_column, (show 0 < 800 from by decide), rfl, ?_⟩
    refine ⟨kC, n_text, (show 1 < 800 from by decide), rfl, ?_⟩
    exact ⟨rfl, f⟩
def gAlike (K : Fg) : FI := fun ds F X => ∃ d_column d_other : D, ds = [d_column, d_other] ∧ V2 K d_column ∧ V2 K d_other ∧ runD K (F [("column", d_column), ("other", d_other)]) X [(nameD d_column, "column"), (nameD d_other, "other")]
theorem sc_Alike_init : FnScope ["self", "column", "other"] ["self", "column", "other"] (defScope s_Alike_init) := ⟨rfl, rfl, rfl, by decide +kernel, rfl, by decide +kernel, by decide +kernel⟩
theorem ok_Alike_init (G : Glo K mg) (c : He.SaysD fa fn K) (H_is_name : Fn P w K mg base "is_name" 2 1 false (gName K)) (H_need : Fn P w K mg base "need" 3 2 false (gNeed K)) : Mkr P w K mg base "Alike" (He.ga K "Alike") 4 2 (gAlike K) := by
  obtain ⟨fd, F⟩ := c.defs (d := dfn ("Alike", some "__init__") "__init__" "Alike.__init__" s_Alike_init) (by unfold fn; simp)
  replace F : FunD K "__init__" "Alike.__init__" (defArgs s_Alike_init) (defBody s_Alike_init) (defScope s_Alike_init) [] [] (He.ma K (He.ga K "Alike") "__init__") fd := F
  have kC := He.cls_ok (c.fact 70 (f := .cls "Alike") rfl)
  have n_column := He.noat_ok (c.fact 84 (f := .noat "Alike" "column") rfl)
  have n_other := He.noat_ok (c.fact 85 (f := .noat "Alike" "other") rfl)
  refine ⟨_, fd, ["self", "column", "other"], He.mkr_ok (c.fact 59 (f := .mkr "Alike") rfl), ?_, G.g "Alike" (by decide), F.bindsN fun _ _ _ _ _ _ us hl => match us, hl with | [_, _, _], _ => rfl⟩
  have nd : (["self", "column", "other"] : List Str).Nodup := sc_Alike_init.nd
  apply fn_okIE (k := 3) (N := ["self", "column", "other"]) F sc_Alike_init rfl (by decide)
  intro c cdv A outer s H E hr
  have hu := hr.units
  have tk := takes_of (X := cxOf (L2.CX P w) P w K mg base ["self", "column", "other"] "Alike.__init__" (defScope s_Alike_init) (He.ma K (He.ga K "Alike") "__init__") cdv A outer s H E) rfl rfl rfl rfl
  apply Exists.intro
  apply Exists.intro
  apply And.intro
  · exact (dss_cons (ds_expr (de_f H_need (hr.mono (by decide)) rfl tk (da_cons (de_f H_is_name (hr.mono (by decide)) rfl tk (da_cons (de_var 1) da_nil)) (da_cons de_str da_nil))))
    (dss_cons (ds_expr (de_f H_need (hr.mono (by decide)) rfl tk (da_cons (de_f H_is_name (hr.mono (by decide)) rfl tk (da_cons (de_var 2) da_nil)) (da_cons de_str da_nil))))
    (dss_cons (ds_self (pv 0) (de_var 1))
    (dss_one (ds_self (pv 0) (de_var 2))))))
  · intro ds F1 X1 hn h
    obtain ⟨d_column, d_other, rfl, v_column, v_other, f⟩ := h
    refine ms_at (e := [.self (He.ga K "Alike") [], .dat d_column, .dat d_other]) rfl ?_
    simp only [msRet, msRetN, msSeq, msIf, msNext, msExpr, msSet, mtAnd, mtOr, mtNot, mTru, mB, mCB, mCall, maCons, maNil, mVar, mC, mOp, mChain, mIf, mAndV, mOrV, mNotV, mLst, mTup, mMS, gI0, gLen, gEq, gNe, gEqS, gNeS, gIn, gAll, gStrip, truD, start0, dn, mLc, miS, mgName, wipeD, mYes, lcD, List.map_cons, List.map_nil, List.replicate, List.cons_append, List.nil_append, List.getElem?_cons_zero, List.getElem?_cons_succ, List.getElem?_nil, List.append_nil, gLe, gLt, Bool.not_true, Bool.not_false, Bool.false_eq_true, reduceIte, msSelf, msRaise1]
    simp only [runD] at f
    refine ⟨rfl, d_column, rfl, v_column.1, rfl, nameD d_column, _, rfl, fun e0 => ?_, fun e0 => ?_⟩
    rotate_left
    · rw [if_neg (by rw [e0]; decide)] at f
      exact f
    rw [if_pos e0] at f
    refine ⟨rfl, d_other, rfl, v_other.1, rfl, nameD d_other, _, rfl, fun e1 => ?_, fun e1 => ?_⟩
    rotate_left
    · rw [if_neg (by rw [e1]; decide)] at f
      exact f
    rw [if_pos e1] at f
    refine ⟨kC, n_column, (show 0 < 800 from by decide), rfl, ?_⟩
    refine ⟨kC, n_other, (show 1 < 800 from by decide), rfl, ?_⟩
    exact ⟨rfl, f⟩
def gMelt (K : Fg) : FI := fun ds F X => ∃ d_columns d_name d_value : D, ds = [d_columns, d_name, d_value] ∧ V2 K d_columns ∧ V2 K d_name ∧ V2 K d_value ∧ runD K (F [("columns", .tup (elD d_columns)), ("name", d_name), ("value", d_value)]) X [(namesD d_columns 1, "columns"), (nameD d_name, "name"), (nameD d_value, "value")]
theorem sc_Melt_init : FnScope ["self", "columns", "name", "value"] ["self", "columns", "name", "value"] (defScope s_Melt_init) := ⟨rfl, rfl, rfl, by decide +kernel, rfl, by decide +kernel, by decide +kernel⟩
theorem ok_Melt_init (G : Glo K mg) (c : He.SaysD fa fn K) (H_are_names : Fn P w K mg base "are_names" 3 2 false (gNames K)) (H_is_name : Fn P w K mg base "is_name" 2 1 false (gName K)) (H_need : Fn P w K mg base "need" 3 2 false (gNeed K)) : Mkr P w K mg base "Melt" (He.ga K "Melt") 4 3 (gMelt K) := by
  obtain ⟨fd, F⟩ := c.defs (d := dfn ("Melt", some "__init__") "__init__" "Melt.__init__" s_Melt_init) (by unfold fn; simp)
  replace F : FunD K "__init__" "Melt.__init__" (defArgs s_Melt_init) (defBody s_Melt_init) (defScope s_Melt_init) [] [] (He.ma K (He.ga K "Melt") "__init__") fd := F
  have kC := He.cls_ok (c.fact 71 (f := .cls "Melt") rfl)
  have n_columns := He.noat_ok (c.fact 86 (f := .noat "Melt" "columns") rfl)
  have n_name := He.noat_ok (c.fact 87 (f := .noat "Melt" "name") rfl)
  have n_value := He.noat_ok (c.fact 88 (f := .noat "Melt" "value") rfl)
  refine ⟨_, fd, ["self", "columns", "name", "value"], He.mkr_ok (c.fact 60 (f := .mkr "Melt") rfl), ?_, G.g "Melt" (by decide), F.bindsN fun _ _ _ _ _ _ us hl => match us, hl with | [_, _, _, _], _ => rfl⟩
  have nd : (["self", "columns", "name", "value"] : List Str).Nodup := sc_Melt_init.nd
  apply fn_okIE (k := 3) (N := ["self", "columns", "name", "value"]) F sc_Melt_init rfl (by decide)
  intro c cdv A outer s H E hr
  have hu := hr.units
  have tk := takes_of (X := cxOf (L2.CX P w) P w K mg base ["self", "columns", "name", "value"] "Melt.__init__" (defScope s_Melt_init) (He.ma K (He.ga K "Melt") "__init__") cdv A outer s H E) rfl rfl rfl rfl
  apply Exists.intro
  apply Exists.intro
  apply And.intro
  · exact (dss_cons (ds_expr (de_f H_need (hr.mono (by decide)) rfl tk (da_cons (de_f H_are_names (hr.mono (by decide)) rfl tk (da_cons (de_var 1) (da_cons de_int da_nil))) (da_cons de_str da_nil))))
    (dss_cons (ds_expr (de_f H_need (hr.mono (by decide)) rfl tk (da_cons (de_f H_is_name (hr.mono (by decide)) rfl tk (da_cons (de_var 2) da_nil)) (da_cons de_str da_nil))))
    (dss_cons (ds_expr (de_f H_need (hr.mono (by decide)) rfl tk (da_cons (de_f H_is_name (hr.mono (by decide)) rfl tk (da_cons (de_var 3) da_nil)) (da_cons de_str da_nil))))
    (dss_cons (ds_self (pv 0) (de_callTy call_tuple_of cd_tuple rfl (G.n "tuple" (by decide)) (by decide +kernel) (da_cons (de_var 1) da_nil)))
    (dss_cons (ds_self (pv 0) (de_var 2))
    (dss_one (ds_self (pv 0) (de_var 3))))))))
  · intro ds F1 X1 hn h
    obtain ⟨d_columns, d_name, d_value, rfl, v_columns, v_name, v_value, f⟩ := h
    refine ms_at (e := [.self (He.ga K "Melt") [], .dat d_columns, .dat d_name, .dat d_value]) rfl ?_
    simp only [msRet, msRetN, msSeq, msIf, msNext, msExpr, msSet, mtAnd, mtOr, mtNot, mTru, mB, mCB, mCall, maCons, maNil, mVar, mC, mOp, mChain, mIf, mAndV, mOrV, mNotV, mLst, mTup, mMS, gI0, gLen, gEq, gNe, gEqS, gNeS, gIn, gAll, gStrip, truD, start0, dn, mLc, miS, mgName, wipeD, mYes, lcD, List.map_cons, List.map_nil, List.replicate, List.cons_append, List.nil_append, List.getElem?_cons_zero, List.getElem?_cons_succ, List.getElem?_nil, List.append_nil, gLe, gLt, Bool.not_true, Bool.not_false, Bool.false_eq_true, reduceIte, msSelf, msRaise1]
    simp only [runD] at f
    refine ⟨rfl, d_columns, 1, rfl, v_columns, rfl, namesD d_columns 1, _, rfl, fun e0 => ?_, fun e0 => ?_⟩
    rotate_left
    · rw [if_neg (by rw [e0]; decide)] at f
      exact f
    rw [if_pos e0] at f
    refine ⟨rfl, d_name, rfl, v_name.1, rfl, nameD d_name, _, rfl, fun e1 => ?_, fun e1 => ?_⟩
    rotate_left
    · rw [if_neg (by rw [e1]; decide)] at f
      exact f
    rw [if_pos e1] at f
    refine ⟨rfl, d_value, rfl, v_value.1, rfl, nameD d_value, _, rfl, fun e2 => ?_, fun e2 => ?_⟩
    rotate_left
    · rw [if_neg (by rw [e2]; decide)] at f
      exact f
    rw [if_pos e2] at f
    refine tup_of (names_seq e0) ⟨kC, n_columns, (show 0 < 800 from by decide), rfl, ?_⟩
    refine ⟨kC, n_name, (show 1 < 800 from by decide), rfl, ?_⟩
    refine ⟨kC, n_value, (show 2 < 800 from by decide), rfl, ?_⟩
    exact ⟨rfl, f⟩
def gPivot (K : Fg) : FI := fun ds F X => ∃ d_by d_name d_value d_heads : D, ds = [d_by, d_name, d_value, d_heads] ∧ V2 K d_by ∧ V2 K d_name ∧ V2 K d_value ∧ V2 K d_heads ∧ runD K (F [("by", .tup (elD d_by)), ("name", d_name), ("value", d_value), ("heads", .tup (elD d_heads))]) X [(namesD d_by 0, "by"), (nameD d_name, "name"), (nameD d_value, "value"), (namesD d_heads 1, "heads")]
theorem sc_Pivot_init : FnScope ["self", "by", "name", "value", "heads"] ["self", "by", "name", "value", "heads"] (defScope s_Pivot_init) := ⟨rfl, rfl, rfl, by decide +kernel, rfl, by decide +kernel, by decide +kernel⟩
theorem ok_Pivot_init (G : Glo K mg) (c : He.SaysD fa fn K) (H_are_names : Fn P w K mg base "are_names" 3 2 false (gNames K)) (H_is_name : Fn P w K mg base "is_name" 2 1 false (gName K)) (H_need : Fn P w K mg base "need" 3 2 false (gNeed K)) : Mkr P w K mg base "Pivot" (He.ga K "Pivot") 4 4 (gPivot K) := by
  obtain ⟨fd, F⟩ := c.defs (d := dfn ("Pivot", some "__init__") "__init__" "Pivot.__init__" s_Pivot_init) (by unfold fn; simp)
  replace F : FunD K "__init__" "Pivot.__init__" (defArgs s_Pivot_init) (defBody s_Pivot_init) (defScope s_Pivot_init) [] [] (He.ma K (He.ga K "Pivot") "__init__") fd := F
  have kC := He.cls_ok (c.fact 72 (f := .cls "Pivot") rfl)
  have n_by := He.noat_ok (c.fact 89 (f := .noat "Pivot" "by") rfl)
  have n_name := He.noat_ok (c.fact 90 (f := .noat "Pivot" "name") rfl)
  have n_value := He.noat_ok (c.fact 91 (f := .noat "Pivot" "value") rfl)
  have n_heads := He.noat_ok (c.fact 92 (f := .noat "Pivot" "heads") rfl)
  refine ⟨_, fd, ["self", "by", "name", "value", "heads"], He.mkr_ok (c.fact 61 (f := .mkr "Pivot") rfl), ?_, G.g "Pivot" (by decide), F.bindsN fun _ _ _ _ _ _ us hl => match us, hl with | [_, _, _, _, _], _ => rfl⟩
  have nd : (["self", "by", "name", "value", "heads"] : List Str).Nodup := sc_Pivot_init.nd
  apply fn_okIE (k := 3) (N := ["self", "by", "name", "value", "heads"]) F sc_Pivot_init rfl (by decide)
  intro c cdv A outer s H E hr
  have hu := hr.units
  have tk := takes_of (X := cxOf (L2.CX P w) P w K mg base ["self", "by", "name", "value", "heads"] "Pivot.__init__" (defScope s_Pivot_init) (He.ma K (He.ga K "Pivot") "__init__") cdv A outer s H E) rfl rfl rfl rfl
  apply Exists.intro
  apply Exists.intro
  apply And.intro
  · exact (dss_cons (ds_expr (de_f H_need (hr.mono (by decide)) rfl tk (da_cons (de_f H_are_names (hr.mono (by decide)) rfl tk (da_cons (de_var 1) (da_cons de_int da_nil))) (da_cons de_str da_nil))))
    (dss_cons (ds_expr (de_f H_need (hr.mono (by decide)) rfl tk (da_cons (de_f H_is_name (hr.mono (by decide)) rfl tk (da_cons (de_var 2) da_nil)) (da_cons de_str da_nil))))
    (dss_cons (ds_expr (de_f H_need (hr.mono (by decide)) rfl tk (da_cons (de_f H_is_name (hr.mono (by decide)) rfl tk (da_cons (de_var 3) da_nil)) (da_cons de_str da_nil))))
    (dss_cons (ds_expr (de_f H_need (hr.mono (by decide)) rfl tk (da_cons (de_f H_are_names (hr.mono (by decide)) rfl tk (da_cons (de_var 4) (da_cons de_int da_nil))) (da_cons de_str da_nil))))
    (dss_cons (ds_self (pv 0) (de_callTy call_tuple_of cd_tuple rfl (G.n "tuple" (by decide)) (by decide +kernel) (da_cons (de_var 1) da_nil)))
    (dss_cons (ds_self (pv 0) (de_var 2))
    (dss_cons (ds_self (pv 0) (de_var 3))
    (dss_one (ds_self (pv 0) (de_callTy call_tuple_of cd_tuple rfl (G.n "tuple" (by decide)) (by decide +kernel) (da_cons (de_var 4) da_nil)))))))))))
  · intro ds F1 X1 hn h
    obtain ⟨d_by, d_name, d_value, d_heads, rfl, v_by, v_name, v_value, v_heads, f⟩ := h
    refine ms_at (e := [.self (He.ga K "Pivot") [], .dat d_by, .dat d_name, .dat d_value, .dat d_heads]) rfl ?_
    simp only [msRet, msRetN, msSeq, msIf, msNext, msExpr, msSet, mtAnd, mtOr, mtNot, mTru, mB, mCB, mCall, maCons, maNil, mVar, mC, mOp, mChain, mIf, mAndV, mOrV, mNotV, mLst, mTup, mMS, gI0, gLen, gEq, gNe, gEqS, gNeS, gIn, gAll, gStrip, truD, start0, dn, mLc, miS, mgName, wipeD, mYes, lcD, List.map_cons, List.map_nil, List.replicate, List.cons_append, List.nil_append, List.getElem?_cons_zero, List.getElem?_cons_succ, List.getElem?_nil, List.append_nil, gLe, gLt, Bool.not_true, Bool.not_false, Bool.false_eq_true, reduceIte, msSelf, msRaise1]
    simp only [runD] at f
    refine ⟨rfl, d_by, 0, rfl, v_by, rfl, namesD d_by 0, _, rfl, fun e0 => ?_, fun e0 => ?_⟩
    rotate_left
    · rw [if_neg (by rw [e0]; decide)] at f
      exact f
    rw [if_pos e0] at f
    refine ⟨rfl, d_name, rfl, v_name.1, rfl, nameD d_name, _, rfl, fun e1 => ?_, fun e1 => ?_⟩
    rotate_left
    · rw [if_neg (by rw [e1]; decide)] at f
      exact f
    rw [if_pos e1] at f
    refine ⟨rfl, d_value, rfl, v_value.1, rfl, nameD d_value, _, rfl, fun e2 => ?_, fun e2 => ?_⟩
    rotate_left
    · rw [if_neg (by rw [e2]; decide)] at f
      exact f
    rw [if_pos e2] at f
    refine ⟨rfl, d_heads, 1, rfl, v_heads, rfl, namesD d_heads 1, _, rfl, fun e3 => ?_, fun e3 => ?_⟩
    rotate_left
    · rw [if_neg (by rw [e3]; decide)] at f
      exact f
    rw [if_pos e3] at f
    refine tup_of (names_seq e0) ⟨kC, n_by, (show 0 < 800 from by decide), rfl, ?_⟩
    refine ⟨kC, n_name, (show 1 < 800 from by decide), rfl, ?_⟩
    refine ⟨kC, n_value, (show 2 < 800 from by decide), rfl, ?_⟩
    refine tup_of (names_seq e3) ⟨kC, n_heads, (show 3 < 800 from by decide), rfl, ?_⟩
    exact ⟨rfl, f⟩
def gJoin (K : Fg) : FI := fun ds F X => ∃ d_columns d_steps : D, ds = [d_columns, d_steps] ∧ V2 K d_columns ∧ V2 K d_steps ∧ runD K (F [("columns", .tup (elD d_columns)), ("steps", .tup (elD d_steps))]) X [(namesD d_columns 0, "columns"), (stepsD K d_steps, "steps")]
theorem sc_Join_init : FnScope ["self", "columns", "steps"] ["self", "columns", "steps"] (defScope s_Join_init) := ⟨rfl, rfl, rfl, by decide +kernel, rfl, by decide +kernel, by decide +kernel⟩
theorem ok_Join_init (G : Glo K mg) (c : He.SaysD fa fn K) (H_are_names : Fn P w K mg base "are_names" 3 2 false (gNames K)) (H_are_steps : Fn P w K mg base "are_steps" 2 1 false (gSteps K)) (H_need : Fn P w K mg base "need" 3 2 false (gNeed K)) : Mkr P w K mg base "Join" (He.ga K "Join") 4 2 (gJoin K) := by
  obtain ⟨fd, F⟩ := c.defs (d := dfn ("Join", some "__init__") "__init__" "Join.__init__" s_Join_init) (by unfold fn; simp)
  replace F : FunD K "__init__" "Join.__init__" (defArgs s_Join_init) (defBody s_Join_init) (defScope s_Join_init) [] [] (He.ma K (He.ga K "Join") "__init__") fd := F
  have kC := He.cls_ok (c.fact 73 (f := .cls "Join") rfl)
  have n_columns := He.noat_ok (c.fact 93 (f := .noat "Join" "columns") rfl)
  have n_steps := He.noat_ok (c.fact 94 (f := .noat "Join" "steps") rfl)
  refine ⟨_, fd, ["self", "columns", "steps"], He.mkr_ok (c.fact 62 (f := .mkr "Join") rfl), ?_, G.g "Join" (by decide), F.bindsN fun _ _ _ _ _ _ us hl => match us, hl with | [_, _, _], _ => rfl⟩
  have nd : (["self", "columns", "steps"] : List Str).Nodup := sc_Join_init.nd
  apply fn_okIE (k := 3) (N := ["self", "columns", "steps"]) F sc_Join_init rfl (by decide)
  intro c cdv A outer s H E hr
  have hu := hr.units
  have tk := takes_of (X := cxOf (L2.CX P w) P w K mg base ["self", "columns", "steps"] "Join.__init__" (defScope s_Join_init) (He.ma K (He.ga K "Join") "__init__") cdv A outer s H E) rfl rfl rfl rfl
  apply Exists.intro
  apply Exists.intro
  apply And.intro
  · exact (dss_cons (ds_expr (de_f H_need (hr.mono (by decide)) rfl tk (da_cons (de_f H_are_names (hr.mono (by decide)) rfl tk (da_cons (de_var 1) (da_cons de_int da_nil))) (da_cons de_str da_nil))))
    (dss_cons (ds_expr (de_f H_need (hr.mono (by decide)) rfl tk (da_cons (de_f H_are_steps (hr.mono (by decide)) rfl tk (da_cons (de_var 2) da_nil)) (da_cons de_str da_nil))))
    (dss_cons (ds_self (pv 0) (de_callTy call_tuple_of cd_tuple rfl (G.n "tuple" (by decide)) (by decide +kernel) (da_cons (de_var 1) da_nil)))
    (dss_one (ds_self (pv 0) (de_callTy call_tuple_of cd_tuple rfl (G.n "tuple" (by decide)) (by decide +kernel) (da_cons (de_var 2) da_nil)))))))
  · intro ds F1 X1 hn h
    obtain ⟨d_columns, d_steps, rfl, v_columns, v_steps, f⟩ := h
    refine ms_at (e := [.self (He.ga K "Join") [], .dat d_columns, .dat d_steps]) rfl ?_
    simp only [msRet, msRetN, msSeq, msIf, msNext, msExpr, msSet, mtAnd, mtOr, mtNot, mTru, mB, mCB, mCall, maCons, maNil, mVar, mC, mOp, mChain, mIf, mAndV, mOrV, mNotV, mLst, mTup, mMS, gI0, gLen, gEq, gNe, gEqS, gNeS, gIn, gAll, gStrip, truD, start0, dn, mLc, miS, mgName, wipeD, mYes, lcD, List.map_cons, List.map_nil, List.replicate, List.cons_append, List.nil_append, List.getElem?_cons_zero, List.getElem?_cons_succ, List.getElem?_nil, List.append_nil, gLe, gLt, Bool.not_true, Bool.not_false, Bool.false_eq_true, reduceIte, msSelf, msRaise1]
    simp only [runD] at f
    refine ⟨rfl, d_columns, 0, rfl, v_columns, rfl, namesD d_columns 0, _, rfl, fun e0 => ?_, fun e0 => ?_⟩
    rotate_left
    · rw [if_neg (by rw [e0]; decide)] at f
      exact f
    rw [if_pos e0] at f
    refine ⟨rfl, d_steps, rfl, v_steps, rfl, stepsD K d_steps, _, rfl, fun e1 => ?_, fun e1 => ?_⟩
    rotate_left
    · rw [if_neg (by rw [e1]; decide)] at f
      exact f
    rw [if_pos e1] at f
    refine tup_of (names_seq e0) ⟨kC, n_columns, (show 0 < 800 from by decide), rfl, ?_⟩
    refine tup_of (steps_seq e1) ⟨kC, n_steps, (show 1 < 800 from by decide), rfl, ?_⟩
    exact ⟨rfl, f⟩
def gStack (K : Fg) : FI := fun ds F X => ∃ d_steps : D, ds = [d_steps] ∧ V2 K d_steps ∧ runD K (F [("steps", .tup (elD d_steps))]) X [(stepsD K d_steps, "steps")]
theorem sc_Stack_init : FnScope ["self", "steps"] ["self", "steps"] (defScope s_Stack_init) := ⟨rfl, rfl, rfl, by decide +kernel, rfl, by decide +kernel, by decide +kernel⟩
theorem ok_Stack_init (G : Glo K mg) (c : He.SaysD fa fn K) (H_are_steps : Fn P w K mg base "are_steps" 2 1 false (gSteps K)) (H_need : Fn P w K mg base "need" 3 2 false (gNeed K)) : Mkr P w K mg base "Stack" (He.ga K "Stack") 4 1 (gStack K) := by
  obtain ⟨fd, F⟩ := c.defs (d := dfn ("Stack", some "__init__") "__init__" "Stack.__init__" s_Stack_init) (by unfold fn; simp)
  replace F : FunD K "__init__" "Stack.__init__" (defArgs s_Stack_init) (defBody s_Stack_init) (defScope s_Stack_init) [] [] (He.ma K (He.ga K "Stack") "__init__") fd := F
  have kC := He.cls_ok (c.fact 74 (f := .cls "Stack") rfl)
  have n_steps := He.noat_ok (c.fact 95 (f := .noat "Stack" "steps") rfl)
  refine ⟨_, fd, ["self", "steps"], He.mkr_ok (c.fact 63 (f := .mkr "Stack") rfl), ?_, G.g "Stack" (by decide), F.bindsN fun _ _ _ _ _ _ us hl => match us, hl with | [_, _], _ => rfl⟩
  have nd : (["self", "steps"] : List Str).Nodup := sc_Stack_init.nd
  apply fn_okIE (k := 3) (N := ["self", "steps"]) F sc_Stack_init rfl (by decide)
  intro c cdv A outer s H E hr
  have hu := hr.units
  have tk := takes_of (X := cxOf (L2.CX P w) P w K mg base ["self", "steps"] "Stack.__init__" (defScope s_Stack_init) (He.ma K (He.ga K "Stack") "__init__") cdv A outer s H E) rfl rfl rfl rfl
  apply Exists.intro
  apply Exists.intro
  apply And.intro
  · exact (dss_cons (ds_expr (de_f H_need (hr.mono (by decide)) rfl tk (da_cons (de_f H_are_steps (hr.mono (by decide)) rfl tk (da_cons (de_var 1) da_nil)) (da_cons de_str da_nil))))
    (dss_one (ds_self (pv 0) (de_callTy call_tuple_of cd_tuple rfl (G.n "tuple" (by decide)) (by decide +kernel) (da_cons (de_var 1) da_nil)))))
  · intro ds F1 X1 hn h
    obtain ⟨d_steps, rfl, v_steps, f⟩ := h
    refine ms_at (e := [.self (He.ga K "Stack") [], .dat d_steps]) rfl ?_
    simp only [msRet, msRetN, msSeq, msIf, msNext, msExpr, msSet, mtAnd, mtOr, mtNot, mTru, mB, mCB, mCall, maCons, maNil, mVar, mC, mOp, mChain, mIf, mAndV, mOrV, mNotV, mLst, mTup, mMS, gI0, gLen, gEq, gNe, gEqS, gNeS, gIn, gAll, gStrip, truD, start0, dn, mLc, miS, mgName, wipeD, mYes, lcD, List.map_cons, List.map_nil, List.replicate, List.cons_append, List.nil_append, List.getElem?_cons_zero, List.getElem?_cons_succ, List.getElem?_nil, List.append_nil, gLe, gLt, Bool.not_true, Bool.not_false, Bool.false_eq_true, reduceIte, msSelf, msRaise1]
    simp only [runD] at f
    refine ⟨rfl, d_steps, rfl, v_steps, rfl, stepsD K d_steps, _, rfl, fun e0 => ?_, fun e0 => ?_⟩
    rotate_left
    · rw [if_neg (by rw [e0]; decide)] at f
      exact f
    rw [if_pos e0] at f
    refine tup_of (steps_seq e0) ⟨kC, n_steps, (show 0 < 800 from by decide), rfl, ?_⟩
    exact ⟨rfl, f⟩
end
end K12

set_option Elab.async false
set_option linter.all false
set_option maxRecDepth 100000
set_option maxHeartbeats 4000000
namespace K12
open PySem PySem.Spec PyProof.Rows L2 DL
section
variable {P : Program} {w : World} {K : Fg} {mg : Str → Option Value} {base : Heap}
theorem sc_law_draw : FnScope ["_law_deal_here", "_law_many", "_law_rest"] ["_law_deal_here", "_law_many"] (defScope s_law_draw) := ⟨rfl, rfl, rfl, by decide +kernel, rfl, by decide +kernel, by decide +kernel⟩
theorem ok_law_draw (G : Glo K mg) (c : He.SaysD fa fn K) : Fn P w K mg base "_law_draw" 1 1 true gDraw := by
  obtain ⟨fd, F⟩ := c.defs (d := dfn ("_law_draw", none) "_law_draw" "_law_draw" s_law_draw) (by unfold fn; simp)
  replace F : FunD K "_law_draw" "_law_draw" (defArgs s_law_draw) (defBody s_law_draw) (defScope s_law_draw) [] [] (He.ga K "_law_draw") fd := F
  refine ⟨_, fd, ["_law_deal_here", "_law_many"], F.ok (k := 0) sc_law_draw (fun vs H Q E h => spD_len h) (fun cdv A outer s H vs Q E hr h => ⟨tDraw K, ?_, draw_reads h⟩), G.g "_law_draw" (by decide), F.kp, F.bindsN fun _ _ _ _ _ _ us hl => match us, hl with | [_, _], _ => rfl⟩
  have nd := sc_law_draw.nd
  have hu := hr.units
  have d0 : ∀ {p q p1 : Pos} {j : Nat}, PE (cxOf (L2.CX P w) P w K mg base ["_law_deal_here", "_law_many", "_law_rest"] "_law_draw" (defScope s_law_draw) (He.ga K "_law_draw") cdv A outer s H E) (.Subscript (.Name "_law_deal_here" p) (.Constant (.int 0) j p1) q) (tD0 K) := fun {_ _ _ _} => pe_ix ix_list (pv 0) pe_int (fun _ _ => rfl)
  have d1 : ∀ {p q p1 : Pos} {j : Nat}, PE (cxOf (L2.CX P w) P w K mg base ["_law_deal_here", "_law_many", "_law_rest"] "_law_draw" (defScope s_law_draw) (He.ga K "_law_draw") cdv A outer s H E) (.Subscript (.Name "_law_deal_here" p) (.Constant (.int 1) j p1) q) (tD1 K) := fun {_ _ _ _} => pe_ix ix_list (pv 0) pe_int (fun _ _ => rfl)
  have hI := G.n "int" (by decide)
  exact pss_cons (ps_while (passes_of rfl) (PW.pt (pw_and (pt_cmpR (op_neD hu) d0 (pe_lst pa_nil) (nomark _)) (pw_and1 (pt_cmpR op_eq (pe_ix ix_list d0 (pe_un un_neg pe_int) (fun _ _ => rfl)) pe_int (nomark _))))) (pss_one (ps_expr (pe_bm0 PySem.F.plainAttrs_list slot_pop type_pop mt_pop d0))))
    (pss_cons (ps_if (pt_cmpR (op_neD hu) d0 (pe_lst pa_nil) (nomark _)) (pss_cons (ps_set nd rfl (.inl rfl) (pe_bm0 PySem.F.plainAttrs_list slot_pop type_pop mt_pop d0))
      (pss_cons (ps_expr (pe_bm PySem.F.plainAttrs_list slot_append type_append mt_append d0 (pa_cons (pe_op op_fdiv (pv 2) (pv 1)) pa_nil))) (pss_one (ps_ret (pe_op op_mod (pe_callTy call_int1 rfl hI (by decide +kernel) (pa_cons (pv 2) pa_nil)) (pv 1)))))) pss_nil)
    (pss_cons (ps_asg (pe_op op_mod (pe_callTy call_int1 rfl hI (by decide +kernel) (pa_cons (pe_op op_add (pe_op op_mul d1 pe_int) pe_int) pa_nil)) pe_int) (pg_sub (pv 0) pe_int set_list))
    (pss_one (ps_ret (pe_op op_mod (pe_callTy call_int1 rfl hI (by decide +kernel) (pa_cons (pe_op op_fdiv d1 pe_int) pa_nil)) (pv 1))))))
end
end K12

set_option Elab.async false
set_option linter.all false
set_option maxRecDepth 100000
set_option maxHeartbeats 4000000
namespace K12
open PySem PySem.Spec PyProof.Rows L2 DL
theorem atI_in {l : List D} {r : Int} (h0 : 0 ≤ r) (h1 : r < l.length) (hl : l.length < 1073741824) : ∃ d, L2.atI l r = some d ∧ d ∈ l := by
  obtain ⟨n, rfl⟩ := Int.eq_ofNat_of_zero_le h0
  have hn : n < l.length := by omega
  refine ⟨l[n], ?_, List.getElem_mem hn⟩
  unfold L2.atI
  rw [show L2.ixN l.length (n : Int) = some n from by
    unfold L2.ixN
    rw [if_pos h0, if_pos h1]
    simp]
  exact List.getElem?_eq_getElem hn
def gOneOf : FF := fun ds F _ => ∃ d l, ds = [d] ∧ seqD d = some l ∧ 0 < l.length ∧ l.length < 1073741824 ∧ ∀ e ∈ l, F e
section
variable {P : Program} {w : World} {K : Fg} {mg : Str → Option Value} {base : Heap}
theorem sc_law_pick : FnScope ["_law_deal_here", "_law_some"] ["_law_deal_here", "_law_some"] (defScope s_law_pick) := ⟨rfl, rfl, rfl, by decide +kernel, rfl, by decide +kernel, by decide +kernel⟩
theorem ok_law_pick (G : Glo K mg) (c : He.SaysD fa fn K) (H_law_draw : Fn P w K mg base "_law_draw" 1 1 true gDraw) : Fn P w K mg base "_law_pick" 2 1 true (gOneOf) := by
  obtain ⟨fd, F⟩ := c.defs (d := dfn ("_law_pick", none) "_law_pick" "_law_pick" s_law_pick) (by unfold fn; simp)
  replace F : FunD K "_law_pick" "_law_pick" (defArgs s_law_pick) (defBody s_law_pick) (defScope s_law_pick) [] [] (He.ga K "_law_pick") fd := F
  refine ⟨_, fd, ["_law_deal_here", "_law_some"], ?_, G.g "_law_pick" (by decide), F.kp, F.bindsN fun _ _ _ _ _ _ us hl => match us, hl with | [_, _], _ => rfl⟩
  have nd : (["_law_deal_here", "_law_some"] : List Str).Nodup := sc_law_pick.nd
  obtain ⟨_, h_LETTERS⟩ := G.hL
  obtain ⟨_, h_LAD⟩ := G.hA
  obtain ⟨_, h_LN⟩ := G.hN
  obtain ⟨_, h_LT⟩ := G.hT
  apply fn_okE (k := 1) (N := ["_law_deal_here", "_law_some"]) F sc_law_pick rfl (by decide)
  intro c cdv A outer s H E hr
  have hu := hr.units
  have tk := takes_of (X := cxOf (L2.CX P w) P w K mg base ["_law_deal_here", "_law_some"] "_law_pick" (defScope s_law_pick) (He.ga K "_law_pick") cdv A outer s H E) rfl rfl rfl rfl
  apply Exists.intro
  apply Exists.intro
  apply And.intro
  · exact (dss_one (ds_ret (de_ix (de_var 1) (de_fL 0 H_law_draw (hr.mono (by decide)) rfl tk (pv 0) (da_cons (de_callB call_len cd_len rfl (G.n "len" (by decide)) (by decide +kernel) (da_cons (de_var 1) da_nil)) da_nil)) (fun _ _ => rfl))))
  · intro ds F1 X1 hn h
    obtain ⟨d, l, rfl, hs, h0, h1, f⟩ := h
    refine ms_at (e := [.deal, .dat d]) rfl ?_
    cases d with
    | lst l2 =>
      cases hs
      simp only [msRet, msRetN, msSeq, msIf, msNext, msExpr, msSet, mtAnd, mtOr, mtNot, mTru, mB, mCB, mCall, maCons, maNil, mVar, mC, mOp, mChain, mIf, mAndV, mOrV, mNotV, mLst, mTup, mMS, gI0, gLen, gEq, gNe, gEqS, gNeS, gIn, gAll, gStrip, truD, start0, dn, mLc, miS, mgName, wipeD, mYes, lcD, List.map_cons, List.map_nil, List.replicate, List.cons_append, List.nil_append, List.getElem?_cons_zero, List.getElem?_cons_succ, List.getElem?_nil, List.append_nil, gLe, gLt, Bool.not_true, Bool.not_false, Bool.false_eq_true, reduceIte, mCallL, gIx]
      refine ⟨trivial, rfl, _, rfl, by omega, by omega, fun r r0 r1 => ?_⟩
      obtain ⟨e, e1, e2⟩ := atI_in r0 r1 h1
      exact ⟨e, e1, f e e2⟩
    | tup l2 =>
      cases hs
      simp only [msRet, msRetN, msSeq, msIf, msNext, msExpr, msSet, mtAnd, mtOr, mtNot, mTru, mB, mCB, mCall, maCons, maNil, mVar, mC, mOp, mChain, mIf, mAndV, mOrV, mNotV, mLst, mTup, mMS, gI0, gLen, gEq, gNe, gEqS, gNeS, gIn, gAll, gStrip, truD, start0, dn, mLc, miS, mgName, wipeD, mYes, lcD, List.map_cons, List.map_nil, List.replicate, List.cons_append, List.nil_append, List.getElem?_cons_zero, List.getElem?_cons_succ, List.getElem?_nil, List.append_nil, gLe, gLt, Bool.not_true, Bool.not_false, Bool.false_eq_true, reduceIte, mCallL, gIx]
      refine ⟨trivial, rfl, _, rfl, by omega, by omega, fun r r0 r1 => ?_⟩
      obtain ⟨e, e1, e2⟩ := atI_in r0 r1 h1
      exact ⟨e, e1, f e e2⟩
    | _ => cases hs
end
end K12

set_option Elab.async false
set_option linter.all false
set_option maxRecDepth 100000
set_option maxHeartbeats 4000000
namespace K12
open PySem PySem.Spec PyProof.Rows L2 DL
def outD (s : Str) (e : D) : Bool := match e with
  | .str t => !decide ((t.cps.toList.headD 0) ∈ s.cps.toList)
  | _ => false
def lwordD (d : D) (m : Int) (s : Str) : Bool := match d with
  | .str z => decide ((0 : Int) < (z.length : Int)) && (decide ((z.length : Int) ≤ m) && ((sigD z).filter (outD s)).isEmpty)
  | _ => false
def gLWord (K : Fg) : FF := fun ds F _ => ∃ d m s, ds = [d, .int m, .str s] ∧ V1 K d ∧ F (.bl (lwordD d m s))
section
variable {P : Program} {w : World} {K : Fg} {mg : Str → Option Value} {base : Heap}
theorem sc_law_is_word : FnScope ["_law_thing", "_law_most", "_law_signs", "_law_sign"] ["_law_thing", "_law_most", "_law_signs"] (defScope s_law_is_word) := ⟨rfl, rfl, rfl, by decide +kernel, rfl, by decide +kernel, by decide +kernel⟩
theorem ok_law_is_word (G : Glo K mg) (c : He.SaysD fa fn K) (kl : Kls K) : Fn P w K mg base "_law_is_word" 1 3 false (gLWord K) := by
  obtain ⟨fd, F⟩ := c.defs (d := dfn ("_law_is_word", none) "_law_is_word" "_law_is_word" s_law_is_word) (by unfold fn; simp)
  replace F : FunD K "_law_is_word" "_law_is_word" (defArgs s_law_is_word) (defBody s_law_is_word) (defScope s_law_is_word) [] [] (He.ga K "_law_is_word") fd := F
  refine ⟨_, fd, ["_law_thing", "_law_most", "_law_signs"], ?_, G.g "_law_is_word" (by decide), F.kp, F.bindsN fun _ _ _ _ _ _ us hl => match us, hl with | [_, _, _], _ => rfl⟩
  have nd : (["_law_thing", "_law_most", "_law_signs", "_law_sign"] : List Str).Nodup := sc_law_is_word.nd
  obtain ⟨_, h_LETTERS⟩ := G.hL
  obtain ⟨_, h_LAD⟩ := G.hA
  obtain ⟨_, h_LN⟩ := G.hN
  obtain ⟨_, h_LT⟩ := G.hT
  apply fn_okE (k := 0) (N := ["_law_thing", "_law_most", "_law_signs", "_law_sign"]) F sc_law_is_word rfl (by decide)
  intro c cdv A outer s H E hr
  have hu := hr.units
  have tk := takes_of (X := cxOf (L2.CX P w) P w K mg base ["_law_thing", "_law_most", "_law_signs", "_law_sign"] "_law_is_word" (defScope s_law_is_word) (He.ga K "_law_is_word") cdv A outer s H E) rfl rfl rfl rfl
  apply Exists.intro
  apply Exists.intro
  apply And.intro
  · exact (dss_cons (ds_if (DW.dt (dw_or (dt_not (dt_truth (de_callB call_isi cd_isi rfl (G.n "isinstance" (by decide)) (by decide +kernel) (da_cons (de_var 0) (da_cons (de_ty "str" rfl (G.n "str" (by decide)) (by decide +kernel)) da_nil))))) (dw_or1 (dt_not (dt_chain op_lt op_le rd_lt rd_le de_int (de_callB call_len cd_len rfl (G.n "len" (by decide)) (by decide +kernel) (da_cons (de_var 0) da_nil)) (de_var 1)))))) (dss_one (ds_ret de_bl)) dss_nil)
    (dss_one (ds_ret (de_cmp (op_eqL hu) rd_eqL (de_lcF (own := [("_law_sign", 3)]) rfl nd (dic_of (di_str (de_var 0))) (blkOk_by (show blkC ["_law_thing", "_law_most", "_law_signs", "_law_sign"] (defScope s_law_is_word) _ _ = true from by decide +kernel)) (by decide) (fun s H C cl fp => (dg_name 3 nd rfl (.inl rfl))) (fun s H C cl fp => (dts_one (dt_cmp op_notInA rd_in (de_var 3) (de_var 2) (by rfl)))) (fun s H C cl fp => (de_var 3))) (de_lst da_nil) (nomark _)))))
  · intro ds F1 X1 hn h
    obtain ⟨d, m, sg, rfl, hv, f⟩ := h
    obtain ⟨t, h1, h2⟩ := kn_str kl hv.1
    refine ms_at (e := [.dat d, .dat (.int m), .dat (.str sg), .un]) rfl ?_
    simp only [msRet, msRetN, msSeq, msIf, msNext, msExpr, msSet, mtAnd, mtOr, mtNot, mTru, mB, mCB, mCall, maCons, maNil, mVar, mC, mOp, mChain, mIf, mAndV, mOrV, mNotV, mLst, mTup, mMS, gI0, gLen, gEq, gNe, gEqS, gNeS, gIn, gAll, gStrip, truD, start0, dn, mLc, miS, mgName, wipeD, mYes, lcD, List.map_cons, List.map_nil, List.replicate, List.cons_append, List.nil_append, List.getElem?_cons_zero, List.getElem?_cons_succ, List.getElem?_nil, List.append_nil, gLe, gLt, Bool.not_true, Bool.not_false, Bool.false_eq_true, reduceIte, mCallL, gIx, miZ, gEqL, gNeL]
    refine ⟨t, .type "str", isStrD d, .ty _, h1, kit1_of h2, ?_⟩
    cases d with
    | str z =>
      have hz : z.length ≤ 100 := hv.2.1
      have ho : PyData.strOk z = true := hv.2.2
      have hz2 : z.length ≤ sizeLine := Nat.le_trans hz (by decide)
      have f : F1 (.bl (decide ((0 : Int) < (z.length : Int)) && (decide ((z.length : Int) ≤ m) && ((sigD z).filter (outD sg)).isEmpty))) := f
      simp only [isStrD, Bool.not_true, Bool.false_eq_true, reduceIte]
      refine ⟨hz2, ?_⟩
      cases e1 : decide ((0 : Int) < (z.length : Int)) <;> rw [e1] at f
      · exact f
      · cases e2 : decide ((z.length : Int) ≤ m) <;> rw [e2] at f
        · simp only [e2]
          exact f
        · simp only [e2]
          have hl : (sigD z).length < sizeLine := by
            unfold sigD
            rw [List.length_map, Array.length_toList]
            exact Nat.lt_of_le_of_lt hz (by decide)
          refine ⟨hl, lcD_if (p := outD sg) (f := fun d => d) (sigD z) (fun e me F' q => ?_) (fun e me _ F' q => q) ?_⟩
          · obtain ⟨cc, _, rfl⟩ := List.mem_map.mp me
            exact ⟨cc, rfl, q⟩
          · rw [List.map_id']
            exact ⟨by decide, f⟩
    | _ => exact f
end
end K12

set_option Elab.async false
set_option linter.all false
set_option maxRecDepth 100000
set_option maxHeartbeats 4000000
namespace K12
open PySem PySem.Spec PyProof.Rows L2 DL
def LET : Str := "abcdefghijklmnopqrstuvwxyz"
def lnameD (d : D) : Bool := lwordD d 4 LET && !inD d partD
def ltextD (d : D) : Bool := lwordD d 6 (LET ++ "0123456789")
theorem lword_str {d : D} {s : Str} {m : Int} (h : lwordD d m s = true) : ∃ z, d = .str z := by
  cases d with
  | str z => exact ⟨z, rfl⟩
  | _ => cases h
def gNone : FF := fun _ _ _ => False
def gFits1 (K : Fg) : FF := fun ds F _ => ∃ d, V1 K d ∧ ((ds = [.str "name", d] ∧ F (.bl (lnameD d))) ∨ (ds = [.str "text", d] ∧ F (.bl (ltextD d))))
section
variable {P : Program} {w : World} {K : Fg} {mg : Str → Option Value} {base : Heap}
theorem sc_law_fits : FnScope ["_law_sort", "_law_thing", "_law_letters", "_law_k", "_law_one"] ["_law_sort", "_law_thing"] (defScope s_law_fits) := ⟨rfl, rfl, rfl, by decide +kernel, rfl, by decide +kernel, by decide +kernel⟩
theorem ok_law_fits (G : Glo K mg) (c : He.SaysD fa fn K) (H_law_is_word : Fn P w K mg base "_law_is_word" 1 3 false (gLWord K)) (H_law_fits : Fn P w K mg base "_law_fits" 1 2 false gNone) (kl : Kls K) : Fn P w K mg base "_law_fits" 2 2 false (gFits1 K) := by
  obtain ⟨fd, F⟩ := c.defs (d := dfn ("_law_fits", none) "_law_fits" "_law_fits" s_law_fits) (by unfold fn; simp)
  replace F : FunD K "_law_fits" "_law_fits" (defArgs s_law_fits) (defBody s_law_fits) (defScope s_law_fits) [] [] (He.ga K "_law_fits") fd := F
  refine ⟨_, fd, ["_law_sort", "_law_thing"], ?_, G.g "_law_fits" (by decide), F.kp, F.bindsN fun _ _ _ _ _ _ us hl => match us, hl with | [_, _], _ => rfl⟩
  have nd : (["_law_sort", "_law_thing", "_law_letters", "_law_k", "_law_one"] : List Str).Nodup := sc_law_fits.nd
  obtain ⟨_, h_LETTERS⟩ := G.hL
  obtain ⟨_, h_LAD⟩ := G.hA
  obtain ⟨_, h_LN⟩ := G.hN
  obtain ⟨_, h_LT⟩ := G.hT
  apply fn_okE (k := 1) (N := ["_law_sort", "_law_thing", "_law_letters", "_law_k", "_law_one"]) F sc_law_fits rfl (by decide)
  intro c cdv A outer s H E hr
  have hu := hr.units
  have tk := takes_of (X := cxOf (L2.CX P w) P w K mg base ["_law_sort", "_law_thing", "_law_letters", "_law_k", "_law_one"] "_law_fits" (defScope s_law_fits) (He.ga K "_law_fits") cdv A outer s H E) rfl rfl rfl rfl
  apply Exists.intro
  apply Exists.intro
  apply And.intro
  · exact (dss_cons (ds_set 2 nd rfl (.inl rfl) de_str)
    (dss_cons (ds_if (dt_cmp op_eq rd_eqS (de_var 0) de_str (nomark _)) (dss_one (ds_ret (de_and (de_f H_law_is_word (hr.mono (by decide)) rfl tk (da_cons (de_var 1) (da_cons de_int (da_cons (de_var 2) da_nil)))) (de_one (de_cmp op_notInA rd_in (de_var 1) (de_tup (da_cons de_str (da_cons de_str (da_cons de_str (da_cons de_str da_nil))))) (by rfl)))))) dss_nil)
    (dss_cons (ds_if (dt_cmp op_eq rd_eqS (de_var 0) de_str (nomark _)) (dss_one (ds_ret (de_f H_law_is_word (hr.mono (by decide)) rfl tk (da_cons (de_var 1) (da_cons de_int (da_cons (de_op op_addA rd_add (de_var 2) de_str) da_nil)))))) dss_nil)
    (dss_cons (ds_if (dt_not (dt_truth (de_isiT rfl (G.n "isinstance" (by decide)) (de_var 1) (da_cons (de_ty "list" rfl (G.n "list" (by decide)) (by decide +kernel)) (da_cons (de_ty "tuple" rfl (G.n "tuple" (by decide)) (by decide +kernel)) da_nil))))) (dss_one (ds_ret de_bl)) dss_nil)
    (dss_cons (ds_if (dt_cmp op_eq rd_eqS (de_var 0) de_str (nomark _)) (dss_one (ds_ret (de_cmp (op_eqL hu) rd_eqL (de_lcF (own := [("_law_one", 4)]) rfl nd (dic_of (di_seq (de_var 1))) (blkOk_by (show blkC ["_law_sort", "_law_thing", "_law_letters", "_law_k", "_law_one"] (defScope s_law_fits) _ _ = true from by decide +kernel)) (by decide) (fun s H C cl fp => (dg_name 4 nd rfl (.inl rfl))) (fun s H C cl fp => (dts_one (dt_not (dt_truth (de_isiT rfl (G.n "isinstance" (by decide)) (de_var 4) (da_cons (de_glob (v := .ref (He.ga K "Has")) rfl (G.g "Has" (by decide)) rfl (fun _ => .fx _)) (da_cons (de_glob (v := .ref (He.ga K "Pick")) rfl (G.g "Pick" (by decide)) rfl (fun _ => .fx _)) da_nil))))))) (fun s H C cl fp => (de_var 4))) (de_lst da_nil) (nomark _)))) dss_nil)
    (dss_cons (ds_if (DW.dt (dw_or (dt_cmp (op_neL hu) rd_neL (de_lcF (own := [("_law_one", 4)]) rfl nd (dic_of (di_seq (de_var 1))) (blkOk_by (show blkC ["_law_sort", "_law_thing", "_law_letters", "_law_k", "_law_one"] (defScope s_law_fits) _ _ = true from by decide +kernel)) (by decide) (fun s H C cl fp => (dg_name 4 nd rfl (.inl rfl))) (fun s H C cl fp => (dts_one (dt_not (dt_truth (de_f H_law_fits (hr.mono (by decide)) rfl DL.takes0 (da_cons de_str (da_cons (de_var 4) da_nil))))))) (fun s H C cl fp => (de_var 4))) (de_lst da_nil) (nomark _)) (dw_or1 (DW.dt (dw_and (dt_cmp op_eq rd_eqS (de_var 0) de_str (nomark _)) (dw_and1 (dt_cmp op_eq rd_eqS (de_callB call_len cd_len rfl (G.n "len" (by decide)) (by decide +kernel) (da_cons (de_var 1) da_nil)) de_int (nomark _)))))))) (dss_one (ds_ret de_bl)) dss_nil)
    (dss_one (ds_ret (de_cmp (op_eqL hu) rd_eqL (de_lcF (own := [("_law_k", 3)]) rfl nd (dic_of (di_range1 rfl (G.n "range" (by decide)) (da_cons (de_callB call_len cd_len rfl (G.n "len" (by decide)) (by decide +kernel) (da_cons (de_var 1) da_nil)) da_nil))) (blkOk_by (show blkC ["_law_sort", "_law_thing", "_law_letters", "_law_k", "_law_one"] (defScope s_law_fits) _ _ = true from by decide +kernel)) (by decide) (fun s H C cl fp => (dg_name 3 nd rfl (.inl rfl))) (fun s H C cl fp => (dts_one (dt_cmp op_inA rd_in (de_ix (de_var 1) (de_var 3) (fun _ _ => rfl)) (de_sl (de_var 1) do_none (do_some (de_var 3))) (by rfl)))) (fun s H C cl fp => (de_var 3))) (de_lst da_nil) (nomark _))))))))))
  · intro ds F1 X1 hn h
    obtain ⟨d, hv, hf⟩ := h
    rcases hf with ⟨rfl, f⟩ | ⟨rfl, f⟩
    · refine ms_at (e := [.dat (.str "name"), .dat d, .un, .un, .un]) rfl ?_
      simp only [msRet, msRetN, msSeq, msIf, msNext, msExpr, msSet, mtAnd, mtOr, mtNot, mTru, mB, mCB, mCall, maCons, maNil, mVar, mC, mOp, mChain, mIf, mAndV, mOrV, mNotV, mLst, mTup, mMS, gI0, gLen, gEq, gNe, gEqS, gNeS, gIn, gAll, gStrip, truD, start0, dn, mLc, miS, mgName, wipeD, mYes, lcD, List.map_cons, List.map_nil, List.replicate, List.cons_append, List.nil_append, List.getElem?_cons_zero, List.getElem?_cons_succ, List.getElem?_nil, List.append_nil, gLe, gLt, Bool.not_true, Bool.not_false, Bool.false_eq_true, reduceIte, mCallL, gIx, miZ, gEqL, gNeL, mIsiT, mSl, moNone, moSome, gSl, miR1, gAdd, List.set_cons_zero, List.set_cons_succ, decide_true, eq_self]
      refine ⟨rfl, d, 4, _, rfl, hv, ?_⟩
      have f : F1 (.bl (lwordD d 4 LET && !inD d partD)) := f
      cases e : lwordD d 4 LET
      · rw [e] at f
        rw [show lwordD d 4 "abcdefghijklmnopqrstuvwxyz" = false from e]
        exact f
      · rw [e] at f
        rw [show lwordD d 4 "abcdefghijklmnopqrstuvwxyz" = true from e]
        obtain ⟨z, rfl⟩ := lword_str e
        exact ⟨by decide, rfl, by decide, f⟩
    · refine ms_at (e := [.dat (.str "text"), .dat d, .un, .un, .un]) rfl ?_
      simp only [msRet, msRetN, msSeq, msIf, msNext, msExpr, msSet, mtAnd, mtOr, mtNot, mTru, mB, mCB, mCall, maCons, maNil, mVar, mC, mOp, mChain, mIf, mAndV, mOrV, mNotV, mLst, mTup, mMS, gI0, gLen, gEq, gNe, gEqS, gNeS, gIn, gAll, gStrip, truD, start0, dn, mLc, miS, mgName, wipeD, mYes, lcD, List.map_cons, List.map_nil, List.replicate, List.cons_append, List.nil_append, List.getElem?_cons_zero, List.getElem?_cons_succ, List.getElem?_nil, List.append_nil, gLe, gLt, Bool.not_true, Bool.not_false, Bool.false_eq_true, reduceIte, mCallL, gIx, miZ, gEqL, gNeL, mIsiT, mSl, moNone, moSome, gSl, miR1, gAdd, List.set_cons_zero, List.set_cons_succ, decide_true, eq_self]
      rw [if_neg (by decide)]
      refine ⟨by decide, rfl, d, 6, _, rfl, hv, f⟩
end
end K12

set_option Elab.async false
set_option linter.all false
set_option maxRecDepth 100000
set_option maxHeartbeats 4000000
namespace K12
open PySem PySem.Spec PyProof.Rows L2 DL
structure Khp (K : Fg) : Prop where
  bst : ∀ T ∈ tys, PySem.W.kitAny K (.type T) [.ref (cHas K), .ref (cPick K)] = some false
  hst : ∀ C, C = cPick K ∨ C = cHas K → PySem.W.kitAny K (.ref C) [.ref (cHas K), .ref (cPick K)] = some true
  tst : PySem.W.kitAny K (.ref (cTable K)) [.ref (cHas K), .ref (cPick K)] = some false
theorem kn_hp {K : Fg} (k : Kls K) (s : Khp K) : ∀ {d : D}, Kn K d → ∃ t, TyD K d t ∧ PySem.W.kitAny K t [.ref (cHas K), .ref (cPick K)] = some (isStepD K d)
  | .non, _ => ⟨_, rfl, s.bst _ (by decide)⟩
  | .bl _, _ => ⟨_, rfl, s.bst _ (by decide)⟩
  | .int _, _ => ⟨_, rfl, s.bst _ (by decide)⟩
  | .str _, _ => ⟨_, rfl, s.bst _ (by decide)⟩
  | .lst _, _ => ⟨_, rfl, s.bst _ (by decide)⟩
  | .tup _, _ => ⟨_, rfl, s.bst _ (by decide)⟩
  | .obj C _, h => ⟨_, ⟨rfl, k.isC C h⟩, by
    by_cases e : C = cTable K
    · subst e
      show _ = some (cTable K != cTable K)
      rw [s.tst, bne_self_eq_false]
    · show _ = some (C != cTable K)
      rw [s.hst C (h.elim .inl fun z => z.elim .inr fun y => (e y).elim), bne_iff_ne.mpr e]⟩
  | .fx _, h => h.elim
  | .scr _, h => h.elim
def dupD (l : List D) (k : D) : Bool := match k with
  | .int i => (match L2.atI l i with
    | some x => inD x (cutD l none (some i))
    | none => false)
  | _ => false
def fitsL (K : Fg) (s : Str) (l : List D) : Bool := if s = "steps" then (l.filter fun e => !isStepD K e).isEmpty else
  (!(!(l.filter fun e => !lnameD e).isEmpty || (decide (s = "some") && decide ((l.length : Int) = 0))) && ((rngD 0 l.length).filter (dupD l)).isEmpty)
def fitsD (K : Fg) (s : Str) (d : D) : Bool := if s = "name" then lnameD d else if s = "text" then ltextD d else (isSeqD d && fitsL K s (elD d))
theorem cut_in {l : List D} {i : Int} {e : D} (h : e ∈ cutD l none (some i)) : e ∈ l := by
  unfold DL.cutD at h
  exact List.mem_of_mem_drop (List.mem_of_mem_take h)
theorem name_flat {e : D} (h : lnameD e = true) : flatD e = true := by
  obtain ⟨z, rfl⟩ := lword_str (Bool.and_eq_true_iff.mp h).1
  rfl
theorem rng_in {l : List D} {k : D} (h : k ∈ rngD 0 l.length) : ∃ i x, k = .int i ∧ L2.atI l i = some x ∧ x ∈ l ∧ 0 ≤ i ∧ i < l.length := by
  obtain ⟨n, hn, rfl⟩ := List.mem_map.mp h
  have hn := List.mem_range.mp hn
  refine ⟨0 + (n : Int), l[n], rfl, ?_, List.getElem_mem hn, by omega, by omega⟩
  unfold L2.atI
  rw [show L2.ixN l.length (0 + (n : Int)) = some n from by
    unfold L2.ixN
    rw [if_pos (by omega), if_pos (by omega)]
    simp]
  exact List.getElem?_eq_getElem hn
theorem dup_lc {l : List D} {d : D} {a b c e : Sl} {F : List D → Prop} (hd : seqD d = some l) (hn : l.all lnameD = true) (hz : l.length ≤ 100) (f : F ((rngD 0 l.length).filter (dupD l))) :
    lcD (mgName 3) (mB (mOp (gIn false) (mOp gIx (mVar 1) (mVar 3)) (mSl (mVar 1) moNone (moSome (mVar 3))))) (mVar 3) [a, .dat d, b, c, e] F (rngD 0 l.length) [] := by
  refine lcD_if (p := dupD l) (f := fun e => e) _ (fun k me F' q => ?_) (fun k me _ F' q => q) (by rw [List.map_id']; exact f)
  obtain ⟨i, x, rfl, h1, h2, i0, i1⟩ := rng_in me
  have q : F' (inD x (cutD l none (some i))) := by
    simp only [dupD, h1] at q
    exact q
  have al := List.all_eq_true.mp hn
  have fl : (cutD l none (some i)).all flatD = true := List.all_eq_true.mpr fun e he => name_flat (al e (cut_in he))
  cases d with
  | lst l2 =>
    cases hd
    exact ⟨x, h1, name_flat (al x h2), fl, q⟩
  | tup l2 =>
    cases hd
    refine ⟨x, h1, .inl ⟨fun z => ?_, name_flat (al x h2), fl, q⟩⟩
    obtain ⟨n, rfl⟩ := Int.eq_ofNat_of_zero_le i0
    have z2 := z.2
    rw [show HT.sIx _ _ (some ((n : Nat) : Int)) = min n _ from HT.sIx_nat _ _ n] at z2
    omega
  | _ => cases hd
def gFits (K : Fg) : FF := fun ds F _ => ∃ s d, ds = [.str s, d] ∧ s ∈ (["name", "text", "steps", "some", "any"] : List Str) ∧ V2 K d ∧ F (.bl (fitsD K s d))
section
variable {P : Program} {w : World} {K : Fg} {mg : Str → Option Value} {base : Heap}
theorem ok_law_fits0 (G : Glo K mg) (c : He.SaysD fa fn K) : Fn P w K mg base "_law_fits" 1 2 false gNone := by
  obtain ⟨fd, F⟩ := c.defs (d := dfn ("_law_fits", none) "_law_fits" "_law_fits" s_law_fits) (by unfold fn; simp)
  replace F : FunD K "_law_fits" "_law_fits" (defArgs s_law_fits) (defBody s_law_fits) (defScope s_law_fits) [] [] (He.ga K "_law_fits") fd := F
  refine ⟨_, fd, ["_law_sort", "_law_thing"], F.ok (k := 0) sc_law_fits (fun vs H Q E h => spD_len h) (fun cdv A outer s H vs Q E hr h => ?_), G.g "_law_fits" (by decide), F.kp, F.bindsN fun _ _ _ _ _ _ us hl => match us, hl with | [_, _], _ => rfl⟩
  obtain ⟨_, _, _, _, _, _, _, _, _, _, _, hf, _⟩ := h
  exact hf.elim
theorem ok_law_fits2 (G : Glo K mg) (c : He.SaysD fa fn K) (H_law_is_word : Fn P w K mg base "_law_is_word" 1 3 false (gLWord K)) (H_law_fits : Fn P w K mg base "_law_fits" 2 2 false (gFits1 K)) (kl : Kls K) (kh : Khp K) : Fn P w K mg base "_law_fits" 3 2 false (gFits K) := by
  obtain ⟨fd, F⟩ := c.defs (d := dfn ("_law_fits", none) "_law_fits" "_law_fits" s_law_fits) (by unfold fn; simp)
  replace F : FunD K "_law_fits" "_law_fits" (defArgs s_law_fits) (defBody s_law_fits) (defScope s_law_fits) [] [] (He.ga K "_law_fits") fd := F
  refine ⟨_, fd, ["_law_sort", "_law_thing"], ?_, G.g "_law_fits" (by decide), F.kp, F.bindsN fun _ _ _ _ _ _ us hl => match us, hl with | [_, _], _ => rfl⟩
  have nd : (["_law_sort", "_law_thing", "_law_letters", "_law_k", "_law_one"] : List Str).Nodup := sc_law_fits.nd
  obtain ⟨_, h_LETTERS⟩ := G.hL
  obtain ⟨_, h_LAD⟩ := G.hA
  obtain ⟨_, h_LN⟩ := G.hN
  obtain ⟨_, h_LT⟩ := G.hT
  apply fn_okE (k := 2) (N := ["_law_sort", "_law_thing", "_law_letters", "_law_k", "_law_one"]) F sc_law_fits rfl (by decide)
  intro c cdv A outer s H E hr
  have hu := hr.units
  have tk := takes_of (X := cxOf (L2.CX P w) P w K mg base ["_law_sort", "_law_thing", "_law_letters", "_law_k", "_law_one"] "_law_fits" (defScope s_law_fits) (He.ga K "_law_fits") cdv A outer s H E) rfl rfl rfl rfl
  apply Exists.intro
  apply Exists.intro
  apply And.intro
  · exact (dss_cons (ds_set 2 nd rfl (.inl rfl) de_str)
    (dss_cons (ds_if (dt_cmp op_eq rd_eqS (de_var 0) de_str (nomark _)) (dss_one (ds_ret (de_and (de_f H_law_is_word (hr.mono (by decide)) rfl tk (da_cons (de_var 1) (da_cons de_int (da_cons (de_var 2) da_nil)))) (de_one (de_cmp op_notInA rd_in (de_var 1) (de_tup (da_cons de_str (da_cons de_str (da_cons de_str (da_cons de_str da_nil))))) (by rfl)))))) dss_nil)
    (dss_cons (ds_if (dt_cmp op_eq rd_eqS (de_var 0) de_str (nomark _)) (dss_one (ds_ret (de_f H_law_is_word (hr.mono (by decide)) rfl tk (da_cons (de_var 1) (da_cons de_int (da_cons (de_op op_addA rd_add (de_var 2) de_str) da_nil)))))) dss_nil)
    (dss_cons (ds_if (dt_not (dt_truth (de_isiT rfl (G.n "isinstance" (by decide)) (de_var 1) (da_cons (de_ty "list" rfl (G.n "list" (by decide)) (by decide +kernel)) (da_cons (de_ty "tuple" rfl (G.n "tuple" (by decide)) (by decide +kernel)) da_nil))))) (dss_one (ds_ret de_bl)) dss_nil)
    (dss_cons (ds_if (dt_cmp op_eq rd_eqS (de_var 0) de_str (nomark _)) (dss_one (ds_ret (de_cmp (op_eqL hu) rd_eqL (de_lcF (own := [("_law_one", 4)]) rfl nd (dic_of (di_seq (de_var 1))) (blkOk_by (show blkC ["_law_sort", "_law_thing", "_law_letters", "_law_k", "_law_one"] (defScope s_law_fits) _ _ = true from by decide +kernel)) (by decide) (fun s H C cl fp => (dg_name 4 nd rfl (.inl rfl))) (fun s H C cl fp => (dts_one (dt_not (dt_truth (de_isiT rfl (G.n "isinstance" (by decide)) (de_var 4) (da_cons (de_glob (v := .ref (He.ga K "Has")) rfl (G.g "Has" (by decide)) rfl (fun _ => .fx _)) (da_cons (de_glob (v := .ref (He.ga K "Pick")) rfl (G.g "Pick" (by decide)) rfl (fun _ => .fx _)) da_nil))))))) (fun s H C cl fp => (de_var 4))) (de_lst da_nil) (nomark _)))) dss_nil)
    (dss_cons (ds_if (DW.dt (dw_or (dt_cmp (op_neL hu) rd_neL (de_lcF (own := [("_law_one", 4)]) rfl nd (dic_of (di_seq (de_var 1))) (blkOk_by (show blkC ["_law_sort", "_law_thing", "_law_letters", "_law_k", "_law_one"] (defScope s_law_fits) _ _ = true from by decide +kernel)) (by decide) (fun s H C cl fp => (dg_name 4 nd rfl (.inl rfl))) (fun s H C cl fp => (dts_one (dt_not (dt_truth (de_f H_law_fits (hr.mono (by decide)) rfl DL.takes0 (da_cons de_str (da_cons (de_var 4) da_nil))))))) (fun s H C cl fp => (de_var 4))) (de_lst da_nil) (nomark _)) (dw_or1 (DW.dt (dw_and (dt_cmp op_eq rd_eqS (de_var 0) de_str (nomark _)) (dw_and1 (dt_cmp op_eq rd_eqS (de_callB call_len cd_len rfl (G.n "len" (by decide)) (by decide +kernel) (da_cons (de_var 1) da_nil)) de_int (nomark _)))))))) (dss_one (ds_ret de_bl)) dss_nil)
    (dss_one (ds_ret (de_cmp (op_eqL hu) rd_eqL (de_lcF (own := [("_law_k", 3)]) rfl nd (dic_of (di_range1 rfl (G.n "range" (by decide)) (da_cons (de_callB call_len cd_len rfl (G.n "len" (by decide)) (by decide +kernel) (da_cons (de_var 1) da_nil)) da_nil))) (blkOk_by (show blkC ["_law_sort", "_law_thing", "_law_letters", "_law_k", "_law_one"] (defScope s_law_fits) _ _ = true from by decide +kernel)) (by decide) (fun s H C cl fp => (dg_name 3 nd rfl (.inl rfl))) (fun s H C cl fp => (dts_one (dt_cmp op_inA rd_in (de_ix (de_var 1) (de_var 3) (fun _ _ => rfl)) (de_sl (de_var 1) do_none (do_some (de_var 3))) (by rfl)))) (fun s H C cl fp => (de_var 3))) (de_lst da_nil) (nomark _))))))))))
  · intro ds F1 X1 hn h
    obtain ⟨sn, d, rfl, hs, hv, f⟩ := h
    obtain ⟨t, t1, t2⟩ := kn_seq kl hv.1.1
    have isq : ∀ {R : Bool → Prop}, R (isSeqD d) → ∃ cs us t b, [D.fx (.ty "list"), D.fx (.ty "tuple")] = cs.map D.fx ∧ [D.fx (.ty "list"), D.fx (.ty "tuple")].length ≤ sizeLine ∧ Paired ClsV cs us ∧ TyD K d t ∧ PySem.W.kitAny K t us = some b ∧ R b := fun {R} r =>
      ⟨[.ty "list", .ty "tuple"], [.type "list", .type "tuple"], t, isSeqD d, rfl, by decide, .cons (.ty _) (.cons (.ty _) .nil), t1, t2, r⟩
    have sq : (isSeqD d = true ∧ seqD d = some (elD d) ∧ (elD d).length ≤ 100) ∨ isSeqD d = false := by
      cases d with
      | lst l => exact .inl ⟨rfl, rfl, hv.1.2⟩
      | tup l => exact .inl ⟨rfl, rfl, hv.1.2⟩
      | _ => exact .inr rfl
    simp only [List.mem_cons, List.not_mem_nil, or_false] at hs
    rcases hs with rfl | rfl | rfl | rfl | rfl
    · refine ms_at (e := [.dat (.str "name"), .dat d, .un, .un, .un]) rfl ?_
      simp only [msRet, msRetN, msSeq, msIf, msNext, msExpr, msSet, mtAnd, mtOr, mtNot, mTru, mB, mCB, mCall, maCons, maNil, mVar, mC, mOp, mChain, mIf, mAndV, mOrV, mNotV, mLst, mTup, mMS, gI0, gLen, gEq, gNe, gEqS, gNeS, gIn, gAll, gStrip, truD, start0, dn, mLc, miS, mgName, wipeD, mYes, lcD, List.map_cons, List.map_nil, List.replicate, List.cons_append, List.nil_append, List.getElem?_cons_zero, List.getElem?_cons_succ, List.getElem?_nil, List.append_nil, gLe, gLt, Bool.not_true, Bool.not_false, Bool.false_eq_true, reduceIte, mCallL, gIx, miZ, gEqL, gNeL, mIsiT, mSl, moNone, moSome, gSl, miR1, gAdd, List.set_cons_zero, List.set_cons_succ, decide_true, eq_self]
      refine ⟨rfl, d, 4, _, rfl, hv.1, ?_⟩
      have f : F1 (.bl (lwordD d 4 LET && !inD d partD)) := f
      cases e : lwordD d 4 LET
      · rw [e] at f
        rw [show lwordD d 4 "abcdefghijklmnopqrstuvwxyz" = false from e]
        exact f
      · rw [e] at f
        rw [show lwordD d 4 "abcdefghijklmnopqrstuvwxyz" = true from e]
        obtain ⟨z, rfl⟩ := lword_str e
        exact ⟨by decide, rfl, by decide, f⟩
    · refine ms_at (e := [.dat (.str "text"), .dat d, .un, .un, .un]) rfl ?_
      simp only [msRet, msRetN, msSeq, msIf, msNext, msExpr, msSet, mtAnd, mtOr, mtNot, mTru, mB, mCB, mCall, maCons, maNil, mVar, mC, mOp, mChain, mIf, mAndV, mOrV, mNotV, mLst, mTup, mMS, gI0, gLen, gEq, gNe, gEqS, gNeS, gIn, gAll, gStrip, truD, start0, dn, mLc, miS, mgName, wipeD, mYes, lcD, List.map_cons, List.map_nil, List.replicate, List.cons_append, List.nil_append, List.getElem?_cons_zero, List.getElem?_cons_succ, List.getElem?_nil, List.append_nil, gLe, gLt, Bool.not_true, Bool.not_false, Bool.false_eq_true, reduceIte, mCallL, gIx, miZ, gEqL, gNeL, mIsiT, mSl, moNone, moSome, gSl, miR1, gAdd, List.set_cons_zero, List.set_cons_succ, decide_true, eq_self]
      rw [if_neg (by decide)]
      exact ⟨by decide, rfl, d, 6, _, rfl, hv.1, f⟩
    · refine ms_at (e := [.dat (.str "steps"), .dat d, .un, .un, .un]) rfl ?_
      simp only [msRet, msRetN, msSeq, msIf, msNext, msExpr, msSet, mtAnd, mtOr, mtNot, mTru, mB, mCB, mCall, maCons, maNil, mVar, mC, mOp, mChain, mIf, mAndV, mOrV, mNotV, mLst, mTup, mMS, gI0, gLen, gEq, gNe, gEqS, gNeS, gIn, gAll, gStrip, truD, start0, dn, mLc, miS, mgName, wipeD, mYes, lcD, List.map_cons, List.map_nil, List.replicate, List.cons_append, List.nil_append, List.getElem?_cons_zero, List.getElem?_cons_succ, List.getElem?_nil, List.append_nil, gLe, gLt, Bool.not_true, Bool.not_false, Bool.false_eq_true, reduceIte, mCallL, gIx, miZ, gEqL, gNeL, mIsiT, mSl, moNone, moSome, gSl, miR1, gAdd, List.set_cons_zero, List.set_cons_succ, decide_true, eq_self]
      rw [if_neg (by decide)]
      rw [if_neg (by decide)]
      refine isq ?_
      have f : F1 (.bl (isSeqD d && fitsL K "steps" (elD d))) := by
        unfold fitsD at f
        rw [if_neg (by decide), if_neg (by decide)] at f
        exact f
      rcases sq with ⟨q1, q2, q3⟩ | q1
      rotate_left
      · rw [q1] at f ⊢
        exact f
      rw [q1] at f ⊢
      have f : F1 (.bl (fitsL K "steps" (elD d))) := f
      simp only [Bool.not_true, Bool.false_eq_true, reduceIte]
      refine ⟨elD d, q2, Nat.lt_of_le_of_lt q3 (by decide), lcD_if (p := fun e => !isStepD K e) (f := fun e => e) (elD d) (fun e me F' q => ?_) (fun e me _ F' q => q) ?_⟩
      · obtain ⟨t', u1, u2⟩ := kn_hp kl kh (hv.2 e me).1
        exact ⟨[.ref (cHas K), .ref (cPick K)], [.ref (cHas K), .ref (cPick K)], t', isStepD K e, rfl, (show 2 ≤ sizeLine from by decide), .cons (.own _) (.cons (.own _) .nil), u1, u2, q⟩
      · rw [List.map_id']
        unfold fitsL at f
        rw [if_pos rfl] at f
        exact ⟨by decide, f⟩
    · refine ms_at (e := [.dat (.str "some"), .dat d, .un, .un, .un]) rfl ?_
      simp only [msRet, msRetN, msSeq, msIf, msNext, msExpr, msSet, mtAnd, mtOr, mtNot, mTru, mB, mCB, mCall, maCons, maNil, mVar, mC, mOp, mChain, mIf, mAndV, mOrV, mNotV, mLst, mTup, mMS, gI0, gLen, gEq, gNe, gEqS, gNeS, gIn, gAll, gStrip, truD, start0, dn, mLc, miS, mgName, wipeD, mYes, lcD, List.map_cons, List.map_nil, List.replicate, List.cons_append, List.nil_append, List.getElem?_cons_zero, List.getElem?_cons_succ, List.getElem?_nil, List.append_nil, gLe, gLt, Bool.not_true, Bool.not_false, Bool.false_eq_true, reduceIte, mCallL, gIx, miZ, gEqL, gNeL, mIsiT, mSl, moNone, moSome, gSl, miR1, gAdd, List.set_cons_zero, List.set_cons_succ, decide_true, eq_self]
      rw [if_neg (by decide)]
      rw [if_neg (by decide)]
      refine isq ?_
      have f : F1 (.bl (isSeqD d && fitsL K "some" (elD d))) := by
        unfold fitsD at f
        rw [if_neg (by decide), if_neg (by decide)] at f
        exact f
      rcases sq with ⟨q1, q2, q3⟩ | q1
      rotate_left
      · rw [q1] at f ⊢
        exact f
      rw [q1] at f ⊢
      have f : F1 (.bl (fitsL K "some" (elD d))) := f
      simp only [Bool.not_true, Bool.false_eq_true, reduceIte]
      unfold fitsL at f
      rw [if_neg (by decide)] at f ⊢
      refine ⟨elD d, q2, Nat.lt_of_le_of_lt q3 (by decide), lcD_if (p := fun e => !lnameD e) (f := fun e => e) (elD d) (fun e me F' q => ?_) (fun e me _ F' q => q) ?_⟩
      · exact ⟨rfl, e, hv.2 e me, .inl ⟨rfl, q⟩⟩
      rw [List.map_id']
      refine ⟨by decide, ?_⟩
      cases e3 : ((elD d).filter fun e => !lnameD e).isEmpty <;> rw [e3] at f
      · exact f
      have an : (elD d).all lnameD = true := by
        refine List.all_eq_true.mpr fun e me => ?_
        cases e4 : lnameD e
        · have m2 : e ∈ (elD d).filter fun e => !lnameD e := List.mem_filter.mpr ⟨me, by rw [e4]; rfl⟩
          rw [List.isEmpty_iff.mp e3] at m2
          cases m2
        · rfl
      by_cases e5 : ((elD d).length : Int) = 0
      · have f9 : F1 (.bl false) := by
          rw [show decide (((elD d).length : Int) = 0) = true from decide_eq_true e5] at f
          exact f
        cases d with
        | lst l =>
          show if decide ((l.length : Int) = 0) = true then F1 (.bl false) else _
          rw [decide_eq_true (show (l.length : Int) = 0 from e5)]
          exact f9
        | tup l =>
          show if decide ((l.length : Int) = 0) = true then F1 (.bl false) else _
          rw [decide_eq_true (show (l.length : Int) = 0 from e5)]
          exact f9
        | _ => cases q1
      · have f : F1 (.bl (((rngD 0 (elD d).length).filter (dupD (elD d))).isEmpty)) := by
          rw [show decide (((elD d).length : Int) = 0) = false from decide_eq_false e5] at f
          exact f
        cases d with
        | lst l =>
          have q3 : l.length ≤ 100 := q3
          have f : F1 (.bl ((rngD 0 l.length).filter (dupD l)).isEmpty) := f
          show if decide ((l.length : Int) = 0) = true then F1 (.bl false) else _
          rw [decide_eq_false (show ¬ (l.length : Int) = 0 from e5)]
          refine ⟨by omega, by omega, ?_, ?_⟩
          · show (rngD 0 l.length).length < sizeLine
            unfold rngD
            rw [List.length_map, List.length_range]
            exact Nat.lt_of_le_of_lt q3 (by decide)
          · exact dup_lc (d := .lst l) rfl an q3 ⟨by decide, f⟩
        | tup l =>
          have q3 : l.length ≤ 100 := q3
          have f : F1 (.bl ((rngD 0 l.length).filter (dupD l)).isEmpty) := f
          show if decide ((l.length : Int) = 0) = true then F1 (.bl false) else _
          rw [decide_eq_false (show ¬ (l.length : Int) = 0 from e5)]
          refine ⟨by omega, by omega, ?_, ?_⟩
          · show (rngD 0 l.length).length < sizeLine
            unfold rngD
            rw [List.length_map, List.length_range]
            exact Nat.lt_of_le_of_lt q3 (by decide)
          · exact dup_lc (d := .tup l) rfl an q3 ⟨by decide, f⟩
        | _ => cases q1
    · refine ms_at (e := [.dat (.str "any"), .dat d, .un, .un, .un]) rfl ?_
      simp only [msRet, msRetN, msSeq, msIf, msNext, msExpr, msSet, mtAnd, mtOr, mtNot, mTru, mB, mCB, mCall, maCons, maNil, mVar, mC, mOp, mChain, mIf, mAndV, mOrV, mNotV, mLst, mTup, mMS, gI0, gLen, gEq, gNe, gEqS, gNeS, gIn, gAll, gStrip, truD, start0, dn, mLc, miS, mgName, wipeD, mYes, lcD, List.map_cons, List.map_nil, List.replicate, List.cons_append, List.nil_append, List.getElem?_cons_zero, List.getElem?_cons_succ, List.getElem?_nil, List.append_nil, gLe, gLt, Bool.not_true, Bool.not_false, Bool.false_eq_true, reduceIte, mCallL, gIx, miZ, gEqL, gNeL, mIsiT, mSl, moNone, moSome, gSl, miR1, gAdd, List.set_cons_zero, List.set_cons_succ, decide_true, eq_self]
      rw [if_neg (by decide)]
      rw [if_neg (by decide)]
      refine isq ?_
      have f : F1 (.bl (isSeqD d && fitsL K "any" (elD d))) := by
        unfold fitsD at f
        rw [if_neg (by decide), if_neg (by decide)] at f
        exact f
      rcases sq with ⟨q1, q2, q3⟩ | q1
      rotate_left
      · rw [q1] at f ⊢
        exact f
      rw [q1] at f ⊢
      have f : F1 (.bl (fitsL K "any" (elD d))) := f
      simp only [Bool.not_true, Bool.false_eq_true, reduceIte]
      unfold fitsL at f
      rw [if_neg (by decide)] at f ⊢
      refine ⟨elD d, q2, Nat.lt_of_le_of_lt q3 (by decide), lcD_if (p := fun e => !lnameD e) (f := fun e => e) (elD d) (fun e me F' q => ?_) (fun e me _ F' q => q) ?_⟩
      · exact ⟨rfl, e, hv.2 e me, .inl ⟨rfl, q⟩⟩
      rw [List.map_id']
      refine ⟨by decide, ?_⟩
      cases e3 : ((elD d).filter fun e => !lnameD e).isEmpty <;> rw [e3] at f
      · exact f
      have an : (elD d).all lnameD = true := by
        refine List.all_eq_true.mpr fun e me => ?_
        cases e4 : lnameD e
        · have m2 : e ∈ (elD d).filter fun e => !lnameD e := List.mem_filter.mpr ⟨me, by rw [e4]; rfl⟩
          rw [List.isEmpty_iff.mp e3] at m2
          cases m2
        · rfl
      simp only [Bool.not_true, Bool.false_eq_true, reduceIte]
      rw [if_neg (by decide)]
      cases d with
      | lst l =>
        have q3 : l.length ≤ 100 := q3
        have f : F1 (.bl ((rngD 0 l.length).filter (dupD l)).isEmpty) := f
        refine ⟨by omega, by omega, ?_, ?_⟩
        · show (rngD 0 l.length).length < sizeLine
          unfold rngD
          rw [List.length_map, List.length_range]
          exact Nat.lt_of_le_of_lt q3 (by decide)
        · exact dup_lc (d := .lst l) rfl an q3 ⟨by decide, f⟩
      | tup l =>
        have q3 : l.length ≤ 100 := q3
        have f : F1 (.bl ((rngD 0 l.length).filter (dupD l)).isEmpty) := f
        refine ⟨by omega, by omega, ?_, ?_⟩
        · show (rngD 0 l.length).length < sizeLine
          unfold rngD
          rw [List.length_map, List.length_range]
          exact Nat.lt_of_le_of_lt q3 (by decide)
        · exact dup_lc (d := .tup l) rfl an q3 ⟨by decide, f⟩
      | _ => cases q1
end
end K12

set_option Elab.async false
set_option linter.all false
set_option maxRecDepth 100000
set_option maxHeartbeats 4000000
namespace K12
open PySem PySem.Spec PyProof.Rows L2 DL
def gAsc0 : FF := fun ds F _ => ∃ d, ds = [d] ∧ seqD d = some [] ∧ F (.tup [])
def gWith0 : FF := fun ds F _ => ∃ d, ds = [d] ∧ seqD d = some [] ∧ F (.lst [])
section
variable {P : Program} {w : World} {K : Fg} {mg : Str → Option Value} {base : Heap}
theorem sc_ascending : FnScope ["rows", "plain", "row", "cell"] ["rows"] (defScope s_ascending) := ⟨rfl, rfl, rfl, by decide +kernel, rfl, by decide +kernel, by decide +kernel⟩
theorem ok_ascending (G : Glo K mg) (c : He.SaysD fa fn K) : Fn P w K mg base "ascending" 1 1 false (gAsc0) := by
  obtain ⟨fd, F⟩ := c.defs (d := dfn ("ascending", none) "ascending" "ascending" s_ascending) (by unfold fn; simp)
  replace F : FunD K "ascending" "ascending" (defArgs s_ascending) (defBody s_ascending) (defScope s_ascending) [] [] (He.ga K "ascending") fd := F
  refine ⟨_, fd, ["rows"], ?_, G.g "ascending" (by decide), F.kp, F.bindsN fun _ _ _ _ _ _ us hl => match us, hl with | [_], _ => rfl⟩
  have nd : (["rows", "plain", "row", "cell"] : List Str).Nodup := sc_ascending.nd
  obtain ⟨_, h_LETTERS⟩ := G.hL
  obtain ⟨_, h_LAD⟩ := G.hA
  obtain ⟨_, h_LN⟩ := G.hN
  obtain ⟨_, h_LT⟩ := G.hT
  apply fn_okE (k := 0) (N := ["rows", "plain", "row", "cell"]) F sc_ascending rfl (by decide)
  intro c cdv A outer s H E hr
  have hu := hr.units
  have tk := takes_of (X := cxOf (L2.CX P w) P w K mg base ["rows", "plain", "row", "cell"] "ascending" (defScope s_ascending) (He.ga K "ascending") cdv A outer s H E) rfl rfl rfl rfl
  apply Exists.intro
  apply Exists.intro
  apply And.intro
  · exact (dss_cons (ds_setLcF 1 (own := [("row", 2)]) rfl nd rfl rfl rfl (dic_of (di_seq (de_var 0))) (blkOk_by (show blkC ["rows", "plain", "row", "cell"] (defScope s_ascending) _ _ = true from by decide +kernel)) (by decide) (fun s H C cl fp => (dg_name 2 nd rfl (by first | exact .inl rfl | exact .inr rfl))) (fun s H C cl fp => dts_nil) (fun s H C cl fp => de_never))
    (dss_one (ds_ret (de_callTy call_tuple_of cd_tuple rfl (G.n "tuple" (by decide)) (by decide +kernel) (da_cons (de_lcF (own := [("row", 2)]) rfl nd (dic_of (di_seq (de_sortSet0 rfl hu rfl (G.n "sorted" (by decide)) rfl (G.n "set" (by decide)) (de_var 1)))) (blkOk_by (show blkC ["rows", "plain", "row", "cell"] (defScope s_ascending) _ _ = true from by decide +kernel)) (by decide) (fun s H C cl fp => (dg_name 2 nd rfl (by first | exact .inl rfl | exact .inr rfl))) (fun s H C cl fp => dts_nil) (fun s H C cl fp => de_never)) da_nil)))))
  · intro ds F1 X1 hn h
    obtain ⟨d, rfl, hs, f⟩ := h
    refine ms_at (e := [.dat d, .un, .un, .un]) rfl ?_
    simp only [msRet, msRetN, msSeq, msIf, msNext, msExpr, msSet, mtAnd, mtOr, mtNot, mTru, mB, mCB, mCall, maCons, maNil, mVar, mC, mOp, mChain, mIf, mAndV, mOrV, mNotV, mLst, mTup, mMS, gI0, gLen, gEq, gNe, gEqS, gNeS, gIn, gAll, gStrip, truD, start0, dn, mLc, miS, mgName, wipeD, mYes, lcD, List.map_cons, List.map_nil, List.replicate, List.cons_append, List.nil_append, List.getElem?_cons_zero, List.getElem?_cons_succ, List.getElem?_nil, List.append_nil, gLe, gLt, Bool.not_true, Bool.not_false, Bool.false_eq_true, reduceIte, mCallL, gIx, miZ, gEqL, gNeL, mIsiT, mSl, moNone, moSome, gSl, miR1, gAdd, List.set_cons_zero, List.set_cons_succ, decide_true, eq_self, gSort0, gTuple]
    exact ⟨[], hs, by decide, [], rfl, by decide, f⟩
theorem sc_with_places : FnScope ["rows", "row"] ["rows"] (defScope s_with_places) := ⟨rfl, rfl, rfl, by decide +kernel, rfl, by decide +kernel, by decide +kernel⟩
theorem ok_with_places (G : Glo K mg) (c : He.SaysD fa fn K) : Fn P w K mg base "with_places" 1 1 false (gWith0) := by
  obtain ⟨fd, F⟩ := c.defs (d := dfn ("with_places", none) "with_places" "with_places" s_with_places) (by unfold fn; simp)
  replace F : FunD K "with_places" "with_places" (defArgs s_with_places) (defBody s_with_places) (defScope s_with_places) [] [] (He.ga K "with_places") fd := F
  refine ⟨_, fd, ["rows"], ?_, G.g "with_places" (by decide), F.kp, F.bindsN fun _ _ _ _ _ _ us hl => match us, hl with | [_], _ => rfl⟩
  have nd : (["rows", "row"] : List Str).Nodup := sc_with_places.nd
  obtain ⟨_, h_LETTERS⟩ := G.hL
  obtain ⟨_, h_LAD⟩ := G.hA
  obtain ⟨_, h_LN⟩ := G.hN
  obtain ⟨_, h_LT⟩ := G.hT
  apply fn_okE (k := 0) (N := ["rows", "row"]) F sc_with_places rfl (by decide)
  intro c cdv A outer s H E hr
  have hu := hr.units
  have tk := takes_of (X := cxOf (L2.CX P w) P w K mg base ["rows", "row"] "with_places" (defScope s_with_places) (He.ga K "with_places") cdv A outer s H E) rfl rfl rfl rfl
  apply Exists.intro
  apply Exists.intro
  apply And.intro
  · exact (dss_one (ds_ret (de_lcF (own := [("row", 1)]) rfl nd (dic_of (di_seq (de_var 0))) (blkOk_by (show blkC ["rows", "row"] (defScope s_with_places) _ _ = true from by decide +kernel)) (by decide) (fun s H C cl fp => (dg_name 1 nd rfl (by first | exact .inl rfl | exact .inr rfl))) (fun s H C cl fp => dts_nil) (fun s H C cl fp => de_never))))
  · intro ds F1 X1 hn h
    obtain ⟨d, rfl, hs, f⟩ := h
    refine ms_at (e := [.dat d, .un]) rfl ?_
    simp only [msRet, msRetN, msSeq, msIf, msNext, msExpr, msSet, mtAnd, mtOr, mtNot, mTru, mB, mCB, mCall, maCons, maNil, mVar, mC, mOp, mChain, mIf, mAndV, mOrV, mNotV, mLst, mTup, mMS, gI0, gLen, gEq, gNe, gEqS, gNeS, gIn, gAll, gStrip, truD, start0, dn, mLc, miS, mgName, wipeD, mYes, lcD, List.map_cons, List.map_nil, List.replicate, List.cons_append, List.nil_append, List.getElem?_cons_zero, List.getElem?_cons_succ, List.getElem?_nil, List.append_nil, gLe, gLt, Bool.not_true, Bool.not_false, Bool.false_eq_true, reduceIte, mCallL, gIx, miZ, gEqL, gNeL, mIsiT, mSl, moNone, moSome, gSl, miR1, gAdd, List.set_cons_zero, List.set_cons_succ, decide_true, eq_self, gSort0, gTuple]
    exact ⟨[], hs, by decide, f⟩
theorem sc_unlike_places : FnScope ["marked", "places", "row"] ["marked"] (defScope s_unlike_places) := ⟨rfl, rfl, rfl, by decide +kernel, rfl, by decide +kernel, by decide +kernel⟩
theorem ok_unlike_places (G : Glo K mg) (c : He.SaysD fa fn K) : Fn P w K mg base "unlike_places" 1 1 false (gWith0) := by
  obtain ⟨fd, F⟩ := c.defs (d := dfn ("unlike_places", none) "unlike_places" "unlike_places" s_unlike_places) (by unfold fn; simp)
  replace F : FunD K "unlike_places" "unlike_places" (defArgs s_unlike_places) (defBody s_unlike_places) (defScope s_unlike_places) [] [] (He.ga K "unlike_places") fd := F
  refine ⟨_, fd, ["marked"], ?_, G.g "unlike_places" (by decide), F.kp, F.bindsN fun _ _ _ _ _ _ us hl => match us, hl with | [_], _ => rfl⟩
  have nd : (["marked", "places", "row"] : List Str).Nodup := sc_unlike_places.nd
  obtain ⟨_, h_LETTERS⟩ := G.hL
  obtain ⟨_, h_LAD⟩ := G.hA
  obtain ⟨_, h_LN⟩ := G.hN
  obtain ⟨_, h_LT⟩ := G.hT
  apply fn_okE (k := 0) (N := ["marked", "places", "row"]) F sc_unlike_places rfl (by decide)
  intro c cdv A outer s H E hr
  have hu := hr.units
  have tk := takes_of (X := cxOf (L2.CX P w) P w K mg base ["marked", "places", "row"] "unlike_places" (defScope s_unlike_places) (He.ga K "unlike_places") cdv A outer s H E) rfl rfl rfl rfl
  apply Exists.intro
  apply Exists.intro
  apply And.intro
  · exact (dss_one (ds_ret (de_sortSet0 rfl hu rfl (G.n "sorted" (by decide)) rfl (G.n "set" (by decide)) (de_lcF (own := [("places", 1), ("row", 2)]) rfl nd (dic_of (di_seq (de_var 0))) (blkOk_by (show blkC ["marked", "places", "row"] (defScope s_unlike_places) _ _ = true from by decide +kernel)) (by decide) (fun s H C cl fp => (dg_tup rfl (dgs_cons (dg_name 1 nd rfl (by first | exact .inl rfl | exact .inr rfl)) (dgs_cons (dg_name 2 nd rfl (by first | exact .inl rfl | exact .inr rfl)) dgs_nil)))) (fun s H C cl fp => dts_never) (fun s H C cl fp => de_never)))))
  · intro ds F1 X1 hn h
    obtain ⟨d, rfl, hs, f⟩ := h
    refine ms_at (e := [.dat d, .un, .un]) rfl ?_
    simp only [msRet, msRetN, msSeq, msIf, msNext, msExpr, msSet, mtAnd, mtOr, mtNot, mTru, mB, mCB, mCall, maCons, maNil, mVar, mC, mOp, mChain, mIf, mAndV, mOrV, mNotV, mLst, mTup, mMS, gI0, gLen, gEq, gNe, gEqS, gNeS, gIn, gAll, gStrip, truD, start0, dn, mLc, miS, mgName, wipeD, mYes, lcD, List.map_cons, List.map_nil, List.replicate, List.cons_append, List.nil_append, List.getElem?_cons_zero, List.getElem?_cons_succ, List.getElem?_nil, List.append_nil, gLe, gLt, Bool.not_true, Bool.not_false, Bool.false_eq_true, reduceIte, mCallL, gIx, miZ, gEqL, gNeL, mIsiT, mSl, moNone, moSome, gSl, miR1, gAdd, List.set_cons_zero, List.set_cons_succ, decide_true, eq_self, gSort0, gTuple]
    exact ⟨[], hs, by decide, f⟩
theorem sc_rows_left : FnScope ["rows", "marked", "kept", "places", "larger", "alike", "its", "row"] ["rows"] (defScope s_rows_left) := ⟨rfl, rfl, rfl, by decide +kernel, rfl, by decide +kernel, by decide +kernel⟩
theorem ok_rows_left (G : Glo K mg) (c : He.SaysD fa fn K) (H_ascending : Fn P w K mg base "ascending" 1 1 false gAsc0) (H_with_places : Fn P w K mg base "with_places" 1 1 false gWith0) (H_unlike_places : Fn P w K mg base "unlike_places" 1 1 false gWith0) : Fn P w K mg base "rows_left" 2 1 false (gAsc0) := by
  obtain ⟨fd, F⟩ := c.defs (d := dfn ("rows_left", none) "rows_left" "rows_left" s_rows_left) (by unfold fn; simp)
  replace F : FunD K "rows_left" "rows_left" (defArgs s_rows_left) (defBody s_rows_left) (defScope s_rows_left) [] [] (He.ga K "rows_left") fd := F
  refine ⟨_, fd, ["rows"], ?_, G.g "rows_left" (by decide), F.kp, F.bindsN fun _ _ _ _ _ _ us hl => match us, hl with | [_], _ => rfl⟩
  have nd : (["rows", "marked", "kept", "places", "larger", "alike", "its", "row"] : List Str).Nodup := sc_rows_left.nd
  obtain ⟨_, h_LETTERS⟩ := G.hL
  obtain ⟨_, h_LAD⟩ := G.hA
  obtain ⟨_, h_LN⟩ := G.hN
  obtain ⟨_, h_LT⟩ := G.hT
  apply fn_okE (k := 1) (N := ["rows", "marked", "kept", "places", "larger", "alike", "its", "row"]) F sc_rows_left rfl (by decide)
  intro c cdv A outer s H E hr
  have hu := hr.units
  have tk := takes_of (X := cxOf (L2.CX P w) P w K mg base ["rows", "marked", "kept", "places", "larger", "alike", "its", "row"] "rows_left" (defScope s_rows_left) (He.ga K "rows_left") cdv A outer s H E) rfl rfl rfl rfl
  apply Exists.intro
  apply Exists.intro
  apply And.intro
  · exact (dss_cons (ds_set 1 nd rfl (.inl rfl) (de_f H_with_places (hr.mono (by decide)) rfl tk (da_cons (de_f H_ascending (hr.mono (by decide)) rfl tk (da_cons (de_var 0) da_nil)) da_nil)))
    (dss_cons (ds_set 2 nd rfl (.inl rfl) (de_lst da_nil))
    (dss_cons (ds_for (passes_of rfl) rfl (di_seq (de_f H_unlike_places (hr.mono (by decide)) rfl tk (da_cons (de_var 1) da_nil))) (dg_name 3 nd rfl (by first | exact .inl rfl | exact .inr rfl)) dss_never)
    (dss_one (ds_ret (de_f H_ascending (hr.mono (by decide)) rfl tk (da_cons (de_var 2) da_nil)))))))
  · intro ds F1 X1 hn h
    obtain ⟨d, rfl, hs, f⟩ := h
    refine ms_at (e := [.dat d, .un, .un, .un, .un, .un, .un, .un]) rfl ?_
    simp only [msRet, msRetN, msSeq, msIf, msNext, msExpr, msSet, mtAnd, mtOr, mtNot, mTru, mB, mCB, mCall, maCons, maNil, mVar, mC, mOp, mChain, mIf, mAndV, mOrV, mNotV, mLst, mTup, mMS, gI0, gLen, gEq, gNe, gEqS, gNeS, gIn, gAll, gStrip, truD, start0, dn, mLc, miS, mgName, wipeD, mYes, lcD, List.map_cons, List.map_nil, List.replicate, List.cons_append, List.nil_append, List.getElem?_cons_zero, List.getElem?_cons_succ, List.getElem?_nil, List.append_nil, gLe, gLt, Bool.not_true, Bool.not_false, Bool.false_eq_true, reduceIte, mCallL, gIx, miZ, gEqL, gNeL, mIsiT, mSl, moNone, moSome, gSl, miR1, gAdd, List.set_cons_zero, List.set_cons_succ, decide_true, eq_self, gSort0, gTuple]
    refine ⟨rfl, d, rfl, hs, rfl, .tup [], rfl, rfl, by decide, ?_⟩
    exact ⟨rfl, .lst [], rfl, rfl, [], rfl, rfl, .lst [], rfl, rfl, f⟩
def gRows0 (K : Fg) : FF := fun ds F _ => ∃ n : Int, ds = [.tup [], .int n] ∧ F .non
theorem sc_need_rows : FnScope ["rows", "width", "row", "cell"] ["rows", "width"] (defScope s_need_rows) := ⟨rfl, rfl, rfl, by decide +kernel, rfl, by decide +kernel, by decide +kernel⟩
theorem ok_need_rows (G : Glo K mg) (c : He.SaysD fa fn K) (H_is_sequence : Fn P w K mg base "is_sequence" 1 1 false (gSeq K)) : Fn P w K mg base "need_rows" 2 2 false (gRows0 K) := by
  obtain ⟨fd, F⟩ := c.defs (d := dfn ("need_rows", none) "need_rows" "need_rows" s_need_rows) (by unfold fn; simp)
  replace F : FunD K "need_rows" "need_rows" (defArgs s_need_rows) (defBody s_need_rows) (defScope s_need_rows) [] [] (He.ga K "need_rows") fd := F
  refine ⟨_, fd, ["rows", "width"], ?_, G.g "need_rows" (by decide), F.kp, F.bindsN fun _ _ _ _ _ _ us hl => match us, hl with | [_, _], _ => rfl⟩
  have nd : (["rows", "width", "row", "cell"] : List Str).Nodup := sc_need_rows.nd
  obtain ⟨_, h_LETTERS⟩ := G.hL
  obtain ⟨_, h_LAD⟩ := G.hA
  obtain ⟨_, h_LN⟩ := G.hN
  obtain ⟨_, h_LT⟩ := G.hT
  apply fn_okE (k := 1) (N := ["rows", "width", "row", "cell"]) F sc_need_rows rfl (by decide)
  intro c cdv A outer s H E hr
  have hu := hr.units
  have tk := takes_of (X := cxOf (L2.CX P w) P w K mg base ["rows", "width", "row", "cell"] "need_rows" (defScope s_need_rows) (He.ga K "need_rows") cdv A outer s H E) rfl rfl rfl rfl
  apply Exists.intro
  apply Exists.intro
  apply And.intro
  · exact (dss_cons (ds_if (dt_not (dt_truth (de_f H_is_sequence (hr.mono (by decide)) rfl tk (da_cons (de_var 0) da_nil)))) (dss_one ds_never) dss_nil)
    (dss_cons (ds_if (dt_not (dt_truth (de_callB (cr_all rfl) cd_all rfl (G.n "all" (by decide)) (by decide +kernel) (da_cons (de_lcF (own := [("row", 2)]) rfl nd (dic_of (di_seq (de_var 0))) (blkOk_by (show blkC ["rows", "width", "row", "cell"] (defScope s_need_rows) _ _ = true from by decide +kernel)) (by decide) (fun s H C cl fp => (dg_name 2 nd rfl (by first | exact .inl rfl | exact .inr rfl))) (fun s H C cl fp => dts_nil) (fun s H C cl fp => de_never)) da_nil)))) (dss_one ds_never) dss_nil)
    (dss_one (ds_if (dt_not (dt_truth (de_callB (cr_all rfl) cd_all rfl (G.n "all" (by decide)) (by decide +kernel) (da_cons (de_lc2E (own := [("row", 2), ("cell", 3)]) rfl nd (dic_of (di_seq (de_var 0))) (blkOk_by (show blkC ["rows", "width", "row", "cell"] (defScope s_need_rows) _ _ = true from by decide +kernel))) da_nil)))) (dss_one ds_never) dss_nil))))
  · intro ds F1 X1 hn h
    obtain ⟨n, rfl, f⟩ := h
    refine ms_at (e := [.dat (.tup []), .dat (.int n), .un, .un]) rfl ?_
    simp only [msRet, msRetN, msSeq, msIf, msNext, msExpr, msSet, mtAnd, mtOr, mtNot, mTru, mB, mCB, mCall, maCons, maNil, mVar, mC, mOp, mChain, mIf, mAndV, mOrV, mNotV, mLst, mTup, mMS, gI0, gLen, gEq, gNe, gEqS, gNeS, gIn, gAll, gStrip, truD, start0, dn, mLc, miS, mgName, wipeD, mYes, lcD, List.map_cons, List.map_nil, List.replicate, List.cons_append, List.nil_append, List.getElem?_cons_zero, List.getElem?_cons_succ, List.getElem?_nil, List.append_nil, gLe, gLt, Bool.not_true, Bool.not_false, Bool.false_eq_true, reduceIte, mCallL, gIx, miZ, gEqL, gNeL, mIsiT, mSl, moNone, moSome, gSl, miR1, gAdd, List.set_cons_zero, List.set_cons_succ, decide_true, eq_self, gSort0, gTuple]
    exact ⟨rfl, .tup [], rfl, trivial, [], rfl, by decide, [], rfl, [], rfl, rfl, [], rfl, f⟩
end
end K12

set_option Elab.async false
set_option linter.all false
set_option maxRecDepth 100000
set_option maxHeartbeats 4000000
namespace K12
open PySem PySem.Spec PyProof.Rows L2 DL
def aD : D := .lst [.str "a"]
def gTable (K : Fg) : FI := fun ds F X => ds = [aD, .tup []] ∧ F [("columns", .tup [.str "a"]), ("rows", .tup [])]
theorem a_V2 {K : Fg} : V2 K aD := ⟨⟨trivial, (show 1 ≤ 100 from by decide)⟩, fun e m => by
  cases m with
  | head => exact ⟨trivial, (show 1 ≤ 100 from by decide), by decide +kernel⟩
  | tail _ m => cases m⟩
theorem a_names : namesD aD 1 = true := by decide +kernel
section
variable {P : Program} {w : World} {K : Fg} {mg : Str → Option Value} {base : Heap}
theorem sc_Table_init : FnScope ["self", "columns", "rows"] ["self", "columns", "rows"] (defScope s_Table_init) := ⟨rfl, rfl, rfl, by decide +kernel, rfl, by decide +kernel, by decide +kernel⟩
theorem ok_Table_init (G : Glo K mg) (c : He.SaysD fa fn K) (H_are_names : Fn P w K mg base "are_names" 3 2 false (gNames K)) (H_need_rows : Fn P w K mg base "need_rows" 2 2 false (gRows0 K)) (H_rows_left : Fn P w K mg base "rows_left" 2 1 false gAsc0) : ∃ (fd : FuncData) (ds : List Value), FnOk P w K mg base (L2.CX P w) 4 (He.ma K (He.ga K "Table") "__init__") fd ["self", "columns", "rows"] (spI K 2 (He.ga K "Table") (gTable K)) ∧ Vals [.ref (He.dflAt ("Table", some "__init__") 0 K)] ds ∧ Binds K fd ["self", "columns", "rows"] ds := by
  obtain ⟨fd, F⟩ := c.defs (d := dfn ("Table", some "__init__") "__init__" "Table.__init__" s_Table_init [.adr (He.dflAt ("Table", some "__init__") 0)]) (by unfold fn; simp)
  replace F : FunD K "__init__" "Table.__init__" (defArgs s_Table_init) (defBody s_Table_init) (defScope s_Table_init) [.ref (He.dflAt ("Table", some "__init__") 0 K)] [] (He.ma K (He.ga K "Table") "__init__") fd := F
  have kC := He.cls_ok (c.fact 75 (f := .cls "Table") rfl)
  have n_columns := He.noat_ok (c.fact 96 (f := .noat "Table" "columns") rfl)
  have n_rows := He.noat_ok (c.fact 97 (f := .noat "Table" "rows") rfl)
  obtain ⟨dv, v1, v2⟩ := F.binds1 (ps := ["self", "columns", "rows"]) 2 0 (by simp) rfl (fun _ _ _ _ _ _ _ us its hu hi => match us, its, hu, hi with | [_, _], [_], _, _ => ⟨_, rfl, rfl⟩)
  refine ⟨fd, dv, ?_, v1, v2⟩
  have nd : (["self", "columns", "rows"] : List Str).Nodup := sc_Table_init.nd
  apply fn_okIE (k := 3) (N := ["self", "columns", "rows"]) F sc_Table_init rfl (by decide)
  intro c cdv A outer s H E hr
  have hu := hr.units
  have tk := takes_of (X := cxOf (L2.CX P w) P w K mg base ["self", "columns", "rows"] "Table.__init__" (defScope s_Table_init) (He.ma K (He.ga K "Table") "__init__") cdv A outer s H E) rfl rfl rfl rfl
  apply Exists.intro
  apply Exists.intro
  apply And.intro
  · exact (dss_cons (ds_if (dt_not (dt_truth (de_f H_are_names (hr.mono (by decide)) rfl tk (da_cons (de_var 1) (da_cons de_int da_nil))))) (dss_one ds_never) dss_nil)
    (dss_cons (ds_expr (de_f H_need_rows (hr.mono (by decide)) rfl tk (da_cons (de_var 2) (da_cons (de_callB call_len cd_len rfl (G.n "len" (by decide)) (by decide +kernel) (da_cons (de_var 1) da_nil)) da_nil))))
    (dss_cons (ds_self (pv 0) (de_callTy call_tuple_of cd_tuple rfl (G.n "tuple" (by decide)) (by decide +kernel) (da_cons (de_var 1) da_nil)))
    (dss_one (ds_self (pv 0) (de_f H_rows_left (hr.mono (by decide)) rfl tk (da_cons (de_var 2) da_nil)))))))
  · intro ds F1 X1 hn h
    obtain ⟨rfl, f⟩ := h
    refine ms_at (e := [.self (He.ga K "Table") [], .dat aD, .dat (.tup [])]) rfl ?_
    simp only [msRet, msRetN, msSeq, msIf, msNext, msExpr, msSet, mtAnd, mtOr, mtNot, mTru, mB, mCB, mCall, maCons, maNil, mVar, mC, mOp, mChain, mIf, mAndV, mOrV, mNotV, mLst, mTup, mMS, gI0, gLen, gEq, gNe, gEqS, gNeS, gIn, gAll, gStrip, truD, start0, dn, mLc, miS, mgName, wipeD, mYes, lcD, List.map_cons, List.map_nil, List.replicate, List.cons_append, List.nil_append, List.getElem?_cons_zero, List.getElem?_cons_succ, List.getElem?_nil, List.append_nil, gLe, gLt, Bool.not_true, Bool.not_false, Bool.false_eq_true, reduceIte, mCallL, gIx, miZ, gEqL, gNeL, mIsiT, mSl, moNone, moSome, gSl, miR1, gAdd, List.set_cons_zero, List.set_cons_succ, decide_true, eq_self, gSort0, gTuple, msSelf]
    refine ⟨rfl, aD, 1, rfl, a_V2, ?_⟩
    rw [a_names]
    simp only [Bool.not_true, Bool.false_eq_true, reduceIte]
    exact ⟨rfl, 1, rfl, kC, n_columns, (show 0 < 800 from by decide), rfl, rfl, .tup [], rfl, rfl, kC, n_rows, (show 1 < 800 from by decide), rfl, rfl, f⟩
end
end K12

set_option Elab.async false
set_option linter.all false
set_option maxRecDepth 100000
set_option maxHeartbeats 4000000
namespace K12
open PySem PySem.Spec PyProof.Rows L2 DL
def hasO (K : Fg) : D := .obj (He.ga K "Has") [("column", .str "a")]
def pickO (K : Fg) : D := .obj (He.ga K "Pick") [("columns", .tup [.str "a"])]
def goods (K : Fg) (s : Str) : List D := if s = "name" then [.str "a", .str "id", .str "zzzz", .str "put", .str "n"] else if s = "text" then [.str "a", .str "0", .str "zz9zz9", .str "as", .str "end", .str "12"] else
  if s = "steps" then [.lst [], .tup [], .lst [hasO K], .tup [pickO K, hasO K]] else [aD, .tup [.str "a", .str "id"], .lst [.str "n", .str "put", .str "x"]] ++ (if s = "any" then [.tup []] else [])
theorem sa_V2 {K : Fg} : V2 K (.str "a") := ⟨⟨trivial, (show 1 ≤ 100 from by decide), by decide +kernel⟩, fun e m => by cases m⟩
theorem has_ok {K : Fg} {F : List (Str × D) → Prop} {X : XC} (h : F [("column", .str "a")]) : gHas K [.str "a"] F X := by
  refine ⟨.str "a", rfl, sa_V2, ?_⟩
  simp only [runD]
  rw [if_pos (show nameD (.str "a") = true from by decide +kernel)]
  exact h
theorem pick_ok {K : Fg} {F : List (Str × D) → Prop} {X : XC} (h : F [("columns", .tup [.str "a"])]) : gPick K [.lst [.str "a"]] F X := by
  refine ⟨aD, rfl, a_V2, ?_⟩
  simp only [runD]
  rw [if_pos a_names]
  exact h
def gGood (K : Fg) : FF := fun ds F _ => ∃ s, ds = [.str s] ∧ s ∈ (["name", "text", "steps", "some", "any"] : List Str) ∧ ∀ d ∈ goods K s, F d
section
variable {P : Program} {w : World} {K : Fg} {mg : Str → Option Value} {base : Heap}
theorem sc_law_good : FnScope ["_law_deal_here", "_law_sort"] ["_law_deal_here", "_law_sort"] (defScope s_law_good) := ⟨rfl, rfl, rfl, by decide +kernel, rfl, by decide +kernel, by decide +kernel⟩
theorem ok_law_good (G : Glo K mg) (c : He.SaysD fa fn K) (H_law_pick : Fn P w K mg base "_law_pick" 2 1 true gOneOf) (H_Pick : Mkr P w K mg base "Pick" (He.ga K "Pick") 4 1 (gPick K)) (H_Has : Mkr P w K mg base "Has" (He.ga K "Has") 4 1 (gHas K)) : Fn P w K mg base "_law_good" 6 1 true (gGood K) := by
  obtain ⟨fd, F⟩ := c.defs (d := dfn ("_law_good", none) "_law_good" "_law_good" s_law_good) (by unfold fn; simp)
  replace F : FunD K "_law_good" "_law_good" (defArgs s_law_good) (defBody s_law_good) (defScope s_law_good) [] [] (He.ga K "_law_good") fd := F
  refine ⟨_, fd, ["_law_deal_here", "_law_sort"], ?_, G.g "_law_good" (by decide), F.kp, F.bindsN fun _ _ _ _ _ _ us hl => match us, hl with | [_, _], _ => rfl⟩
  have nd : (["_law_deal_here", "_law_sort"] : List Str).Nodup := sc_law_good.nd
  obtain ⟨_, h_LETTERS⟩ := G.hL
  obtain ⟨_, h_LAD⟩ := G.hA
  obtain ⟨_, h_LN⟩ := G.hN
  obtain ⟨_, h_LT⟩ := G.hT
  apply fn_okE (k := 5) (N := ["_law_deal_here", "_law_sort"]) F sc_law_good rfl (by decide)
  intro c cdv A outer s H E hr
  have hu := hr.units
  have tk := takes_of (X := cxOf (L2.CX P w) P w K mg base ["_law_deal_here", "_law_sort"] "_law_good" (defScope s_law_good) (He.ga K "_law_good") cdv A outer s H E) rfl rfl rfl rfl
  apply Exists.intro
  apply Exists.intro
  apply And.intro
  · exact (dss_cons (ds_if (dt_cmp op_eq rd_eqS (de_var 1) de_str (nomark _)) (dss_one (ds_ret (de_fL 0 H_law_pick (hr.mono (by decide)) rfl tk (pv 0) (da_cons (de_lst (da_cons de_str (da_cons de_str (da_cons de_str (da_cons de_str (da_cons de_str da_nil)))))) da_nil)))) dss_nil)
    (dss_cons (ds_if (dt_cmp op_eq rd_eqS (de_var 1) de_str (nomark _)) (dss_one (ds_ret (de_fL 0 H_law_pick (hr.mono (by decide)) rfl tk (pv 0) (da_cons (de_lst (da_cons de_str (da_cons de_str (da_cons de_str (da_cons de_str (da_cons de_str (da_cons de_str da_nil))))))) da_nil)))) dss_nil)
    (dss_cons (ds_if (dt_cmp op_eq rd_eqS (de_var 1) de_str (nomark _)) (dss_one (ds_ret (de_fL 0 H_law_pick (hr.mono (by decide)) rfl tk (pv 0) (da_cons (de_lst (da_cons (de_lst da_nil) (da_cons (de_tup da_nil) (da_cons (de_lst (da_cons (de_mk H_Has (hr.mono (by decide)) rfl tk (da_cons de_str da_nil)) da_nil)) (da_cons (de_tup (da_cons (de_mk H_Pick (hr.mono (by decide)) rfl tk (da_cons (de_lst (da_cons de_str da_nil)) da_nil)) (da_cons (de_mk H_Has (hr.mono (by decide)) rfl tk (da_cons de_str da_nil)) da_nil))) da_nil))))) da_nil)))) dss_nil)
    (dss_one (ds_ret (de_fL 0 H_law_pick (hr.mono (by decide)) rfl tk (pv 0) (da_cons (de_op op_addA rd_add (de_lst (da_cons (de_lst (da_cons de_str da_nil)) (da_cons (de_tup (da_cons de_str (da_cons de_str da_nil))) (da_cons (de_lst (da_cons de_str (da_cons de_str (da_cons de_str da_nil)))) da_nil)))) (de_op op_mulA rd_mul (de_lst (da_cons (de_tup da_nil) da_nil)) (de_callTy call_int1 cd_int rfl (G.n "int" (by decide)) (by decide +kernel) (da_cons (de_cmp op_eq rd_eqS (de_var 1) de_str (nomark _)) da_nil)))) da_nil)))))))
  · intro ds F1 X1 hn h
    obtain ⟨s, rfl, hs, f⟩ := h
    simp only [List.mem_cons, List.not_mem_nil, or_false] at hs
    rcases hs with rfl | rfl | rfl | rfl | rfl
    · refine ms_at (e := [.deal, .dat (.str "name")]) rfl ?_
      simp only [msRet, msRetN, msSeq, msIf, msNext, msExpr, msSet, mtAnd, mtOr, mtNot, mTru, mB, mCB, mCall, maCons, maNil, mVar, mC, mOp, mChain, mIf, mAndV, mOrV, mNotV, mLst, mTup, mMS, gI0, gLen, gEq, gNe, gEqS, gNeS, gIn, gAll, gStrip, truD, start0, dn, mLc, miS, mgName, wipeD, mYes, lcD, List.map_cons, List.map_nil, List.replicate, List.cons_append, List.nil_append, List.getElem?_cons_zero, List.getElem?_cons_succ, List.getElem?_nil, List.append_nil, gLe, gLt, Bool.not_true, Bool.not_false, Bool.false_eq_true, reduceIte, mCallL, gIx, miZ, gEqL, gNeL, mIsiT, mSl, moNone, moSome, gSl, miR1, gAdd, List.set_cons_zero, List.set_cons_succ, decide_true, eq_self, mMake, gRep, gInt]
      exact ⟨trivial, by decide, rfl, _, _, rfl, rfl, by decide, by decide, f⟩
    · refine ms_at (e := [.deal, .dat (.str "text")]) rfl ?_
      simp only [msRet, msRetN, msSeq, msIf, msNext, msExpr, msSet, mtAnd, mtOr, mtNot, mTru, mB, mCB, mCall, maCons, maNil, mVar, mC, mOp, mChain, mIf, mAndV, mOrV, mNotV, mLst, mTup, mMS, gI0, gLen, gEq, gNe, gEqS, gNeS, gIn, gAll, gStrip, truD, start0, dn, mLc, miS, mgName, wipeD, mYes, lcD, List.map_cons, List.map_nil, List.replicate, List.cons_append, List.nil_append, List.getElem?_cons_zero, List.getElem?_cons_succ, List.getElem?_nil, List.append_nil, gLe, gLt, Bool.not_true, Bool.not_false, Bool.false_eq_true, reduceIte, mCallL, gIx, miZ, gEqL, gNeL, mIsiT, mSl, moNone, moSome, gSl, miR1, gAdd, List.set_cons_zero, List.set_cons_succ, decide_true, eq_self, mMake, gRep, gInt]
      rw [if_neg (by decide)]
      exact ⟨trivial, by decide, rfl, _, _, rfl, rfl, by decide, by decide, f⟩
    · refine ms_at (e := [.deal, .dat (.str "steps")]) rfl ?_
      simp only [msRet, msRetN, msSeq, msIf, msNext, msExpr, msSet, mtAnd, mtOr, mtNot, mTru, mB, mCB, mCall, maCons, maNil, mVar, mC, mOp, mChain, mIf, mAndV, mOrV, mNotV, mLst, mTup, mMS, gI0, gLen, gEq, gNe, gEqS, gNeS, gIn, gAll, gStrip, truD, start0, dn, mLc, miS, mgName, wipeD, mYes, lcD, List.map_cons, List.map_nil, List.replicate, List.cons_append, List.nil_append, List.getElem?_cons_zero, List.getElem?_cons_succ, List.getElem?_nil, List.append_nil, gLe, gLt, Bool.not_true, Bool.not_false, Bool.false_eq_true, reduceIte, mCallL, gIx, miZ, gEqL, gNeL, mIsiT, mSl, moNone, moSome, gSl, miR1, gAdd, List.set_cons_zero, List.set_cons_succ, decide_true, eq_self, mMake, gRep, gInt]
      rw [if_neg (by decide), if_neg (by decide)]
      exact ⟨trivial, by decide, by decide, rfl, has_ok ⟨(show 1 ≤ sizeLine from by decide), (show 1 ≤ sizeLine from by decide), rfl, pick_ok ⟨rfl, has_ok ⟨(show 2 ≤ sizeLine from by decide), (show 4 ≤ sizeLine from by decide), rfl, _, _, rfl, rfl, (show 0 < 4 from by decide), (show 4 < 1073741824 from by decide), f⟩⟩⟩⟩
    · refine ms_at (e := [.deal, .dat (.str "some")]) rfl ?_
      simp only [msRet, msRetN, msSeq, msIf, msNext, msExpr, msSet, mtAnd, mtOr, mtNot, mTru, mB, mCB, mCall, maCons, maNil, mVar, mC, mOp, mChain, mIf, mAndV, mOrV, mNotV, mLst, mTup, mMS, gI0, gLen, gEq, gNe, gEqS, gNeS, gIn, gAll, gStrip, truD, start0, dn, mLc, miS, mgName, wipeD, mYes, lcD, List.map_cons, List.map_nil, List.replicate, List.cons_append, List.nil_append, List.getElem?_cons_zero, List.getElem?_cons_succ, List.getElem?_nil, List.append_nil, gLe, gLt, Bool.not_true, Bool.not_false, Bool.false_eq_true, reduceIte, mCallL, gIx, miZ, gEqL, gNeL, mIsiT, mSl, moNone, moSome, gSl, miR1, gAdd, List.set_cons_zero, List.set_cons_succ, decide_true, eq_self, mMake, gRep, gInt]
      rw [if_neg (by decide), if_neg (by decide), if_neg (by decide)]
      rw [if_neg (show ¬ decide (("some" : Str) = "any") = true from by decide)]
      exact ⟨trivial, by decide, by decide, by decide, (show 3 ≤ sizeLine from by decide), by decide, by decide, by decide, by decide, (show 0 ≤ sizeLine from by decide), (show 3 ≤ sizeLine from by decide), rfl, _, _, rfl, rfl, (show 0 < 3 from by decide), (show 3 < 1073741824 from by decide), f⟩
    · refine ms_at (e := [.deal, .dat (.str "any")]) rfl ?_
      simp only [msRet, msRetN, msSeq, msIf, msNext, msExpr, msSet, mtAnd, mtOr, mtNot, mTru, mB, mCB, mCall, maCons, maNil, mVar, mC, mOp, mChain, mIf, mAndV, mOrV, mNotV, mLst, mTup, mMS, gI0, gLen, gEq, gNe, gEqS, gNeS, gIn, gAll, gStrip, truD, start0, dn, mLc, miS, mgName, wipeD, mYes, lcD, List.map_cons, List.map_nil, List.replicate, List.cons_append, List.nil_append, List.getElem?_cons_zero, List.getElem?_cons_succ, List.getElem?_nil, List.append_nil, gLe, gLt, Bool.not_true, Bool.not_false, Bool.false_eq_true, reduceIte, mCallL, gIx, miZ, gEqL, gNeL, mIsiT, mSl, moNone, moSome, gSl, miR1, gAdd, List.set_cons_zero, List.set_cons_succ, decide_true, eq_self, mMake, gRep, gInt]
      rw [if_neg (by decide), if_neg (by decide), if_neg (by decide)]
      exact ⟨trivial, by decide, by decide, by decide, (show 3 ≤ sizeLine from by decide), by decide, by decide, by decide, by decide, (show 1 ≤ sizeLine from by decide), (show 4 ≤ sizeLine from by decide), rfl, _, _, rfl, rfl, (show 0 < 4 from by decide), (show 4 < 1073741824 from by decide), f⟩
end
end K12

set_option Elab.async false
set_option linter.all false
set_option maxRecDepth 100000
set_option maxHeartbeats 4000000
namespace K12
open PySem PySem.Spec PyProof.Rows L2 DL
def tabO (K : Fg) : D := .obj (He.ga K "Table") [("columns", .tup [.str "a"]), ("rows", .tup [])]
def odds (K : Fg) : List D := [.str "", .str "A", .str "abcde", .str "as", .str "by", .str "to", .str "end", .str "a1", .str "1", .str "1234567", .str "a b", .non, .int 3, .bl true, tabO K,
  .lst [], .tup [], .lst [.str "a", .str "a"], .lst [.str "as"], .lst [.str "a", .int 3], .lst [.non], .str "ab", .lst [hasO K, .int 3], .lst [.str "has a"], .tup [.lst [.str "a"]]]
def gOdd (K : Fg) : FF := fun ds F _ => ds = [] ∧ ∀ d ∈ odds K, F d
theorem tab_ok {K : Fg} {F : List (Str × D) → Prop} {X : XC} (h : F [("columns", .tup [.str "a"]), ("rows", .tup [])]) : gTable K [.lst [.str "a"], .tup []] F X := ⟨rfl, h⟩
section
variable {P : Program} {w : World} {K : Fg} {mg : Str → Option Value} {base : Heap}
theorem sc_law_odd : FnScope ["_law_deal_here", "_law_some"] ["_law_deal_here"] (defScope s_law_odd) := ⟨rfl, rfl, rfl, by decide +kernel, rfl, by decide +kernel, by decide +kernel⟩
theorem ok_law_odd (G : Glo K mg) (c : He.SaysD fa fn K) (H_law_pick : Fn P w K mg base "_law_pick" 2 1 true gOneOf) (H_Has : Mkr P w K mg base "Has" (He.ga K "Has") 4 1 (gHas K)) (H_Table : MkrD P w K mg base "Table" (He.ga K "Table") 4 2 (gTable K) [.ref (He.dflAt ("Table", some "__init__") 0 K)] [.tup []]) : Fn P w K mg base "_law_odd" 6 0 true (gOdd K) := by
  obtain ⟨fd, F⟩ := c.defs (d := dfn ("_law_odd", none) "_law_odd" "_law_odd" s_law_odd) (by unfold fn; simp)
  replace F : FunD K "_law_odd" "_law_odd" (defArgs s_law_odd) (defBody s_law_odd) (defScope s_law_odd) [] [] (He.ga K "_law_odd") fd := F
  refine ⟨_, fd, ["_law_deal_here"], ?_, G.g "_law_odd" (by decide), F.kp, F.bindsN fun _ _ _ _ _ _ us hl => match us, hl with | [_], _ => rfl⟩
  have nd : (["_law_deal_here", "_law_some"] : List Str).Nodup := sc_law_odd.nd
  obtain ⟨_, h_LETTERS⟩ := G.hL
  obtain ⟨_, h_LAD⟩ := G.hA
  obtain ⟨_, h_LN⟩ := G.hN
  obtain ⟨_, h_LT⟩ := G.hT
  apply fn_okE (k := 5) (N := ["_law_deal_here", "_law_some"]) F sc_law_odd rfl (by decide)
  intro c cdv A outer s H E hr
  have hu := hr.units
  have tk := takes_of (X := cxOf (L2.CX P w) P w K mg base ["_law_deal_here", "_law_some"] "_law_odd" (defScope s_law_odd) (He.ga K "_law_odd") cdv A outer s H E) rfl rfl rfl rfl
  apply Exists.intro
  apply Exists.intro
  apply And.intro
  · exact (dss_cons (ds_set 1 nd rfl (.inl rfl) (de_lst (da_cons de_str (da_cons de_str (da_cons de_str (da_cons de_str (da_cons de_str (da_cons de_str (da_cons de_str (da_cons de_str (da_cons de_str (da_cons de_str (da_cons de_str (da_cons de_non (da_cons de_int (da_cons de_bl (da_cons (de_mkD H_Table (hr.mono (by decide)) rfl tk (da_cons (de_lst (da_cons de_str da_nil)) da_nil)) da_nil)))))))))))))))))
    (dss_cons (ds_set 1 nd rfl (.inl rfl) (de_op op_addA rd_add (de_var 1) (de_lst (da_cons (de_lst da_nil) (da_cons (de_tup da_nil) (da_cons (de_lst (da_cons de_str (da_cons de_str da_nil))) (da_cons (de_lst (da_cons de_str da_nil)) (da_cons (de_lst (da_cons de_str (da_cons de_int da_nil))) (da_cons (de_lst (da_cons de_non da_nil)) (da_cons de_str (da_cons (de_lst (da_cons (de_mk H_Has (hr.mono (by decide)) rfl tk (da_cons de_str da_nil)) (da_cons de_int da_nil))) (da_cons (de_lst (da_cons de_str da_nil)) (da_cons (de_tup (da_cons (de_lst (da_cons de_str da_nil)) da_nil)) da_nil)))))))))))))
    (dss_one (ds_ret (de_fL 0 H_law_pick (hr.mono (by decide)) rfl tk (pv 0) (da_cons (de_var 1) da_nil))))))
  · intro ds F1 X1 hn h
    obtain ⟨rfl, f⟩ := h
    refine ms_at (e := [.deal, .un]) rfl ?_
    simp only [msRet, msRetN, msSeq, msIf, msNext, msExpr, msSet, mtAnd, mtOr, mtNot, mTru, mB, mCB, mCall, maCons, maNil, mVar, mC, mOp, mChain, mIf, mAndV, mOrV, mNotV, mLst, mTup, mMS, gI0, gLen, gEq, gNe, gEqS, gNeS, gIn, gAll, gStrip, truD, start0, dn, mLc, miS, mgName, wipeD, mYes, lcD, List.map_cons, List.map_nil, List.replicate, List.cons_append, List.nil_append, List.getElem?_cons_zero, List.getElem?_cons_succ, List.getElem?_nil, List.append_nil, gLe, gLt, Bool.not_true, Bool.not_false, Bool.false_eq_true, reduceIte, mCallL, gIx, miZ, gEqL, gNeL, mIsiT, mSl, moNone, moSome, gSl, miR1, gAdd, List.set_cons_zero, List.set_cons_succ, decide_true, eq_self, mMake, gRep, gInt]
    refine ⟨(show 1 ≤ sizeLine from by decide), rfl, tab_ok ⟨(show 15 ≤ sizeLine from by decide), by decide, by decide, (show 2 ≤ sizeLine from by decide), by decide, by decide, by decide, rfl, has_ok ?_⟩⟩
    exact ⟨(show 2 ≤ sizeLine from by decide), by decide, by decide, by decide, (show 10 ≤ sizeLine from by decide), (show 25 ≤ sizeLine from by decide), trivial, rfl, _, _, rfl, rfl, (show 0 < 25 from by decide), (show 25 < 1073741824 from by decide), f⟩
def sortsL : List (List (Str × Str)) := [[("columns", "some")], [("old", "name"), ("new", "name")], [("column", "name")], [("column", "name"), ("text", "text")], [("column", "name"), ("text", "text")], [("column", "name"), ("other", "name")], [("columns", "some"), ("name", "name"), ("value", "name")], [("by", "any"), ("name", "name"), ("value", "name"), ("heads", "some")], [("columns", "any"), ("steps", "steps")], [("steps", "steps")]]
def pairD (p : Str × Str) : D := .tup [.str p.1, .str p.2]
def sortsD (r : List (Str × Str)) : D := .lst (r.map pairD)
theorem atI_map {α β : Type} {g : α → β} {l : List α} {i : Int} : L2.atI (l.map g) i = (L2.atI l i).map g := by
  unfold L2.atI
  rw [List.length_map]
  cases L2.ixN l.length i with
  | none => rfl
  | some j => exact List.getElem?_map
def gSorts : FF := fun ds F _ => ∃ i r, ds = [.int i] ∧ L2.atI sortsL i = some r ∧ F (sortsD r)
theorem sc_law_sorts : FnScope ["_law_form"] ["_law_form"] (defScope s_law_sorts) := ⟨rfl, rfl, rfl, by decide +kernel, rfl, by decide +kernel, by decide +kernel⟩
theorem ok_law_sorts (G : Glo K mg) (c : He.SaysD fa fn K) : Fn P w K mg base "_law_sorts" 1 1 false (gSorts) := by
  obtain ⟨fd, F⟩ := c.defs (d := dfn ("_law_sorts", none) "_law_sorts" "_law_sorts" s_law_sorts) (by unfold fn; simp)
  replace F : FunD K "_law_sorts" "_law_sorts" (defArgs s_law_sorts) (defBody s_law_sorts) (defScope s_law_sorts) [] [] (He.ga K "_law_sorts") fd := F
  refine ⟨_, fd, ["_law_form"], ?_, G.g "_law_sorts" (by decide), F.kp, F.bindsN fun _ _ _ _ _ _ us hl => match us, hl with | [_], _ => rfl⟩
  have nd : (["_law_form"] : List Str).Nodup := sc_law_sorts.nd
  obtain ⟨_, h_LETTERS⟩ := G.hL
  obtain ⟨_, h_LAD⟩ := G.hA
  obtain ⟨_, h_LN⟩ := G.hN
  obtain ⟨_, h_LT⟩ := G.hT
  apply fn_okE (k := 0) (N := ["_law_form"]) F sc_law_sorts rfl (by decide)
  intro c cdv A outer s H E hr
  have hu := hr.units
  have tk := takes_of (X := cxOf (L2.CX P w) P w K mg base ["_law_form"] "_law_sorts" (defScope s_law_sorts) (He.ga K "_law_sorts") cdv A outer s H E) rfl rfl rfl rfl
  apply Exists.intro
  apply Exists.intro
  apply And.intro
  · exact (dss_one (ds_ret (de_ix (de_lst (da_cons (de_lst (da_cons (de_tup (da_cons de_str (da_cons de_str da_nil))) da_nil)) (da_cons (de_lst (da_cons (de_tup (da_cons de_str (da_cons de_str da_nil))) (da_cons (de_tup (da_cons de_str (da_cons de_str da_nil))) da_nil))) (da_cons (de_lst (da_cons (de_tup (da_cons de_str (da_cons de_str da_nil))) da_nil)) (da_cons (de_lst (da_cons (de_tup (da_cons de_str (da_cons de_str da_nil))) (da_cons (de_tup (da_cons de_str (da_cons de_str da_nil))) da_nil))) (da_cons (de_lst (da_cons (de_tup (da_cons de_str (da_cons de_str da_nil))) (da_cons (de_tup (da_cons de_str (da_cons de_str da_nil))) da_nil))) (da_cons (de_lst (da_cons (de_tup (da_cons de_str (da_cons de_str da_nil))) (da_cons (de_tup (da_cons de_str (da_cons de_str da_nil))) da_nil))) (da_cons (de_lst (da_cons (de_tup (da_cons de_str (da_cons de_str da_nil))) (da_cons (de_tup (da_cons de_str (da_cons de_str da_nil))) (da_cons (de_tup (da_cons de_str (da_cons de_str da_nil))) da_nil)))) (da_cons (de_lst (da_cons (de_tup (da_cons de_str (da_cons de_str da_nil))) (da_cons (de_tup (da_cons de_str (da_cons de_str da_nil))) (da_cons (de_tup (da_cons de_str (da_cons de_str da_nil))) (da_cons (de_tup (da_cons de_str (da_cons de_str da_nil))) da_nil))))) (da_cons (de_lst (da_cons (de_tup (da_cons de_str (da_cons de_str da_nil))) (da_cons (de_tup (da_cons de_str (da_cons de_str da_nil))) da_nil))) (da_cons (de_lst (da_cons (de_tup (da_cons de_str (da_cons de_str da_nil))) da_nil)) da_nil))))))))))) (de_var 0) (fun _ _ => rfl))))
  · intro ds F1 X1 hn h
    obtain ⟨i, r, rfl, hi, f⟩ := h
    refine ms_at (e := [.dat (.int i)]) rfl ?_
    simp only [msRet, msRetN, msSeq, msIf, msNext, msExpr, msSet, mtAnd, mtOr, mtNot, mTru, mB, mCB, mCall, maCons, maNil, mVar, mC, mOp, mChain, mIf, mAndV, mOrV, mNotV, mLst, mTup, mMS, gI0, gLen, gEq, gNe, gEqS, gNeS, gIn, gAll, gStrip, truD, start0, dn, mLc, miS, mgName, wipeD, mYes, lcD, List.map_cons, List.map_nil, List.replicate, List.cons_append, List.nil_append, List.getElem?_cons_zero, List.getElem?_cons_succ, List.getElem?_nil, List.append_nil, gLe, gLt, Bool.not_true, Bool.not_false, Bool.false_eq_true, reduceIte, mCallL, gIx, miZ, gEqL, gNeL, mIsiT, mSl, moNone, moSome, gSl, miR1, gAdd, List.set_cons_zero, List.set_cons_succ, decide_true, eq_self, mMake, gRep, gInt]
    iterate 31 refine And.intro (by decide) ?_
    refine ⟨sortsD r, ?_, f⟩
    show L2.atI (sortsL.map sortsD) i = _
    rw [atI_map, hi]
    rfl
end
end K12

set_option Elab.async false
set_option linter.all false
set_option maxRecDepth 100000
set_option maxHeartbeats 4000000
namespace K12
open PySem PySem.Spec PyProof.Rows L2 DL
theorem runD_mono {K : Fg} {A B : Prop} {X : XC} (h : A → B) : ∀ {cs : List (Bool × Str)}, runD K A X cs → runD K B X cs
  | [], r => h r
  | (b, w) :: cs, r => by
    unfold runD at r ⊢
    split at r
    · rename_i e
      rw [if_pos e]
      exact runD_mono h r
    · rename_i e
      rw [if_neg e]
      exact r
def gStepL (K : Fg) : FF := fun ds F X =>
  (∃ a : D, ds = [.int 0, .lst [a]] ∧ V2 K a ∧ runD K (∀ o, F o) X [(namesD a 1, "columns")]) ∨
  (∃ a b : D, ds = [.int 1, .lst [a, b]] ∧ V2 K a ∧ V2 K b ∧ runD K (∀ o, F o) X [(nameD a, "old"), (nameD b, "new")]) ∨
  (∃ a : D, ds = [.int 2, .lst [a]] ∧ V2 K a ∧ runD K (∀ o, F o) X [(nameD a, "column")]) ∨
  (∃ a b : D, ds = [.int 3, .lst [a, b]] ∧ V2 K a ∧ V2 K b ∧ runD K (∀ o, F o) X [(nameD a, "column"), (textD b, "text")]) ∨
  (∃ a b : D, ds = [.int 4, .lst [a, b]] ∧ V2 K a ∧ V2 K b ∧ runD K (∀ o, F o) X [(nameD a, "column"), (textD b, "text")]) ∨
  (∃ a b : D, ds = [.int 5, .lst [a, b]] ∧ V2 K a ∧ V2 K b ∧ runD K (∀ o, F o) X [(nameD a, "column"), (nameD b, "other")]) ∨
  (∃ a b c : D, ds = [.int 6, .lst [a, b, c]] ∧ V2 K a ∧ V2 K b ∧ V2 K c ∧ runD K (∀ o, F o) X [(namesD a 1, "columns"), (nameD b, "name"), (nameD c, "value")]) ∨
  (∃ a b c d : D, ds = [.int 7, .lst [a, b, c, d]] ∧ V2 K a ∧ V2 K b ∧ V2 K c ∧ V2 K d ∧ runD K (∀ o, F o) X [(namesD a 0, "by"), (nameD b, "name"), (nameD c, "value"), (namesD d 1, "heads")]) ∨
  (∃ a b : D, ds = [.int 8, .lst [a, b]] ∧ V2 K a ∧ V2 K b ∧ runD K (∀ o, F o) X [(namesD a 0, "columns"), (stepsD K b, "steps")]) ∨
  (∃ a : D, ds = [.int 9, .lst [a]] ∧ V2 K a ∧ runD K (∀ o, F o) X [(stepsD K a, "steps")])
section
variable {P : Program} {w : World} {K : Fg} {mg : Str → Option Value} {base : Heap}
theorem sc_law_step : FnScope ["_law_form", "_law_given"] ["_law_form", "_law_given"] (defScope s_law_step) := ⟨rfl, rfl, rfl, by decide +kernel, rfl, by decide +kernel, by decide +kernel⟩
theorem ok_law_step (G : Glo K mg) (c : He.SaysD fa fn K) (H_Pick : Mkr P w K mg base "Pick" (He.ga K "Pick") 4 1 (gPick K)) (H_Rename : Mkr P w K mg base "Rename" (He.ga K "Rename") 4 2 (gRename K)) (H_Has : Mkr P w K mg base "Has" (He.ga K "Has") 4 1 (gHas K)) (H_Is : Mkr P w K mg base "Is" (He.ga K "Is") 4 2 (gIs K)) (H_Put : Mkr P w K mg base "Put" (He.ga K "Put") 4 2 (gPut K)) (H_Alike : Mkr P w K mg base "Alike" (He.ga K "Alike") 4 2 (gAlike K)) (H_Melt : Mkr P w K mg base "Melt" (He.ga K "Melt") 4 3 (gMelt K)) (H_Pivot : Mkr P w K mg base "Pivot" (He.ga K "Pivot") 4 4 (gPivot K)) (H_Join : Mkr P w K mg base "Join" (He.ga K "Join") 4 2 (gJoin K)) (H_Stack : Mkr P w K mg base "Stack" (He.ga K "Stack") 4 1 (gStack K)) : Fn P w K mg base "_law_step" 6 2 false (gStepL K) := by
  obtain ⟨fd, F⟩ := c.defs (d := dfn ("_law_step", none) "_law_step" "_law_step" s_law_step) (by unfold fn; simp)
  replace F : FunD K "_law_step" "_law_step" (defArgs s_law_step) (defBody s_law_step) (defScope s_law_step) [] [] (He.ga K "_law_step") fd := F
  refine ⟨_, fd, ["_law_form", "_law_given"], ?_, G.g "_law_step" (by decide), F.kp, F.bindsN fun _ _ _ _ _ _ us hl => match us, hl with | [_, _], _ => rfl⟩
  have nd : (["_law_form", "_law_given"] : List Str).Nodup := sc_law_step.nd
  obtain ⟨_, h_LETTERS⟩ := G.hL
  obtain ⟨_, h_LAD⟩ := G.hA
  obtain ⟨_, h_LN⟩ := G.hN
  obtain ⟨_, h_LT⟩ := G.hT
  apply fn_okE (k := 5) (N := ["_law_form", "_law_given"]) F sc_law_step rfl (by decide)
  intro c cdv A outer s H E hr
  have hu := hr.units
  have tk := takes_of (X := cxOf (L2.CX P w) P w K mg base ["_law_form", "_law_given"] "_law_step" (defScope s_law_step) (He.ga K "_law_step") cdv A outer s H E) rfl rfl rfl rfl
  apply Exists.intro
  apply Exists.intro
  apply And.intro
  · exact (dss_cons (ds_if (dt_cmp op_inA rd_in (de_var 0) (de_tup (da_cons de_int (da_cons de_int (da_cons de_int da_nil)))) (by rfl)) (dss_one (ds_ret (de_if (dt_cmp op_eq rd_eqS (de_var 0) de_int (nomark _)) (de_mk H_Pick (hr.mono (by decide)) rfl tk (da_cons (de_ix (de_var 1) de_int (fun _ _ => rfl)) da_nil)) (de_if (dt_cmp op_eq rd_eqS (de_var 0) de_int (nomark _)) (de_mk H_Has (hr.mono (by decide)) rfl tk (da_cons (de_ix (de_var 1) de_int (fun _ _ => rfl)) da_nil)) (de_mk H_Stack (hr.mono (by decide)) rfl tk (da_cons (de_ix (de_var 1) de_int (fun _ _ => rfl)) da_nil)))))) dss_nil)
    (dss_cons (ds_if (dt_cmp op_eq rd_eqS (de_var 0) de_int (nomark _)) (dss_one (ds_ret (de_mk H_Melt (hr.mono (by decide)) rfl tk (da_cons (de_ix (de_var 1) de_int (fun _ _ => rfl)) (da_cons (de_ix (de_var 1) de_int (fun _ _ => rfl)) (da_cons (de_ix (de_var 1) de_int (fun _ _ => rfl)) da_nil)))))) dss_nil)
    (dss_cons (ds_if (dt_cmp op_eq rd_eqS (de_var 0) de_int (nomark _)) (dss_one (ds_ret (de_mk H_Pivot (hr.mono (by decide)) rfl tk (da_cons (de_ix (de_var 1) de_int (fun _ _ => rfl)) (da_cons (de_ix (de_var 1) de_int (fun _ _ => rfl)) (da_cons (de_ix (de_var 1) de_int (fun _ _ => rfl)) (da_cons (de_ix (de_var 1) de_int (fun _ _ => rfl)) da_nil))))))) dss_nil)
    (dss_cons (ds_if (dt_cmp op_inA rd_in (de_var 0) (de_tup (da_cons de_int (da_cons de_int da_nil))) (by rfl)) (dss_one (ds_ret (de_if (dt_cmp op_eq rd_eqS (de_var 0) de_int (nomark _)) (de_mk H_Is (hr.mono (by decide)) rfl tk (da_cons (de_ix (de_var 1) de_int (fun _ _ => rfl)) (da_cons (de_ix (de_var 1) de_int (fun _ _ => rfl)) da_nil))) (de_mk H_Put (hr.mono (by decide)) rfl tk (da_cons (de_ix (de_var 1) de_int (fun _ _ => rfl)) (da_cons (de_ix (de_var 1) de_int (fun _ _ => rfl)) da_nil)))))) dss_nil)
    (dss_cons (ds_if (dt_cmp op_eq rd_eqS (de_var 0) de_int (nomark _)) (dss_one (ds_ret (de_mk H_Join (hr.mono (by decide)) rfl tk (da_cons (de_ix (de_var 1) de_int (fun _ _ => rfl)) (da_cons (de_ix (de_var 1) de_int (fun _ _ => rfl)) da_nil))))) dss_nil)
    (dss_one (ds_ret (de_if (dt_cmp op_eq rd_eqS (de_var 0) de_int (nomark _)) (de_mk H_Rename (hr.mono (by decide)) rfl tk (da_cons (de_ix (de_var 1) de_int (fun _ _ => rfl)) (da_cons (de_ix (de_var 1) de_int (fun _ _ => rfl)) da_nil))) (de_mk H_Alike (hr.mono (by decide)) rfl tk (da_cons (de_ix (de_var 1) de_int (fun _ _ => rfl)) (da_cons (de_ix (de_var 1) de_int (fun _ _ => rfl)) da_nil)))))))))))
  · intro ds F1 X1 hn h
    rcases h with ⟨a, rfl, va, f⟩ | ⟨a, b, rfl, va, vb, f⟩ | ⟨a, rfl, va, f⟩ | ⟨a, b, rfl, va, vb, f⟩ | ⟨a, b, rfl, va, vb, f⟩ | ⟨a, b, rfl, va, vb, f⟩ | ⟨a, b, c, rfl, va, vb, vc, f⟩ | ⟨a, b, c, d, rfl, va, vb, vc, vd, f⟩ | ⟨a, b, rfl, va, vb, f⟩ | ⟨a, rfl, va, f⟩
    · refine ms_at (e := [.dat (.int 0), .dat (.lst [a])]) rfl ?_
      dsimp only [msRet, msRetN, msSeq, msIf, msNext, msExpr, msSet, mtAnd, mtOr, mtNot, mTru, mB, mCB, mCall, maCons, maNil, mVar, mC, mOp, mChain, mIf, mAndV, mOrV, mNotV, mLst, mTup, mMS, gI0, gLen, gEq, gNe, gEqS, gNeS, gIn, gAll, gStrip, truD, start0, dn, mLc, miS, mgName, wipeD, mYes, lcD, List.map_cons, List.map_nil, List.replicate, List.cons_append, List.nil_append, List.getElem?_cons_zero, List.getElem?_cons_succ, List.getElem?_nil, List.append_nil, gLe, gLt, Bool.not_true, Bool.not_false, Bool.false_eq_true, reduceIte, mCallL, gIx, miZ, gEqL, gNeL, mIsiT, mSl, moNone, moSome, gSl, miR1, gAdd, List.set_cons_zero, List.set_cons_succ, decide_true, eq_self, mMake, gRep, gInt]
      exact ⟨by decide, rfl, rfl, a, rfl, rfl, a, rfl, va, runD_mono (fun h => h _) f⟩
    · refine ms_at (e := [.dat (.int 1), .dat (.lst [a, b])]) rfl ?_
      dsimp only [msRet, msRetN, msSeq, msIf, msNext, msExpr, msSet, mtAnd, mtOr, mtNot, mTru, mB, mCB, mCall, maCons, maNil, mVar, mC, mOp, mChain, mIf, mAndV, mOrV, mNotV, mLst, mTup, mMS, gI0, gLen, gEq, gNe, gEqS, gNeS, gIn, gAll, gStrip, truD, start0, dn, mLc, miS, mgName, wipeD, mYes, lcD, List.map_cons, List.map_nil, List.replicate, List.cons_append, List.nil_append, List.getElem?_cons_zero, List.getElem?_cons_succ, List.getElem?_nil, List.append_nil, gLe, gLt, Bool.not_true, Bool.not_false, Bool.false_eq_true, reduceIte, mCallL, gIx, miZ, gEqL, gNeL, mIsiT, mSl, moNone, moSome, gSl, miR1, gAdd, List.set_cons_zero, List.set_cons_succ, decide_true, eq_self, mMake, gRep, gInt]
      exact ⟨by decide, rfl, rfl, by decide, rfl, rfl, a, rfl, b, rfl, rfl, a, b, rfl, va, vb, runD_mono (fun h => h _) f⟩
    · refine ms_at (e := [.dat (.int 2), .dat (.lst [a])]) rfl ?_
      dsimp only [msRet, msRetN, msSeq, msIf, msNext, msExpr, msSet, mtAnd, mtOr, mtNot, mTru, mB, mCB, mCall, maCons, maNil, mVar, mC, mOp, mChain, mIf, mAndV, mOrV, mNotV, mLst, mTup, mMS, gI0, gLen, gEq, gNe, gEqS, gNeS, gIn, gAll, gStrip, truD, start0, dn, mLc, miS, mgName, wipeD, mYes, lcD, List.map_cons, List.map_nil, List.replicate, List.cons_append, List.nil_append, List.getElem?_cons_zero, List.getElem?_cons_succ, List.getElem?_nil, List.append_nil, gLe, gLt, Bool.not_true, Bool.not_false, Bool.false_eq_true, reduceIte, mCallL, gIx, miZ, gEqL, gNeL, mIsiT, mSl, moNone, moSome, gSl, miR1, gAdd, List.set_cons_zero, List.set_cons_succ, decide_true, eq_self, mMake, gRep, gInt]
      exact ⟨by decide, rfl, rfl, a, rfl, rfl, a, rfl, va, runD_mono (fun h => h _) f⟩
    · refine ms_at (e := [.dat (.int 3), .dat (.lst [a, b])]) rfl ?_
      dsimp only [msRet, msRetN, msSeq, msIf, msNext, msExpr, msSet, mtAnd, mtOr, mtNot, mTru, mB, mCB, mCall, maCons, maNil, mVar, mC, mOp, mChain, mIf, mAndV, mOrV, mNotV, mLst, mTup, mMS, gI0, gLen, gEq, gNe, gEqS, gNeS, gIn, gAll, gStrip, truD, start0, dn, mLc, miS, mgName, wipeD, mYes, lcD, List.map_cons, List.map_nil, List.replicate, List.cons_append, List.nil_append, List.getElem?_cons_zero, List.getElem?_cons_succ, List.getElem?_nil, List.append_nil, gLe, gLt, Bool.not_true, Bool.not_false, Bool.false_eq_true, reduceIte, mCallL, gIx, miZ, gEqL, gNeL, mIsiT, mSl, moNone, moSome, gSl, miR1, gAdd, List.set_cons_zero, List.set_cons_succ, decide_true, eq_self, mMake, gRep, gInt]
      exact ⟨by decide, rfl, rfl, by decide, rfl, rfl, a, rfl, b, rfl, rfl, a, b, rfl, va, vb, runD_mono (fun h => h _) f⟩
    · refine ms_at (e := [.dat (.int 4), .dat (.lst [a, b])]) rfl ?_
      dsimp only [msRet, msRetN, msSeq, msIf, msNext, msExpr, msSet, mtAnd, mtOr, mtNot, mTru, mB, mCB, mCall, maCons, maNil, mVar, mC, mOp, mChain, mIf, mAndV, mOrV, mNotV, mLst, mTup, mMS, gI0, gLen, gEq, gNe, gEqS, gNeS, gIn, gAll, gStrip, truD, start0, dn, mLc, miS, mgName, wipeD, mYes, lcD, List.map_cons, List.map_nil, List.replicate, List.cons_append, List.nil_append, List.getElem?_cons_zero, List.getElem?_cons_succ, List.getElem?_nil, List.append_nil, gLe, gLt, Bool.not_true, Bool.not_false, Bool.false_eq_true, reduceIte, mCallL, gIx, miZ, gEqL, gNeL, mIsiT, mSl, moNone, moSome, gSl, miR1, gAdd, List.set_cons_zero, List.set_cons_succ, decide_true, eq_self, mMake, gRep, gInt]
      exact ⟨by decide, rfl, rfl, by decide, rfl, rfl, a, rfl, b, rfl, rfl, a, b, rfl, va, vb, runD_mono (fun h => h _) f⟩
    · refine ms_at (e := [.dat (.int 5), .dat (.lst [a, b])]) rfl ?_
      dsimp only [msRet, msRetN, msSeq, msIf, msNext, msExpr, msSet, mtAnd, mtOr, mtNot, mTru, mB, mCB, mCall, maCons, maNil, mVar, mC, mOp, mChain, mIf, mAndV, mOrV, mNotV, mLst, mTup, mMS, gI0, gLen, gEq, gNe, gEqS, gNeS, gIn, gAll, gStrip, truD, start0, dn, mLc, miS, mgName, wipeD, mYes, lcD, List.map_cons, List.map_nil, List.replicate, List.cons_append, List.nil_append, List.getElem?_cons_zero, List.getElem?_cons_succ, List.getElem?_nil, List.append_nil, gLe, gLt, Bool.not_true, Bool.not_false, Bool.false_eq_true, reduceIte, mCallL, gIx, miZ, gEqL, gNeL, mIsiT, mSl, moNone, moSome, gSl, miR1, gAdd, List.set_cons_zero, List.set_cons_succ, decide_true, eq_self, mMake, gRep, gInt]
      exact ⟨by decide, rfl, rfl, by decide, rfl, rfl, a, rfl, b, rfl, rfl, a, b, rfl, va, vb, runD_mono (fun h => h _) f⟩
    · refine ms_at (e := [.dat (.int 6), .dat (.lst [a, b, c])]) rfl ?_
      dsimp only [msRet, msRetN, msSeq, msIf, msNext, msExpr, msSet, mtAnd, mtOr, mtNot, mTru, mB, mCB, mCall, maCons, maNil, mVar, mC, mOp, mChain, mIf, mAndV, mOrV, mNotV, mLst, mTup, mMS, gI0, gLen, gEq, gNe, gEqS, gNeS, gIn, gAll, gStrip, truD, start0, dn, mLc, miS, mgName, wipeD, mYes, lcD, List.map_cons, List.map_nil, List.replicate, List.cons_append, List.nil_append, List.getElem?_cons_zero, List.getElem?_cons_succ, List.getElem?_nil, List.append_nil, gLe, gLt, Bool.not_true, Bool.not_false, Bool.false_eq_true, reduceIte, mCallL, gIx, miZ, gEqL, gNeL, mIsiT, mSl, moNone, moSome, gSl, miR1, gAdd, List.set_cons_zero, List.set_cons_succ, decide_true, eq_self, mMake, gRep, gInt]
      exact ⟨by decide, rfl, rfl, a, rfl, b, rfl, c, rfl, rfl, a, b, c, rfl, va, vb, vc, runD_mono (fun h => h _) f⟩
    · refine ms_at (e := [.dat (.int 7), .dat (.lst [a, b, c, d])]) rfl ?_
      dsimp only [msRet, msRetN, msSeq, msIf, msNext, msExpr, msSet, mtAnd, mtOr, mtNot, mTru, mB, mCB, mCall, maCons, maNil, mVar, mC, mOp, mChain, mIf, mAndV, mOrV, mNotV, mLst, mTup, mMS, gI0, gLen, gEq, gNe, gEqS, gNeS, gIn, gAll, gStrip, truD, start0, dn, mLc, miS, mgName, wipeD, mYes, lcD, List.map_cons, List.map_nil, List.replicate, List.cons_append, List.nil_append, List.getElem?_cons_zero, List.getElem?_cons_succ, List.getElem?_nil, List.append_nil, gLe, gLt, Bool.not_true, Bool.not_false, Bool.false_eq_true, reduceIte, mCallL, gIx, miZ, gEqL, gNeL, mIsiT, mSl, moNone, moSome, gSl, miR1, gAdd, List.set_cons_zero, List.set_cons_succ, decide_true, eq_self, mMake, gRep, gInt]
      exact ⟨by decide, rfl, rfl, a, rfl, b, rfl, c, rfl, d, rfl, rfl, a, b, c, d, rfl, va, vb, vc, vd, runD_mono (fun h => h _) f⟩
    · refine ms_at (e := [.dat (.int 8), .dat (.lst [a, b])]) rfl ?_
      dsimp only [msRet, msRetN, msSeq, msIf, msNext, msExpr, msSet, mtAnd, mtOr, mtNot, mTru, mB, mCB, mCall, maCons, maNil, mVar, mC, mOp, mChain, mIf, mAndV, mOrV, mNotV, mLst, mTup, mMS, gI0, gLen, gEq, gNe, gEqS, gNeS, gIn, gAll, gStrip, truD, start0, dn, mLc, miS, mgName, wipeD, mYes, lcD, List.map_cons, List.map_nil, List.replicate, List.cons_append, List.nil_append, List.getElem?_cons_zero, List.getElem?_cons_succ, List.getElem?_nil, List.append_nil, gLe, gLt, Bool.not_true, Bool.not_false, Bool.false_eq_true, reduceIte, mCallL, gIx, miZ, gEqL, gNeL, mIsiT, mSl, moNone, moSome, gSl, miR1, gAdd, List.set_cons_zero, List.set_cons_succ, decide_true, eq_self, mMake, gRep, gInt]
      exact ⟨by decide, rfl, rfl, by decide, rfl, rfl, a, rfl, b, rfl, rfl, a, b, rfl, va, vb, runD_mono (fun h => h _) f⟩
    · refine ms_at (e := [.dat (.int 9), .dat (.lst [a])]) rfl ?_
      dsimp only [msRet, msRetN, msSeq, msIf, msNext, msExpr, msSet, mtAnd, mtOr, mtNot, mTru, mB, mCB, mCall, maCons, maNil, mVar, mC, mOp, mChain, mIf, mAndV, mOrV, mNotV, mLst, mTup, mMS, gI0, gLen, gEq, gNe, gEqS, gNeS, gIn, gAll, gStrip, truD, start0, dn, mLc, miS, mgName, wipeD, mYes, lcD, List.map_cons, List.map_nil, List.replicate, List.cons_append, List.nil_append, List.getElem?_cons_zero, List.getElem?_cons_succ, List.getElem?_nil, List.append_nil, gLe, gLt, Bool.not_true, Bool.not_false, Bool.false_eq_true, reduceIte, mCallL, gIx, miZ, gEqL, gNeL, mIsiT, mSl, moNone, moSome, gSl, miR1, gAdd, List.set_cons_zero, List.set_cons_succ, decide_true, eq_self, mMake, gRep, gInt]
      exact ⟨by decide, rfl, rfl, a, rfl, rfl, a, rfl, va, runD_mono (fun h => h _) f⟩
end
end K12

set_option Elab.async false
set_option linter.all false
set_option maxRecDepth 100000
set_option maxHeartbeats 4000000
namespace K12
open PySem PySem.Spec PyProof.Rows L2 DL
theorem get_glo {K : Fg} {h : Heap} {mg : Str → Option Value} (X : K.In h) (N : h.Ns mainGlobals mg) (c : He.SaysD fa fn K) : Glo K mg where
  g := fun z hz => He.glo_ok X N (c.facts (List.mem_append_left _ (List.mem_map_of_mem hz)))
  n := fun z hz => He.free_ok X N (c.facts (List.mem_append_right _ (List.mem_append_left _ (List.mem_map_of_mem hz))))
  hL := He.str_ok X N (c.facts (f := .str "LETTERS" "abcdefghijklmnopqrstuvwxyz") (List.mem_append_right _ (List.mem_append_right _ (by simp))))
  hA := He.str_ok X N (c.facts (f := .str "LETTERS_AND_DIGITS" "abcdefghijklmnopqrstuvwxyz0123456789") (List.mem_append_right _ (List.mem_append_right _ (by simp))))
  hN := He.int_ok X N (c.facts (f := .int "LONGEST_NAME" 4) (List.mem_append_right _ (List.mem_append_right _ (by simp))))
  hT := He.int_ok X N (c.facts (f := .int "LONGEST_TEXT" 6) (List.mem_append_right _ (List.mem_append_right _ (by simp))))
structure Exf (K : Fg) : Prop where
  kls : Kls K
  kst : Kst K
  khp : Khp K
  oex : OexC K (iS K)
  ini : PySem.W.findIn K (.ref (iS K)) "__init__" = some (some (.ref (He.ma K (iS K) "__init__")))
  fun_ : PySem.W.typeIn K (.ref (He.ma K (iS K) "__init__")) = some (.type "function")
  now : PySem.W.findIn K (.ref (iS K)) "word" = some none
  xf : XfC K (iS K)
  exc : ExcC K (iS K)
  self_ : PySem.W.exmOne K (.ref (iS K)) (.ref (iS K)) = some true
  base_ : PySem.W.kitOne K (.ref (iS K)) (.ref (He.ga K "TableError")) = some true
  dfl : ∀ H, SqT K H (He.dflAt ("Table", some "__init__") 0 K) []
theorem get_exf {K : Fg} (e : ex K = true) : Exf K := by
  unfold ex at e
  obtain ⟨e1, e⟩ := b2 e
  obtain ⟨e2, e⟩ := b2 e
  obtain ⟨e3, e⟩ := b2 e
  obtain ⟨e4, e⟩ := b2 e
  obtain ⟨e5, e⟩ := b2 e
  obtain ⟨e6, e⟩ := b2 e
  obtain ⟨e7, e⟩ := b2 e
  obtain ⟨e8, e⟩ := b2 e
  obtain ⟨e9, e⟩ := b2 e
  obtain ⟨e10, e⟩ := b2 e
  obtain ⟨e11, e⟩ := b2 e
  obtain ⟨e12, e⟩ := b2 e
  obtain ⟨e13, e⟩ := b2 e
  obtain ⟨e14, e15⟩ := b2 e
  have a12 := List.all_eq_true.mp e12
  have a15 := List.all_eq_true.mp e15
  obtain ⟨i13, t13⟩ := b2 e13
  obtain ⟨p13, h13⟩ := b2 i13
  obtain ⟨i14, t14⟩ := b2 e14
  obtain ⟨p14, h14⟩ := b2 i14
  have mem : ∀ {C : Addr}, C = cPick K ∨ C = cHas K ∨ C = cTable K → C ∈ [cPick K, cHas K, cTable K] := fun {C} z => by
    rcases z with rfl | rfl | rfl <;> simp
  obtain ⟨q1, q2⟩ := initB_ok e2
  exact {
    kls := {
      part := fun H => He.tupB_ok (vs := [.str "as", .str "by", .str "to", .str "end"]) e10 H
      seq := fun C z => kitB_ok (b2 (a12 C (mem z))).1
      str := fun C z => kitB_ok (b2 (a12 C (mem z))).2
      isC := fun C z => by
        rcases z with rfl | rfl | rfl
        · exact isC_ok e7
        · exact isC_ok e8
        · exact isC_ok e9 }
    kst := {
      bst := fun T hT => kitB_ok (b2 (a15 T hT)).1
      hst := fun C z => by
        rcases z with rfl | rfl
        · exact kitB_ok p13
        · exact kitB_ok h13
      tst := kitB_ok t13 }
    khp := {
      bst := fun T hT => kitB_ok (b2 (a15 T hT)).2
      hst := fun C z => by
        rcases z with rfl | rfl
        · exact kitB_ok p14
        · exact kitB_ok h14
      tst := kitB_ok t14 }
    oex := oexB_ok e1
    ini := q1
    fun_ := q2
    now := nofB_ok e3
    xf := xfB_ok (b2 e4).1
    exc := excC_ok e4
    self_ := of_decide_eq_true e5
    base_ := of_decide_eq_true e6
    dfl := fun H => tupAtB_ok (vs := []) e11 H }
section
variable {P : Program} {w : World} {K : Fg} {mg : Str → Option Value} {base : Heap}
/-- all that stands below _law_step -/
structure Low (P : Program) (w : World) (K : Fg) (mg : Str → Option Value) (base : Heap) : Prop where
  pick : Fn P w K mg base "_law_pick" 2 1 true gOneOf
  draw : Fn P w K mg base "_law_draw" 1 1 true gDraw
  good : Fn P w K mg base "_law_good" 6 1 true (gGood K)
  odd : Fn P w K mg base "_law_odd" 6 0 true (gOdd K)
  sorts : Fn P w K mg base "_law_sorts" 1 1 false gSorts
  fits : Fn P w K mg base "_law_fits" 3 2 false (gFits K)
theorem low (G : Glo K mg) (c : He.SaysD fa fn K) (x : Exf K) : Low P w K mg base := by
  have exs : Exs P w K mg base := ok_exs c x.oex x.ini x.fun_ x.now
  have f1 : Fn P w K mg base "is_sequence" 1 1 false (gSeq K) := ok_is_sequence G c x.kls
  have f2 : Fn P w K mg base "is_word" 1 3 false (gWord K) := ok_is_word G c x.kls
  have f3 : Fn P w K mg base "is_name" 2 1 false (gName K) := ok_is_name G c f2 x.kls
  have f4 : Fn P w K mg base "are_names" 3 2 false (gNames K) := ok_are_names G c f1 f3
  have f5 : Fn P w K mg base "need" 3 2 false (gNeed K) := ok_need G c exs
  have mP : Mkr P w K mg base "Pick" (He.ga K "Pick") 4 1 (gPick K) := ok_Pick_init G c f4 f5
  have mH : Mkr P w K mg base "Has" (He.ga K "Has") 4 1 (gHas K) := ok_Has_init G c f3 f5
  have d1 : Fn P w K mg base "_law_draw" 1 1 true gDraw := ok_law_draw G c
  have d2 : Fn P w K mg base "_law_pick" 2 1 true gOneOf := ok_law_pick G c d1
  have w1 : Fn P w K mg base "_law_is_word" 1 3 false (gLWord K) := ok_law_is_word G c x.kls
  have t1 : Fn P w K mg base "_law_fits" 2 2 false (gFits1 K) := ok_law_fits G c w1 (ok_law_fits0 G c) x.kls
  have r1 : Fn P w K mg base "rows_left" 2 1 false gAsc0 := ok_rows_left G c (ok_ascending G c) (ok_with_places G c) (ok_unlike_places G c)
  have mT : MkrD P w K mg base "Table" (He.ga K "Table") 4 2 (gTable K) [.ref (He.dflAt ("Table", some "__init__") 0 K)] [.tup []] := by
    obtain ⟨fd, ds, u1, u2, u3⟩ := ok_Table_init (w := w) (P := P) (base := base) G c f4 (ok_need_rows G c f1) r1
    exact ⟨_, fd, _, ds, He.mkr_ok (c.facts (f := .mkr "Table") (List.mem_append_right _ (List.mem_append_right _ (by simp)))), u1, G.g "Table" (by decide), u2, u3, fun G1 => .cons (.tup (x.dfl G1) .nil) .nil⟩
  exact ⟨d2, d1, ok_law_good G c d2 mP mH, ok_law_odd G c d2 mH mT, ok_law_sorts G c, ok_law_fits2 G c w1 t1 x.kls x.khp⟩
end
end K12

set_option Elab.async false
set_option linter.all false
set_option maxRecDepth 100000
set_option maxHeartbeats 4000000
namespace K12
open PySem PySem.Spec PyProof.Rows L2 DL
section
variable {P : Program} {w : World} {K : Fg} {mg : Str → Option Value} {base : Heap}
/-- the word of the first check that does not hold -/
def badD : List (Bool × Str) → D
  | [] => .non
  | (b, w) :: r => if b = true then badD r else .str w
theorem sc_law_told : FnScope ["_law_form", "_law_given", "_law_found", "e"] ["_law_form", "_law_given"] (defScope s_law_told) := ⟨rfl, rfl, rfl, by decide +kernel, rfl, by decide +kernel, by decide +kernel⟩
def gTold (K : Fg) : FF := fun ds F _ => ∃ cs, (∀ (F' : D → Prop) (X' : XC), runD K (∀ o, F' o) X' cs → gStepL K ds F' X') ∧ F (badD cs)
theorem run_of {K : Fg} {A : Prop} {X : XC} : ∀ cs : List (Bool × Str), (badD cs = .non → A) → (∀ z, badD cs = .str z → X (iS K, [("word", .str z)])) → runD K A X cs
  | [], h1, _ => h1 rfl
  | (b, w) :: cs, h1, h2 => by
    unfold runD
    unfold badD at h1 h2
    split
    · rename_i e
      rw [if_pos e] at h1
      exact run_of cs h1 fun z hz => h2 z (by rw [if_pos e]; exact hz)
    · rename_i e
      exact h2 w (by rw [if_neg e])
theorem ok_law_told (G : Glo K mg) (c : He.SaysD fa fn K) (x : Exf K) (H_law_step : Fn P w K mg base "_law_step" 6 2 false (gStepL K)) : Fn P w K mg base "_law_told" 7 2 false (gTold K) := by
  obtain ⟨fd, F⟩ := c.defs (d := dfn ("_law_told", none) "_law_told" "_law_told" s_law_told) (by unfold fn; simp)
  replace F : FunD K "_law_told" "_law_told" (defArgs s_law_told) (defBody s_law_told) (defScope s_law_told) [] [] (He.ga K "_law_told") fd := F
  refine ⟨_, fd, ["_law_form", "_law_given"], ?_, G.g "_law_told" (by decide), F.kp, F.bindsN fun _ _ _ _ _ _ us hl => match us, hl with | [_, _], _ => rfl⟩
  have nd : (["_law_form", "_law_given", "_law_found", "e"] : List Str).Nodup := sc_law_told.nd
  apply fn_okE (k := 6) (N := ["_law_form", "_law_given", "_law_found", "e"]) F sc_law_told rfl (by decide)
  intro c cdv A outer s H E hr
  have hu := hr.units
  have tk := takes_of (X := cxOf (L2.CX P w) P w K mg base ["_law_form", "_law_given", "_law_found", "e"] "_law_told" (defScope s_law_told) (He.ga K "_law_told") cdv A outer s H E) rfl rfl rfl rfl
  apply Exists.intro
  apply Exists.intro
  apply And.intro
  · refine (dss_cons (ds_set 2 nd rfl (.inl rfl) de_non) (dss_cons (ds_tryF 3 (C := iS K) (cv := .ref (iS K)) rfl rfl nd rfl rfl ?n tk x.self_ (fun W2 pn xe t2 => dss_one (ds_expr (de_f H_law_step (hr.mono (by decide)) rfl t2 (da_cons (de_var 0) (da_cons (de_var 1) da_nil)))))
      (fun a oe d pn hz hf => dss_one (ds_set 2 nd rfl (.inl rfl) (de_if (dt_truth (de_isX 3 x.exc hz hf rfl (G.n "isinstance" (by decide)) (pv 3) (de_glob (v := .ref (He.ga K "TableError")) rfl (G.g "TableError" (by decide)) rfl (fun _ => .fx _)))) (de_exf 3 x.xf x.now hz hf (pv 3)) de_str)))) (dss_one (ds_ret (de_var 2)))))
    exact ⟨rfl, by decide, .inl (G.g "InvalidStep" (by decide))⟩
  · intro ds F1 X1 hn h
    obtain ⟨cs, hc, f⟩ := h
    match ds, hn with
    | [p, q], _ =>
      refine ms_at (e := [.dat p, .dat q, .un, .un]) rfl ?_
      dsimp only [msRet, msRetN, msSeq, msIf, msNext, msExpr, msSet, mtAnd, mtOr, mtNot, mTru, mB, mCB, mCall, maCons, maNil, mVar, mC, mOp, mChain, mIf, mAndV, mOrV, mNotV, mLst, mTup, mMS, gI0, gLen, gEq, gNe, gEqS, gNeS, gIn, gAll, gStrip, truD, start0, dn, mLc, miS, mgName, wipeD, mYes, lcD, List.map_cons, List.map_nil, List.replicate, List.cons_append, List.nil_append, List.getElem?_cons_zero, List.getElem?_cons_succ, List.getElem?_nil, List.append_nil, gLe, gLt, Bool.not_true, Bool.not_false, Bool.false_eq_true, reduceIte, mCallL, gIx, miZ, gEqL, gNeL, mIsiT, mSl, moNone, moSome, gSl, miR1, gAdd, List.set_cons_zero, List.set_cons_succ, decide_true, eq_self, msTry, mExf, mIsX]
      refine ⟨rfl, hc _ _ (run_of cs (fun e _ => ?_) fun z e => ?_)⟩
      · rw [e] at f
        exact f
      · rw [e] at f
        refine .inl ⟨rfl, fun a d => ⟨⟨rfl, rfl⟩, .ref (He.ga K "TableError"), true, .own _, x.base_, ?_⟩⟩
        exact ⟨rfl, rfl, .str z, by simp [List.lookup], f⟩
end
end K12

set_option Elab.async false
set_option linter.all false
set_option maxRecDepth 100000
set_option maxHeartbeats 4000000
namespace K12
open PySem PySem.Spec PyProof.Rows L2 DL
def intsD (ns : List Int) : List D := ns.map D.int
def gDeal : FF := fun ds F _ => ∃ ns : List Int, ns.length ≤ 63 ∧ ds = [.scr (intsD ns), .int 0] ∧ ∀ (ms : List Int) (m : Int), ms.length ≤ 1000 → (∀ n ∈ ms, 0 ≤ n) → 0 ≤ m → m < 2147483647 → F (.lst [.lst (intsD ms), .int m])
def absI (i : Int) : Int := if i < 0 then -i else i
theorem absI_pos (i : Int) : 0 ≤ absI i := by unfold absI; split <;> omega
def absD : D → D
  | .int i => .int (absI i)
  | d => d
def bigD : D → Bool
  | .int i => decide ((10 : Int) ^ 18 ≤ i)
  | _ => false
theorem abs_ints (ns : List Int) : (intsD ns).map absD = intsD (ns.map absI) := by unfold intsD; rw [List.map_map, List.map_map]; rfl
theorem big_ints (ns : List Int) : (intsD ns).filter bigD = intsD (ns.filter fun i => decide ((10 : Int) ^ 18 ≤ i)) := by
  unfold intsD
  rw [List.filter_map]
  rfl
theorem cut_ints (ns : List Int) (lo hi : Option Int) : DL.cutD (intsD ns) lo hi = intsD (DL.cutD ns lo hi) := by
  unfold DL.cutD intsD
  rw [List.length_map, List.map_take, List.map_drop]
theorem cut_len (ns : List Int) (lo hi : Option Int) : (DL.cutD ns lo hi).length ≤ ns.length := by
  unfold DL.cutD
  rw [List.length_take, List.length_drop]
  omega
theorem of_ints {ns : List Int} {d : D} (h : d ∈ intsD ns) : ∃ i, d = .int i ∧ i ∈ ns := by
  obtain ⟨i, h1, h2⟩ := List.mem_map.mp h
  exact ⟨i, h2.symm, h1⟩
section
variable {P : Program} {w : World} {K : Fg} {mg : Str → Option Value} {base : Heap}
theorem sc_law_deal : FnScope ["_law_script", "_law_base", "_law_numbers", "_law_mixed", "_law_cell"] ["_law_script", "_law_base"] (defScope s_law_deal) := ⟨rfl, rfl, rfl, by decide +kernel, rfl, by decide +kernel, by decide +kernel⟩
theorem ok_law_deal (G : Glo K mg) (c : He.SaysD fa fn K) : Fn P w K mg base "_law_deal" 1 2 false (gDeal) := by
  obtain ⟨fd, F⟩ := c.defs (d := dfn ("_law_deal", none) "_law_deal" "_law_deal" s_law_deal) (by unfold fn; simp)
  replace F : FunD K "_law_deal" "_law_deal" (defArgs s_law_deal) (defBody s_law_deal) (defScope s_law_deal) [] [] (He.ga K "_law_deal") fd := F
  refine ⟨_, fd, ["_law_script", "_law_base"], ?_, G.g "_law_deal" (by decide), F.kp, F.bindsN fun _ _ _ _ _ _ us hl => match us, hl with | [_, _], _ => rfl⟩
  have nd : (["_law_script", "_law_base", "_law_numbers", "_law_mixed", "_law_cell"] : List Str).Nodup := sc_law_deal.nd
  obtain ⟨_, h_LETTERS⟩ := G.hL
  obtain ⟨_, h_LAD⟩ := G.hA
  obtain ⟨_, h_LN⟩ := G.hN
  obtain ⟨_, h_LT⟩ := G.hT
  apply fn_okE (k := 0) (N := ["_law_script", "_law_base", "_law_numbers", "_law_mixed", "_law_cell"]) F sc_law_deal rfl (by decide)
  intro c cdv A outer s H E hr
  have hu := hr.units
  have tk := takes_of (X := cxOf (L2.CX P w) P w K mg base ["_law_script", "_law_base", "_law_numbers", "_law_mixed", "_law_cell"] "_law_deal" (defScope s_law_deal) (He.ga K "_law_deal") cdv A outer s H E) rfl rfl rfl rfl
  apply Exists.intro
  apply Exists.intro
  apply And.intro
  · exact (dss_cons (ds_setLcF 2 (own := [("_law_cell", 4)]) rfl nd rfl rfl rfl (dic_of (di_seq (de_sl (de_var 0) (do_some (de_var 1)) (do_some de_int)))) (blkOk_by (show blkC ["_law_script", "_law_base", "_law_numbers", "_law_mixed", "_law_cell"] (defScope s_law_deal) _ _ = true from by decide +kernel)) (by decide) (fun s H C cl fp => (dg_name 4 nd rfl (by first | exact .inl rfl | exact .inr rfl))) (fun s H C cl fp => dts_nil) (fun s H C cl fp => (de_callB call_abs cd_abs rfl (G.n "abs" (by decide)) (by decide +kernel) (da_cons (de_var 4) da_nil))))
    (dss_cons (ds_set 3 nd rfl (.inl rfl) (de_op op_addA rd_add de_int (de_op op_mulA rd_mul de_int (de_var 1))))
    (dss_cons (ds_for (passes_of rfl) rfl (di_seq (de_var 2)) (dg_name 4 nd rfl (by first | exact .inl rfl | exact .inr rfl)) (dss_one (ds_set 3 nd rfl (.inl rfl) (de_op op_mod rd_mod (de_callTy call_int1 cd_int rfl (G.n "int" (by decide)) (by decide +kernel) (da_cons (de_op op_addA rd_add (de_op op_mulA rd_mul (de_var 3) de_int) (de_op op_mod rd_mod (de_callTy call_int1 cd_int rfl (G.n "int" (by decide)) (by decide +kernel) (da_cons (de_var 4) da_nil)) de_int)) da_nil)) de_int))))
    (dss_one (ds_ret (de_lst (da_cons (de_rev (de_lcF (own := [("_law_cell", 4)]) rfl nd (dic_of (di_seq (de_var 2))) (blkOk_by (show blkC ["_law_script", "_law_base", "_law_numbers", "_law_mixed", "_law_cell"] (defScope s_law_deal) _ _ = true from by decide +kernel)) (by decide) (fun s H C cl fp => (dg_name 4 nd rfl (by first | exact .inl rfl | exact .inr rfl))) (fun s H C cl fp => (dts_one (dt_cmp op_ge rd_ge (de_var 4) (de_op op_pow rd_pow de_int de_int) (nomark _)))) (fun s H C cl fp => (de_var 4)))) (da_cons (de_var 3) da_nil))))))))
  · intro ds F1 X1 hn h
    obtain ⟨ns, hl, rfl, f⟩ := h
    refine ms_at (e := [.dat (.scr (intsD ns)), .dat (.int 0), .un, .un, .un]) rfl ?_
    dsimp only [msRet, msRetN, msSeq, msIf, msNext, msExpr, msSet, mtAnd, mtOr, mtNot, mTru, mB, mCB, mCall, maCons, maNil, mVar, mC, mOp, mChain, mIf, mAndV, mOrV, mNotV, mLst, mTup, mMS, gI0, gLen, gEq, gNe, gEqS, gNeS, gIn, gAll, gStrip, truD, start0, dn, mLc, miS, mgName, wipeD, mYes, lcD, List.map_cons, List.map_nil, List.replicate, List.cons_append, List.nil_append, List.getElem?_cons_zero, List.getElem?_cons_succ, List.getElem?_nil, List.append_nil, gLe, gLt, Bool.not_true, Bool.not_false, Bool.false_eq_true, reduceIte, mCallL, gIx, miZ, gEqL, gNeL, mIsiT, mSl, moNone, moSome, gSl, miR1, gAdd, List.set_cons_zero, List.set_cons_succ, decide_true, eq_self, mMake, gRep, gInt, msFor, gAbs, mRev, gGe, gMod, gPow, gI]
    generalize hx : DL.cutD (intsD ns) (some 0) (some 60) = xd
    rw [cut_ints] at hx
    subst hx
    have l1 := Nat.le_trans (cut_len ns (some 0) (some 60)) hl
    have l2 : ∀ xs : List Int, xs.length ≤ 63 → (intsD xs).length < sizeLine := fun xs h => by
      unfold intsD
      rw [List.length_map]
      exact Nat.lt_of_le_of_lt h (by decide)
    generalize DL.cutD ns (some 0) (some 60) = xs at l1
    refine ⟨_, rfl, l2 _ l1, ?_⟩
    refine lcD_map (i := 4) (f := absD) _ (fun d hd F' q => ?_) ?_
    · obtain ⟨i, rfl, _⟩ := of_ints hd
      exact q
    rw [abs_ints]
    have l3 : (xs.map absI).length ≤ 63 := by rw [List.length_map]; exact l1
    have p3 : ∀ n ∈ xs.map absI, 0 ≤ n := fun n hn => by
      obtain ⟨i, _, rfl⟩ := List.mem_map.mp hn
      exact absI_pos i
    generalize xs.map absI = ms at l3 p3
    refine ⟨.inr (by decide), _, rfl, ?_⟩
    refine forD_inv (fun δ => ∃ (m : Int) (x : Sl), 0 ≤ m ∧ m < 2147483647 ∧ δ = [.dat (.scr (intsD ns)), .dat (.int 0), .dat (.lst (intsD ms)), .dat (.int m), x]) _ _ (fun d hd δ i k' q => ?_) ⟨_, _, by decide, by decide, rfl⟩ (fun δ i => ?_)
    · obtain ⟨m, x, h1, h2, rfl⟩ := i
      obtain ⟨n, rfl, _⟩ := of_ints hd
      exact ⟨.inr (by decide), (show (0 : Int) < 2147483629 from by decide), (show (0 : Int) < 2147483647 from by decide), q _ ⟨_, _, Int.emod_nonneg _ (by decide), Int.emod_lt_of_pos _ (by decide), rfl⟩⟩
    · obtain ⟨m, x, h1, h2, rfl⟩ := i
      refine ⟨_, rfl, l2 _ l3, ?_⟩
      refine lcD_if (i := 4) (p := bigD) (f := id) _ (fun d hd F' q => ?_) (fun d hd _ F' q => q) ?_
      · obtain ⟨i, rfl, _⟩ := of_ints hd
        exact ⟨⟨by decide, by decide, by decide⟩, q⟩
      · rw [List.map_id, big_ints]
        refine ⟨(show 2 ≤ sizeLine from by decide), ?_⟩
        have e : (intsD (ms.filter fun i => decide ((10 : Int) ^ 18 ≤ i))).reverse = intsD (ms.filter fun i => decide ((10 : Int) ^ 18 ≤ i)).reverse := by unfold intsD; rw [List.map_reverse]
        rw [e]
        refine f _ _ ?_ (fun n hn => p3 n (List.mem_filter.mp (List.mem_reverse.mp hn)).1) h1 h2
        rw [List.length_reverse]
        exact Nat.le_trans (List.length_filter_le _ _) (Nat.le_trans l3 (by decide))
end
end K12

set_option Elab.async false
set_option linter.all false
set_option maxRecDepth 100000
set_option maxHeartbeats 4000000
namespace K12
open PySem PySem.Spec PyProof.Rows L2 DL
/-! the values that the law draws, and what fits -/
def v1B : D → Bool
  | .fx _ => false
  | .scr _ => false
  | .obj _ _ => false
  | .str z => decide (z.length ≤ 100) && PyData.strOk z
  | .lst ds => decide (ds.length ≤ 100)
  | .tup ds => decide (ds.length ≤ 100)
  | _ => true
theorem v1B_ok {K : Fg} : ∀ {d : D}, v1B d = true → V1 K d
  | .non, _ => ⟨trivial, trivial⟩
  | .bl _, _ => ⟨trivial, trivial⟩
  | .int _, _ => ⟨trivial, trivial⟩
  | .str z, h => by
    obtain ⟨h1, h2⟩ := b2 (show (decide (z.length ≤ 100) && PyData.strOk z) = true from h)
    exact ⟨trivial, of_decide_eq_true h1, h2⟩
  | .lst ds, h => by
    refine ⟨trivial, ?_⟩
    show ds.length ≤ 100
    exact of_decide_eq_true (show decide (ds.length ≤ 100) = true from h)
  | .tup ds, h => by
    refine ⟨trivial, ?_⟩
    show ds.length ≤ 100
    exact of_decide_eq_true (show decide (ds.length ≤ 100) = true from h)
  | .obj _ _, h => nomatch h
  | .fx _, h => nomatch h
  | .scr _, h => nomatch h
def v2B (d : D) : Bool := v1B d && (elD d).all v1B
theorem v2B_ok {K : Fg} {d : D} (h : v2B d = true) : V2 K d := by
  obtain ⟨h1, h2⟩ := b2 h
  exact ⟨v1B_ok h1, fun e he => v1B_ok (List.all_eq_true.mp h2 e he)⟩
/-- what the program asks of a sort -/
def chkD (K : Fg) (s : Str) (d : D) : Bool := if s = "name" then nameD d else if s = "text" then textD d else if s = "steps" then stepsD K d else namesD d (if s = "some" then 1 else 0)
def sorts5 : List Str := ["name", "text", "steps", "some", "any"]
def sameB (K : Fg) (d : D) : Bool := sorts5.all fun s => fitsD K s d == chkD K s d
def plainG (s : Str) : List D := if s = "name" then [.str "a", .str "id", .str "zzzz", .str "put", .str "n"] else if s = "text" then [.str "a", .str "0", .str "zz9zz9", .str "as", .str "end", .str "12"] else
  if s = "steps" then [.lst [], .tup []] else [aD, .tup [.str "a", .str "id"], .lst [.str "n", .str "put", .str "x"]] ++ (if s = "any" then [.tup []] else [])
def plainO : List D := [.str "", .str "A", .str "abcde", .str "as", .str "by", .str "to", .str "end", .str "a1", .str "1", .str "1234567", .str "a b", .non, .int 3, .bl true,
  .lst [], .tup [], .lst [.str "a", .str "a"], .lst [.str "as"], .lst [.str "a", .int 3], .lst [.non], .str "ab", .lst [.str "has a"], .tup [.lst [.str "a"]]]
def plainAll : List D := plainG "name" ++ plainG "text" ++ plainG "steps" ++ plainG "some" ++ plainG "any" ++ plainO
theorem plain_v2 : plainAll.all v2B = true := by decide +kernel
theorem plain_same : (plainAll.all (sameB [])) = true := by decide +kernel
theorem step_v1 {K : Fg} : ∀ {d : D}, v1B d = true → isStepD K d = false
  | .non, _ => rfl
  | .bl _, _ => rfl
  | .int _, _ => rfl
  | .str _, _ => rfl
  | .lst _, _ => rfl
  | .tup _, _ => rfl
  | .obj _ _, h => nomatch h
  | .fx _, h => nomatch h
  | .scr _, h => nomatch h
theorem fits_k {K : Fg} {s : Str} {d : D} (h : v2B d = true) : fitsD K s d = fitsD [] s d := by
  have h2 := (b2 h).2
  have e : (elD d).filter (fun e => !isStepD K e) = (elD d).filter (fun e => !isStepD [] e) := List.filter_congr fun e he => by
    have := List.all_eq_true.mp h2 e he
    rw [step_v1 this, step_v1 this]
  unfold fitsD fitsL
  rw [e]
theorem chk_k {K : Fg} {s : Str} {d : D} (h : v2B d = true) : chkD K s d = chkD [] s d := by
  have h2 := (b2 h).2
  have e : (elD d).all (isStepD K) = (elD d).all (isStepD []) := by
    rw [Bool.eq_iff_iff, List.all_eq_true, List.all_eq_true]
    constructor
    · intro a x hx
      have := a x hx
      rw [step_v1 (List.all_eq_true.mp h2 x hx)] at this
      cases this
    · intro a x hx
      have := a x hx
      rw [step_v1 (List.all_eq_true.mp h2 x hx)] at this
      cases this
  unfold chkD stepsD
  rw [e]
/-- all that is in the pool is known, and fits exactly if the program lets it by -/
structure Pl (K : Fg) (d : D) : Prop where
  v : V2 K d
  same : ∀ s ∈ sorts5, fitsD K s d = chkD K s d
theorem pl_plain {K : Fg} {d : D} (h : d ∈ plainAll) : Pl K d where
  v := v2B_ok (List.all_eq_true.mp plain_v2 d h)
  same := fun s hs => by
    have hv := List.all_eq_true.mp plain_v2 d h
    rw [fits_k hv, chk_k hv]
    exact beq_iff_eq.mp (List.all_eq_true.mp (List.all_eq_true.mp plain_same d h) s hs)
section
variable {K : Fg}
theorem ne_table (k : Kst K) {C : Addr} (h : C = cPick K ∨ C = cHas K) : C ≠ cTable K := fun e => by
  have h1 := k.hst C h
  rw [e, k.tst] at h1
  cases h1
theorem step_has (k : Kst K) : isStepD K (hasO K) = true := bne_iff_ne.mpr (ne_table k (.inr rfl))
theorem step_pick (k : Kst K) : isStepD K (pickO K) = true := bne_iff_ne.mpr (ne_table k (.inl rfl))
theorem v1_has : V1 K (hasO K) := ⟨.inr (.inl rfl), trivial⟩
theorem v1_pick : V1 K (pickO K) := ⟨.inl rfl, trivial⟩
theorem pl_tab : Pl K (tabO K) where
  v := ⟨⟨.inr (.inr rfl), trivial⟩, fun e he => nomatch he⟩
  same := fun s hs => by
    simp only [sorts5, List.mem_cons, List.not_mem_nil, or_false] at hs
    rcases hs with rfl | rfl | rfl | rfl | rfl <;> rfl
theorem pl_l1 (k : Kst K) : Pl K (.lst [hasO K]) where
  v := ⟨⟨trivial, (show 1 ≤ 100 from by decide)⟩, fun e he => by cases List.mem_singleton.mp he; exact v1_has⟩
  same := fun s hs => by
    simp only [sorts5, List.mem_cons, List.not_mem_nil, or_false] at hs
    rcases hs with rfl | rfl | rfl | rfl | rfl
    · rfl
    · rfl
    · show (true && ([hasO K].filter fun e => !isStepD K e).isEmpty) = (true && [hasO K].all (isStepD K))
      simp only [List.filter_cons, List.all_cons, step_has k]
      rfl
    · rfl
    · rfl
theorem pl_l2 (k : Kst K) : Pl K (.tup [pickO K, hasO K]) where
  v := ⟨⟨trivial, (show 2 ≤ 100 from by decide)⟩, fun e he => by
    rcases List.mem_cons.mp he with h | h
    · cases h; exact v1_pick
    · cases List.mem_singleton.mp h; exact v1_has⟩
  same := fun s hs => by
    simp only [sorts5, List.mem_cons, List.not_mem_nil, or_false] at hs
    rcases hs with rfl | rfl | rfl | rfl | rfl
    · rfl
    · rfl
    · show (true && ([pickO K, hasO K].filter fun e => !isStepD K e).isEmpty) = (true && [pickO K, hasO K].all (isStepD K))
      simp only [List.filter_cons, List.all_cons, step_has k, step_pick k]
      rfl
    · rfl
    · rfl
theorem pl_l3 (k : Kst K) : Pl K (.lst [hasO K, .int 3]) where
  v := ⟨⟨trivial, (show 2 ≤ 100 from by decide)⟩, fun e he => by
    rcases List.mem_cons.mp he with h | h
    · cases h; exact v1_has
    · cases List.mem_singleton.mp h; exact ⟨trivial, trivial⟩⟩
  same := fun s hs => by
    simp only [sorts5, List.mem_cons, List.not_mem_nil, or_false] at hs
    rcases hs with rfl | rfl | rfl | rfl | rfl
    · rfl
    · rfl
    · show (true && ([hasO K, .int 3].filter fun e => !isStepD K e).isEmpty) = (true && [hasO K, .int 3].all (isStepD K))
      simp only [List.filter_cons, List.all_cons, step_has k]
      rfl
    · rfl
    · rfl
theorem mem_plainG {s : Str} {d : D} (hs : s ∈ sorts5) (h : d ∈ plainG s) : d ∈ plainAll := by
  simp only [sorts5, List.mem_cons, List.not_mem_nil, or_false] at hs
  unfold plainAll
  simp only [List.mem_append]
  rcases hs with rfl | rfl | rfl | rfl | rfl <;> simp [h]
theorem goods_plain {s : Str} {d : D} (hs : s ∈ sorts5) (h : d ∈ goods K s) : d ∈ plainG s ∨ (s = "steps" ∧ (d = .lst [hasO K] ∨ d = .tup [pickO K, hasO K])) := by
  simp only [sorts5, List.mem_cons, List.not_mem_nil, or_false] at hs
  rcases hs with rfl | rfl | rfl | rfl | rfl
  · exact .inl h
  · exact .inl h
  · have h : d ∈ [D.lst [], .tup [], .lst [hasO K], .tup [pickO K, hasO K]] := h
    simp only [List.mem_cons, List.not_mem_nil, or_false] at h
    rcases h with rfl | rfl | rfl | rfl
    · exact .inl (show D.lst [] ∈ [D.lst [], .tup []] from by simp)
    · exact .inl (show D.tup [] ∈ [D.lst [], .tup []] from by simp)
    · exact .inr ⟨rfl, .inl rfl⟩
    · exact .inr ⟨rfl, .inr rfl⟩
  · exact .inl h
  · exact .inl h
theorem pl_good (k : Kst K) {s : Str} {d : D} (hs : s ∈ sorts5) (h : d ∈ goods K s) : Pl K d := by
  rcases goods_plain hs h with h | ⟨_, rfl | rfl⟩
  · exact pl_plain (mem_plainG hs h)
  · exact pl_l1 k
  · exact pl_l2 k
theorem plain_fits : (sorts5.all fun s => (plainG s).all fun d => fitsD [] s d) = true := by decide +kernel
theorem good_fits (k : Kst K) {s : Str} {d : D} (hs : s ∈ sorts5) (h : d ∈ goods K s) : fitsD K s d = true := by
  rcases goods_plain hs h with h | ⟨rfl, rfl | rfl⟩
  · rw [fits_k (List.all_eq_true.mp plain_v2 d (mem_plainG hs h))]
    exact List.all_eq_true.mp (List.all_eq_true.mp plain_fits s hs) d h
  · show (true && ([hasO K].filter fun e => !isStepD K e).isEmpty) = true
    simp only [List.filter_cons, step_has k]
    rfl
  · show (true && ([pickO K, hasO K].filter fun e => !isStepD K e).isEmpty) = true
    simp only [List.filter_cons, step_has k, step_pick k]
    rfl
theorem pl_odd (k : Kst K) {d : D} (h : d ∈ odds K) : Pl K d := by
  have h : d ∈ plainO ∨ d = tabO K ∨ d = .lst [hasO K, .int 3] := by
    have e : odds K = plainO.take 14 ++ (tabO K :: ((plainO.drop 14).take 7 ++ (D.lst [hasO K, .int 3] :: plainO.drop 21))) := rfl
    rw [e] at h
    rcases List.mem_append.mp h with h | h
    · exact .inl (List.mem_of_mem_take h)
    rcases List.mem_cons.mp h with h | h
    · exact .inr (.inl h)
    rcases List.mem_append.mp h with h | h
    · exact .inl (List.mem_of_mem_drop (List.mem_of_mem_take h))
    rcases List.mem_cons.mp h with h | h
    · exact .inr (.inr h)
    · exact .inl (List.mem_of_mem_drop h)
  rcases h with h | rfl | rfl
  · refine pl_plain ?_
    unfold plainAll
    exact List.mem_append_right _ h
  · exact pl_tab
  · exact pl_l3 k
end
end K12

set_option Elab.async false
set_option linter.all false
set_option maxRecDepth 100000
set_option maxHeartbeats 4000000
namespace K12
open PySem PySem.Spec PyProof.Rows L2 DL
def badP (K : Fg) (ps : List ((Str × Str) × D)) : D := badD (ps.map fun p => (fitsD K p.1.2 p.2, p.1.1))
def wr (K : Fg) (ps : List ((Str × Str) × D)) : List D := (ps.filter fun p => !fitsD K p.1.2 p.2).map fun p => .str p.1.1
def fst0 : List D → D
  | [] => .non
  | d :: _ => d
theorem bad_wr {K : Fg} : ∀ ps : List ((Str × Str) × D), badP K ps = fst0 (wr K ps)
  | [] => rfl
  | p :: ps => by
    unfold badP wr
    rw [List.map_cons]
    unfold badD
    cases e : fitsD K p.1.2 p.2 with
    | true =>
      rw [if_pos rfl, List.filter_cons_of_neg (by rw [e]; decide)]
      exact bad_wr ps
    | false =>
      rw [if_neg (by decide), List.filter_cons_of_pos (by rw [e]; decide)]
      rfl
theorem chk_name {K : Fg} {d : D} : chkD K "name" d = nameD d := rfl
theorem chk_text {K : Fg} {d : D} : chkD K "text" d = textD d := rfl
theorem chk_steps {K : Fg} {d : D} : chkD K "steps" d = stepsD K d := rfl
theorem chk_some {K : Fg} {d : D} : chkD K "some" d = namesD d 1 := rfl
theorem chk_any {K : Fg} {d : D} : chkD K "any" d = namesD d 0 := rfl
theorem told_ex {K : Fg} {i : Int} {r : List (Str × Str)} (i0 : 0 ≤ i) (i1 : i < 10) (e : L2.atI sortsL i = some r) {bs : List D} (hl : bs.length = r.length) (hp : ∀ b ∈ bs, Pl K b) :
    ∃ cs, (∀ (F' : D → Prop) (X' : XC), runD K (∀ o, F' o) X' cs → gStepL K [.int i, .lst bs] F' X') ∧ badD cs = badP K (r.zip bs) := by
  have hi : i = 0 ∨ i = 1 ∨ i = 2 ∨ i = 3 ∨ i = 4 ∨ i = 5 ∨ i = 6 ∨ i = 7 ∨ i = 8 ∨ i = 9 := by omega
  rcases hi with rfl | rfl | rfl | rfl | rfl | rfl | rfl | rfl | rfl | rfl
  · obtain rfl := Option.some.inj (show some [(("columns" : Str), ("some" : Str))] = some r from e)
    match bs, hl, hp with
    | [a], _, hp =>
      have pa := hp a (by simp)
      refine ⟨[(chkD K "some" a, "columns")], fun F X h => ?_, ?_⟩
      · rw [chk_some] at h
        exact .inl ⟨a, rfl, pa.v, h⟩
      · show _ = badD [(fitsD K "some" a, "columns")]
        rw [pa.same "some" (by decide)]
  · obtain rfl := Option.some.inj (show some [(("old" : Str), ("name" : Str)), (("new" : Str), ("name" : Str))] = some r from e)
    match bs, hl, hp with
    | [a, b], _, hp =>
      have pa := hp a (by simp)
      have pb := hp b (by simp)
      refine ⟨[(chkD K "name" a, "old"), (chkD K "name" b, "new")], fun F X h => ?_, ?_⟩
      · rw [chk_name] at h
        exact .inr (.inl ⟨a, b, rfl, pa.v, pb.v, h⟩)
      · show _ = badD [(fitsD K "name" a, "old"), (fitsD K "name" b, "new")]
        rw [pa.same "name" (by decide), pb.same "name" (by decide)]
  · obtain rfl := Option.some.inj (show some [(("column" : Str), ("name" : Str))] = some r from e)
    match bs, hl, hp with
    | [a], _, hp =>
      have pa := hp a (by simp)
      refine ⟨[(chkD K "name" a, "column")], fun F X h => ?_, ?_⟩
      · rw [chk_name] at h
        exact .inr (.inr (.inl ⟨a, rfl, pa.v, h⟩))
      · show _ = badD [(fitsD K "name" a, "column")]
        rw [pa.same "name" (by decide)]
  · obtain rfl := Option.some.inj (show some [(("column" : Str), ("name" : Str)), (("text" : Str), ("text" : Str))] = some r from e)
    match bs, hl, hp with
    | [a, b], _, hp =>
      have pa := hp a (by simp)
      have pb := hp b (by simp)
      refine ⟨[(chkD K "name" a, "column"), (chkD K "text" b, "text")], fun F X h => ?_, ?_⟩
      · rw [chk_name, chk_text] at h
        exact .inr (.inr (.inr (.inl ⟨a, b, rfl, pa.v, pb.v, h⟩)))
      · show _ = badD [(fitsD K "name" a, "column"), (fitsD K "text" b, "text")]
        rw [pa.same "name" (by decide), pb.same "text" (by decide)]
  · obtain rfl := Option.some.inj (show some [(("column" : Str), ("name" : Str)), (("text" : Str), ("text" : Str))] = some r from e)
    match bs, hl, hp with
    | [a, b], _, hp =>
      have pa := hp a (by simp)
      have pb := hp b (by simp)
      refine ⟨[(chkD K "name" a, "column"), (chkD K "text" b, "text")], fun F X h => ?_, ?_⟩
      · rw [chk_name, chk_text] at h
        exact .inr (.inr (.inr (.inr (.inl ⟨a, b, rfl, pa.v, pb.v, h⟩))))
      · show _ = badD [(fitsD K "name" a, "column"), (fitsD K "text" b, "text")]
        rw [pa.same "name" (by decide), pb.same "text" (by decide)]
  · obtain rfl := Option.some.inj (show some [(("column" : Str), ("name" : Str)), (("other" : Str), ("name" : Str))] = some r from e)
    match bs, hl, hp with
    | [a, b], _, hp =>
      have pa := hp a (by simp)
      have pb := hp b (by simp)
      refine ⟨[(chkD K "name" a, "column"), (chkD K "name" b, "other")], fun F X h => ?_, ?_⟩
      · rw [chk_name] at h
        exact .inr (.inr (.inr (.inr (.inr (.inl ⟨a, b, rfl, pa.v, pb.v, h⟩)))))
      · show _ = badD [(fitsD K "name" a, "column"), (fitsD K "name" b, "other")]
        rw [pa.same "name" (by decide), pb.same "name" (by decide)]
  · obtain rfl := Option.some.inj (show some [(("columns" : Str), ("some" : Str)), (("name" : Str), ("name" : Str)), (("value" : Str), ("name" : Str))] = some r from e)
    match bs, hl, hp with
    | [a, b, c], _, hp =>
      have pa := hp a (by simp)
      have pb := hp b (by simp)
      have pc := hp c (by simp)
      refine ⟨[(chkD K "some" a, "columns"), (chkD K "name" b, "name"), (chkD K "name" c, "value")], fun F X h => ?_, ?_⟩
      · rw [chk_name, chk_some] at h
        exact .inr (.inr (.inr (.inr (.inr (.inr (.inl ⟨a, b, c, rfl, pa.v, pb.v, pc.v, h⟩))))))
      · show _ = badD [(fitsD K "some" a, "columns"), (fitsD K "name" b, "name"), (fitsD K "name" c, "value")]
        rw [pa.same "some" (by decide), pb.same "name" (by decide), pc.same "name" (by decide)]
  · obtain rfl := Option.some.inj (show some [(("by" : Str), ("any" : Str)), (("name" : Str), ("name" : Str)), (("value" : Str), ("name" : Str)), (("heads" : Str), ("some" : Str))] = some r from e)
    match bs, hl, hp with
    | [a, b, c, d], _, hp =>
      have pa := hp a (by simp)
      have pb := hp b (by simp)
      have pc := hp c (by simp)
      have pd := hp d (by simp)
      refine ⟨[(chkD K "any" a, "by"), (chkD K "name" b, "name"), (chkD K "name" c, "value"), (chkD K "some" d, "heads")], fun F X h => ?_, ?_⟩
      · rw [chk_any, chk_name, chk_some] at h
        exact .inr (.inr (.inr (.inr (.inr (.inr (.inr (.inl ⟨a, b, c, d, rfl, pa.v, pb.v, pc.v, pd.v, h⟩)))))))
      · show _ = badD [(fitsD K "any" a, "by"), (fitsD K "name" b, "name"), (fitsD K "name" c, "value"), (fitsD K "some" d, "heads")]
        rw [pa.same "any" (by decide), pb.same "name" (by decide), pc.same "name" (by decide), pd.same "some" (by decide)]
  · obtain rfl := Option.some.inj (show some [(("columns" : Str), ("any" : Str)), (("steps" : Str), ("steps" : Str))] = some r from e)
    match bs, hl, hp with
    | [a, b], _, hp =>
      have pa := hp a (by simp)
      have pb := hp b (by simp)
      refine ⟨[(chkD K "any" a, "columns"), (chkD K "steps" b, "steps")], fun F X h => ?_, ?_⟩
      · rw [chk_any, chk_steps] at h
        exact .inr (.inr (.inr (.inr (.inr (.inr (.inr (.inr (.inl ⟨a, b, rfl, pa.v, pb.v, h⟩))))))))
      · show _ = badD [(fitsD K "any" a, "columns"), (fitsD K "steps" b, "steps")]
        rw [pa.same "any" (by decide), pb.same "steps" (by decide)]
  · obtain rfl := Option.some.inj (show some [(("steps" : Str), ("steps" : Str))] = some r from e)
    match bs, hl, hp with
    | [a], _, hp =>
      have pa := hp a (by simp)
      refine ⟨[(chkD K "steps" a, "steps")], fun F X h => ?_, ?_⟩
      · rw [chk_steps] at h
        exact .inr (.inr (.inr (.inr (.inr (.inr (.inr (.inr (.inr (⟨a, rfl, pa.v, h⟩)))))))))
      · show _ = badD [(fitsD K "steps" a, "steps")]
        rw [pa.same "steps" (by decide)]
theorem sorts_all : (sortsL.all fun r => decide (0 < r.length) && (decide (r.length ≤ 4) && r.all fun p => sorts5.contains p.2 && DL.plain 20 (.str p.1))) = true := by decide +kernel
theorem sorts_at {i : Int} (i0 : 0 ≤ i) (i1 : i < 10) : ∃ r, L2.atI sortsL i = some r ∧ r ∈ sortsL := by
  have hi : i = 0 ∨ i = 1 ∨ i = 2 ∨ i = 3 ∨ i = 4 ∨ i = 5 ∨ i = 6 ∨ i = 7 ∨ i = 8 ∨ i = 9 := by omega
  rcases hi with rfl | rfl | rfl | rfl | rfl | rfl | rfl | rfl | rfl | rfl <;> exact ⟨_, rfl, by simp [sortsL]⟩
def RGood (K : Fg) (d e : D) : Prop := ∃ w s : Str, d = .tup [.str w, .str s] ∧ e ∈ goods K s
theorem all2_good {K : Fg} (k : Kst K) : ∀ (r : List (Str × Str)) (es : List D), (∀ p ∈ r, p.2 ∈ sorts5) → All2 (RGood K) (r.map pairD) es → es.length = r.length ∧ (∀ e ∈ es, Pl K e) ∧ badP K (r.zip es) = .non
  | [], [], _, _ => ⟨rfl, (fun e he => nomatch he), rfl⟩
  | [], e :: es, _, h => h.elim
  | p :: r, [], _, h => h.elim
  | p :: r, e :: es, hs, h => by
    obtain ⟨⟨w, s, h1, h2⟩, h3⟩ := (show RGood K (pairD p) e ∧ All2 (RGood K) (r.map pairD) es from h)
    have hp : p.2 = s := by
      have := D.tup.inj h1
      exact D.str.inj (List.cons.inj (List.cons.inj this).2).1
    subst hp
    have s5 := hs p (by simp)
    obtain ⟨h4, h5, h6⟩ := all2_good k r es (fun q hq => hs q (List.mem_cons_of_mem _ hq)) h3
    refine ⟨congrArg Nat.succ h4, fun x hx => ?_, ?_⟩
    · rcases List.mem_cons.mp hx with rfl | hx
      · exact pl_good k s5 h2
      · exact h5 x hx
    · show badD ((fitsD K p.2 e, p.1) :: (r.zip es).map fun p => (fitsD K p.1.2 p.2, p.1.1)) = .non
      rw [good_fits k s5 h2]
      exact h6
def gW (δ : List Sl) : D → List Sl
  | .tup [.tup [a, b], c] => ((δ.set 6 (.dat a)).set 7 (.dat b)).set 10 (.dat c)
  | _ => δ
def pW (K : Fg) : D → Bool
  | .tup [.tup [_, .str s], c] => !fitsD K s c
  | _ => false
def fW : D → D
  | .tup [.tup [a, _], _] => a
  | d => d
theorem zip_wr {K : Fg} : ∀ (r : List (Str × Str)) (bs : List D), ((List.zipWith (fun a b => D.tup [a, b]) (r.map pairD) bs).filter (pW K)).map fW = wr K (r.zip bs)
  | [], _ => rfl
  | p :: r, [] => rfl
  | p :: r, b :: bs => by
    rw [List.map_cons, List.zipWith_cons_cons]
    unfold wr
    rw [List.zip_cons_cons]
    cases e : fitsD K p.2 b with
    | true =>
      rw [List.filter_cons_of_neg (show ¬ pW K (.tup [pairD p, b]) = true from by show ¬ (!fitsD K p.2 b) = true; rw [e]; decide), List.filter_cons_of_neg (p := fun p : (Str × Str) × D => !fitsD K p.1.2 p.2) (a := (p, b)) (show ¬ (!fitsD K p.2 b) = true from by rw [e]; decide)]
      exact zip_wr r bs
    | false =>
      rw [List.filter_cons_of_pos (show pW K (.tup [pairD p, b]) = true from by show (!fitsD K p.2 b) = true; rw [e]; rfl), List.filter_cons_of_pos (p := fun p : (Str × Str) × D => !fitsD K p.1.2 p.2) (a := (p, b)) (show (!fitsD K p.2 b) = true from by rw [e]; rfl), List.map_cons, List.map_cons]
      exact congrArg _ (zip_wr r bs)
theorem mem_zipW {r : List (Str × Str)} {bs : List D} {d : D} (h : d ∈ List.zipWith (fun a b => D.tup [a, b]) (r.map pairD) bs) : ∃ p b, d = .tup [pairD p, b] ∧ p ∈ r ∧ b ∈ bs := by
  obtain ⟨i, hi, e⟩ := List.mem_iff_getElem.mp h
  rw [List.length_zipWith, List.length_map] at hi
  rw [List.getElem_zipWith, List.getElem_map] at e
  exact ⟨_, _, e.symm, List.getElem_mem _, List.getElem_mem _⟩
theorem wr_mem {K : Fg} {r : List (Str × Str)} {bs : List D} {d : D} (h : d ∈ wr K (r.zip bs)) : ∃ p ∈ r, d = .str p.1 := by
  obtain ⟨q, h1, h2⟩ := List.mem_map.mp h
  exact ⟨q.1, (List.of_mem_zip (List.mem_filter.mp h1).1).1, h2.symm⟩
theorem mem_set {α : Type} {l : List α} {i : Nat} {a b : α} (h : b ∈ l.set i a) : b = a ∨ b ∈ l := by
  rcases List.mem_or_eq_of_mem_set h with h | h
  · exact .inr h
  · exact .inl h
theorem at_first {α : Type} {x : α} {ys : List α} : L2.atI (x :: ys) 0 = some x := by
  unfold L2.atI
  rw [ixN_in (by decide) (by rw [List.length_cons]; omega)]
  rfl
section
variable {P : Program} {w : World} {K : Fg} {mg : Str → Option Value} {base : Heap}
theorem sc_law : FnScope ["_law_script", "_law_deal_here", "_law_turn", "_law_form", "_law_sorts_here", "_law_given", "_law_told_here", "_law_sort", "_law_again", "_law_wrong", "_law_thing"] ["_law_script"] (defScope s_law) := ⟨rfl, rfl, rfl, by decide +kernel, rfl, by decide +kernel, by decide +kernel⟩
theorem ok_law (G : Glo K mg) (c : He.SaysD fa fn K) (x : Exf K) (L : Low P w K mg base) (H_deal : Fn P w K mg base "_law_deal" 1 2 false gDeal) (H_told : Fn P w K mg base "_law_told" 7 2 false (gTold K)) {fd : FuncData} (F : FunD K "law" "law" (defArgs s_law) (defBody s_law) (defScope s_law) [] [] (He.ga K "law") fd) : FnOk P w K mg base (L2.CX P w) 8 (He.ga K "law") fd ["_law_script"] (spLawD K) := by
  have nd : (["_law_script", "_law_deal_here", "_law_turn", "_law_form", "_law_sorts_here", "_law_given", "_law_told_here", "_law_sort", "_law_again", "_law_wrong", "_law_thing"] : List Str).Nodup := sc_law.nd
  apply fn_law (k := 7) (N := ["_law_script", "_law_deal_here", "_law_turn", "_law_form", "_law_sorts_here", "_law_given", "_law_told_here", "_law_sort", "_law_again", "_law_wrong", "_law_thing"]) F sc_law (by decide)
  intro cdv A outer s H E hr
  have hu := hr.units
  have tk := takes_of (X := cxOf (L2.CX P w) P w K mg base ["_law_script", "_law_deal_here", "_law_turn", "_law_form", "_law_sorts_here", "_law_given", "_law_told_here", "_law_sort", "_law_again", "_law_wrong", "_law_thing"] "law" (defScope s_law) (He.ga K "law") cdv A outer s H E) rfl rfl rfl rfl
  apply Exists.intro
  apply Exists.intro
  apply Exists.intro
  apply Exists.intro
  refine And.intro (fun c0 => dsw (ds_set 1 nd rfl (.inr rfl) (de_f H_deal (hr.mono (by decide)) rfl tk (da_cons (de_var 0) (da_cons de_int da_nil)))) (fun c1 => (dss_cons (ds_for (passes_of rfl) rfl (di_range1 rfl (G.n "range" (by decide)) (da_cons de_int da_nil)) (dg_name 2 nd rfl (by first | exact .inl rfl | exact .inr rfl)) (dss_cons (ds_set 3 nd rfl (.inl rfl) (de_fL 1 L.draw (hr.mono (by decide)) rfl tk (pv 1) (da_cons de_int da_nil)))
      (dss_cons (ds_set 4 nd rfl (.inl rfl) (de_f L.sorts (hr.mono (by decide)) rfl tk (da_cons (de_var 3) da_nil)))
      (dss_cons (ds_ownLcF 5 (own := [("_law_told_here", 6), ("_law_sort", 7)]) rfl nd rfl rfl rfl (dic_of (di_seq (de_var 4))) (blkOk_by (show blkC ["_law_script", "_law_deal_here", "_law_turn", "_law_form", "_law_sorts_here", "_law_given", "_law_told_here", "_law_sort", "_law_again", "_law_wrong", "_law_thing"] (defScope s_law) _ _ = true from by decide +kernel)) (by decide) (fun s H C cl fp => (dg_tup rfl (dgs_cons (dg_name 6 nd rfl (by first | exact .inl rfl | exact .inr rfl)) (dgs_cons (dg_name 7 nd rfl (by first | exact .inl rfl | exact .inr rfl)) dgs_nil)))) (fun s H C cl fp => dts_nil) (fun s H C cl fp => (de_fL 1 L.good (hr.mono (by decide)) rfl DL.takes0 (pv 1) (da_cons (de_var 7) da_nil))))
      (dss_cons (ds_if (dt_cmp op_notN rd_notN (de_fO 5 H_told (hr.mono (by decide)) rfl tk (de_var 3) (pv 5)) de_non (nomark _)) (dss_one ds_never) dss_nil)
      (dss_cons (ds_for (passes_of rfl) rfl (di_range1 rfl (G.n "range" (by decide)) (da_cons (de_op op_addA rd_add de_int (de_fL 1 L.draw (hr.mono (by decide)) rfl tk (pv 1) (da_cons de_int da_nil))) da_nil)) (dg_name 8 nd rfl (by first | exact .inl rfl | exact .inr rfl)) (dss_one (ds_setO 5 (pv 5) (de_fL 1 L.odd (hr.mono (by decide)) rfl tk (pv 1) da_nil) (de_fL 1 L.draw (hr.mono (by decide)) rfl tk (pv 1) (da_cons (de_lenO 5 rfl (G.n "len" (by decide)) (by decide +kernel) (pv 5)) da_nil)))))
      (dss_cons (ds_setLcF 9 (own := [("_law_told_here", 6), ("_law_sort", 7), ("_law_thing", 10)]) rfl nd rfl rfl rfl (di_zipO 4 5 rfl (G.n "zip" (by decide)) (pv 4) (pv 5)) (blkOk_by (show blkC ["_law_script", "_law_deal_here", "_law_turn", "_law_form", "_law_sorts_here", "_law_given", "_law_told_here", "_law_sort", "_law_again", "_law_wrong", "_law_thing"] (defScope s_law) _ _ = true from by decide +kernel)) (by decide) (fun s H C cl fp => (dg_tup rfl (dgs_cons (dg_tup rfl (dgs_cons (dg_name 6 nd rfl (by first | exact .inl rfl | exact .inr rfl)) (dgs_cons (dg_name 7 nd rfl (by first | exact .inl rfl | exact .inr rfl)) dgs_nil))) (dgs_cons (dg_name 10 nd rfl (by first | exact .inl rfl | exact .inr rfl)) dgs_nil)))) (fun s H C cl fp => (dts_one (dt_not (dt_truth (de_f L.fits (hr.mono (by decide)) rfl DL.takes0 (da_cons (de_var 7) (da_cons (de_var 10) da_nil))))))) (fun s H C cl fp => (de_var 6)))
      (dss_one (ds_if (dt_cmp (op_neD hu) rd_ne (de_fO 5 H_told (hr.mono (by decide)) rfl tk (de_var 3) (pv 5)) (de_if (dt_cmp (op_neL hu) rd_neL (de_var 9) (de_lst da_nil) (nomark _)) (de_ix (de_var 9) de_int (fun _ _ => rfl)) de_non) (nomark _)) (dss_one ds_never) dss_nil)))))))))
      (dss_one (ds_ret de_bl))))) (And.intro ?_ ?_)
  · intro ns hl
    refine ms_at (e := [.dat (.scr (intsD ns)), .un, .un, .un, .un, .un, .un, .un, .un, .un, .un]) rfl ?_
    dsimp only [msRet, msRetN, msSeq, msIf, msNext, msExpr, msSet, mtAnd, mtOr, mtNot, mTru, mB, mCB, mCall, maCons, maNil, mVar, mC, mOp, mChain, mIf, mAndV, mOrV, mNotV, mLst, mTup, mMS, gI0, gLen, gEq, gNe, gEqS, gNeS, gIn, gAll, gStrip, truD, start0, dn, mLc, miS, mgName, wipeD, mYes, lcD, List.map_cons, List.map_nil, List.replicate, List.cons_append, List.nil_append, List.getElem?_cons_zero, List.getElem?_cons_succ, List.getElem?_nil, List.append_nil, gLe, gLt, Bool.not_true, Bool.not_false, Bool.false_eq_true, reduceIte, mCallL, gIx, miZ, gEqL, gNeL, mIsiT, mSl, moNone, moSome, gSl, miR1, gAdd, List.set_cons_zero, List.set_cons_succ, decide_true, eq_self, mMake, gRep, gInt, msFor, gAbs, mRev, gGe, gMod, gPow, gI, mCallO, mLenO, msSetO, msOwn, moLc, miZipO, gNotN, DL.isNon, msAsg, mgTup, mgCons, mgNil, gDraw, gSorts, gGood, gOdd, gFits, gTold]
    exact ⟨rfl, ns, hl, rfl, fun ms m h1 h2 h3 h4 => ⟨rfl, ms, m, h1, h2, h3, h4, rfl⟩⟩
  · refine ms_at (e := [.un, .deal, .un, .un, .un, .un, .un, .un, .un, .un, .un]) rfl ?_
    dsimp only [msRet, msRetN, msSeq, msIf, msNext, msExpr, msSet, mtAnd, mtOr, mtNot, mTru, mB, mCB, mCall, maCons, maNil, mVar, mC, mOp, mChain, mIf, mAndV, mOrV, mNotV, mLst, mTup, mMS, gI0, gLen, gEq, gNe, gEqS, gNeS, gIn, gAll, gStrip, truD, start0, dn, mLc, miS, mgName, wipeD, mYes, lcD, List.map_cons, List.map_nil, List.replicate, List.cons_append, List.nil_append, List.getElem?_cons_zero, List.getElem?_cons_succ, List.getElem?_nil, List.append_nil, gLe, gLt, Bool.not_true, Bool.not_false, Bool.false_eq_true, reduceIte, mCallL, gIx, miZ, gEqL, gNeL, mIsiT, mSl, moNone, moSome, gSl, miR1, gAdd, List.set_cons_zero, List.set_cons_succ, decide_true, eq_self, mMake, gRep, gInt, msFor, gAbs, mRev, gGe, gMod, gPow, gI, mCallO, mLenO, msSetO, msOwn, moLc, miZipO, gNotN, DL.isNon, msAsg, mgTup, mgCons, mgNil, gDraw, gSorts, gGood, gOdd, gFits, gTold]
    refine ⟨by decide, by decide, ?_⟩
    refine forD_inv (fun δ => ∃ s2 s3 s4 s5 s6 s7 s8 s9 s10, δ = [.un, .deal, s2, s3, s4, s5, s6, s7, s8, s9, s10]) _ _ (fun d hd δ i k1 q1 => ?_) ⟨_, _, _, _, _, _, _, _, _, rfl⟩ (fun δ i => ?_)
    · obtain ⟨s2, s3, s4, s5, s6, s7, s8, s9, s10, rfl⟩ := i
      dsimp only [msRet, msRetN, msSeq, msIf, msNext, msExpr, msSet, mtAnd, mtOr, mtNot, mTru, mB, mCB, mCall, maCons, maNil, mVar, mC, mOp, mChain, mIf, mAndV, mOrV, mNotV, mLst, mTup, mMS, gI0, gLen, gEq, gNe, gEqS, gNeS, gIn, gAll, gStrip, truD, start0, dn, mLc, miS, mgName, wipeD, mYes, lcD, List.map_cons, List.map_nil, List.replicate, List.cons_append, List.nil_append, List.getElem?_cons_zero, List.getElem?_cons_succ, List.getElem?_nil, List.append_nil, gLe, gLt, Bool.not_true, Bool.not_false, Bool.false_eq_true, reduceIte, mCallL, gIx, miZ, gEqL, gNeL, mIsiT, mSl, moNone, moSome, gSl, miR1, gAdd, List.set_cons_zero, List.set_cons_succ, decide_true, eq_self, mMake, gRep, gInt, msFor, gAbs, mRev, gGe, gMod, gPow, gI, mCallO, mLenO, msSetO, msOwn, moLc, miZipO, gNotN, DL.isNon, msAsg, mgTup, mgCons, mgNil, gDraw, gSorts, gGood, gOdd, gFits, gTold]
      refine ⟨trivial, rfl, 10, rfl, by decide, by decide, fun i i0 i1 => ?_⟩
      obtain ⟨r, hr1, hr2⟩ := sorts_at i0 i1
      obtain ⟨l0, hr3⟩ := b2 (List.all_eq_true.mp sorts_all r hr2)
      obtain ⟨l4, hr4⟩ := b2 hr3
      have l0 : 0 < r.length := of_decide_eq_true l0
      have l4 : r.length ≤ 4 := of_decide_eq_true l4
      have hr4 := fun p hp => b2 (List.all_eq_true.mp hr4 p hp)
      have s5' : ∀ p ∈ r, p.2 ∈ sorts5 := fun p hp => List.contains_iff_mem.mp (hr4 p hp).1
      have ln : (r.map pairD).length < sizeLine := by
        rw [List.length_map]
        exact Nat.lt_of_le_of_lt l4 (by decide)
      refine ⟨rfl, i, r, rfl, hr1, _, rfl, ln, ?_⟩
      refine lcD_any (R := RGood K) _ _ (fun y hy F' q => ?_) (fun es h2 => ?_)
      · obtain ⟨p, hp, rfl⟩ := List.mem_map.mp hy
        exact ⟨rfl, trivial, rfl, p.2, rfl, s5' p hp, fun e he => q e ⟨p.1, p.2, rfl, he⟩⟩
      obtain ⟨g1, g2, g3⟩ := all2_good x.kst r es s5' h2
      rw [List.nil_append]
      obtain ⟨cs, c1, c2⟩ := told_ex i0 i1 hr1 g1 g2
      refine ⟨cs, c1, ?_⟩
      rw [c2, g3]
      refine ⟨rfl, (fun v z => nomatch z), ?_⟩
      refine iteF ?_
      refine ⟨trivial, rfl, 2, rfl, by decide, by decide, fun r1 a0 a1 => ⟨by omega, by omega, ?_⟩⟩
      refine forD_inv (fun δ => ∃ bs s6 s7 s8 s9 s10, bs.length = r.length ∧ (∀ b ∈ bs, Pl K b) ∧ δ = [.un, .deal, .dat d, .dat (.int i), .dat (sortsD r), .own bs, s6, s7, s8, s9, s10]) _ _ (fun y hy δ j k2 q2 => ?_) ⟨es, _, _, _, _, _, g1, g2, rfl⟩ (fun δ j => ?_)
      · obtain ⟨bs, s6, s7, s8, s9, s10, b1, b2', rfl⟩ := j
        refine ⟨trivial, rfl, rfl, fun e he => ?_⟩
        have hb0 : (0 : Int) < (bs.length : Int) := by omega
        have hb1 : (bs.length : Int) < 1073741824 := by omega
        refine ⟨trivial, rfl, (bs.length : Int), rfl, hb0, hb1, fun m m0 m1 => ⟨m0, m1, ?_⟩⟩
        refine q2 _ ⟨bs.set m.toNat e, _, _, _, _, _, (List.length_set ..).trans b1, fun b hb => ?_, rfl⟩
        rcases mem_set hb with rfl | hb
        · exact pl_odd x.kst he
        · exact b2' b hb
      · obtain ⟨bs, s6, s7, s8, s9, s10, b1, b2', rfl⟩ := j
        have lz : (List.zipWith (fun a b => D.tup [a, b]) (r.map pairD) bs).length < sizeLine := by
          rw [List.length_zipWith]
          exact Nat.lt_of_le_of_lt (Nat.min_le_left _ _) ln
        refine ⟨lz, ?_⟩
        refine lcD_gen (g := gW [.un, .deal, .dat d, .dat (.int i), .dat (sortsD r), .own bs, .un, .un, s8, s9, .un]) (p := pW K) (f := fW) _ [] (fun y hy => ?_) ?_
        · obtain ⟨p, b, rfl, hp, hb⟩ := mem_zipW hy
          refine ⟨fun F' q => ⟨rfl, ⟨rfl, q⟩⟩, fun F' q => ?_, fun _ F' q => q⟩
          exact ⟨rfl, p.2, b, rfl, s5' p hp, (b2' b hb).v, q⟩
        rw [List.nil_append, zip_wr]
        obtain ⟨cs, c1, c2⟩ := told_ex i0 i1 hr1 b1 b2'
        refine ⟨cs, c1, ?_⟩
        rw [c2, bad_wr]
        have hw : ∀ y ∈ wr K (r.zip bs), ∃ z, y = .str z ∧ DL.plain 20 y = true := fun y hy => by
          obtain ⟨p, hp, rfl⟩ := wr_mem hy
          exact ⟨_, rfl, (hr4 p hp).2⟩
        cases hW : wr K (r.zip bs) with
        | nil =>
          refine ⟨rfl, Nat.zero_le _, ?_⟩
          refine iteF ?_
          refine ⟨rfl, rfl, ?_⟩
          refine iteF ?_
          exact q1 _ ⟨_, _, _, _, _, _, _, _, _, rfl⟩
        | cons y ys =>
          obtain ⟨z, rfl, hz⟩ := hw y (by rw [hW]; simp)
          refine ⟨rfl, Nat.zero_le _, ?_⟩
          refine iteT ?_
          refine ⟨_, at_first, hz, hz, ?_⟩
          have ez : (!eqD (D.str z) (D.str z)) = false := by
            show (!decide (z = z)) = false
            rw [decide_eq_true rfl]
            rfl
          show (if (!eqD (D.str z) (D.str z)) = true then False else _)
          rw [ez]
          refine iteF ?_
          exact q1 _ ⟨_, _, _, _, _, _, _, _, _, rfl⟩
    · obtain ⟨s2, s3, s4, s5, s6, s7, s8, s9, s10, rfl⟩ := i
      rfl
end
end K12

set_option Elab.async false
set_option linter.all false
set_option maxRecDepth 100000
set_option maxHeartbeats 0
namespace K12
open PySem PySem.Spec PyProof.Rows L2 DL
theorem run (w : World) : HandSHeadRun.RunEq R (PySem.W.view R.prog [66]) hk ob 12000 names w := by
  intro os
  kernel_rfl
end K12

set_option Elab.async false
set_option linter.all false
set_option maxRecDepth 100000
set_option maxHeartbeats 0
namespace DL
open PySem L2 PySem.Spec PyProof.Rows
/-- a law whose defs may raise -/
theorem walk_cx {lw : PySem.W.OpenLaw} {m k : Nat} {q : Program} {lo : List Str} {XP : (Str → Option Value) → Heap → Prop} {YP : World → Heap → Prop} {d : DefRec} {x : Str} (hm : lw.most = some m) (h2 : m ≤ sizeLine) (h3 : d.params.defaults = []) (h4 : Room k callerA)
    (F : ∀ (w : World) (mg : Str → Option Value) (fa : Addr) (h : Heap), YP w h → h.Ns mainGlobals mg → mg d.name = some (.ref fa) → ∃ (K : Fg) (fd : FuncData) (sp : Sp), K.In h ∧ (∀ (s : Shared) (u : Value), BindsTo s fd ⟨[u], []⟩ [(x, u)]) ∧
        (∀ (H : Hp) (a : Addr) (ns : List Int), ns.length ≤ m → SqL K H a (ns.map V.int) → sp [.ref a] H (fun v _ => v = .bl true) fun _ _ _ => False) ∧ ∀ base : Heap, FnOk lw.prog w K mg base (L2.CX lw.prog w) k fa fd [x] sp) : PySem.W.WalkO q lo XP YP lw.row.toRowW d [] (fun f vs => PySem.call f vs) := by
  refine Att.attach_call hm h3 fun w s0 s1 mg mb fa o pm cd doc a vs ns g y ho hd hcd hmg hobj hints hlen hg => ?_
  obtain ⟨K, fd, sp, KX, hb, hsp, hF⟩ := F w mg fa _ y g.T.g hmg
  refine law_call KX g.T.g g.T.b g.T.builtins g.T.nolimit hg hobj hints (Nat.le_trans hlen h2) h4 (fun base _ _ => hF base) hb (fun H _ hS => hsp H a ns hlen hS) fun H e s' z => ?_
  obtain ⟨_, _, _, _, _, _, _, _, _, _, _, _, z⟩ := z
  exact z
end DL
namespace K12
open PySem PySem.Spec PyProof.Rows L2 DL
theorem facts {P : Program} {w : World} {K : Fg} {h : Heap} {mg : Str → Option Value} {f : Addr} (X : K.In h) (N : h.Ns mainGlobals mg) (hfa : mg ("law" : Str) = some (.ref f)) (c : He.SaysD fa fn K) (e : ex K = true) :
    ∃ fd : FuncData, (∀ (s : Shared) (v : Value), BindsTo s fd ⟨[v], []⟩ [("_law_script", v)]) ∧ ∀ base : Heap, FnOk P w K mg base (L2.CX P w) 8 f fd ["_law_script"] (spLawD K) := by
  have G := get_glo X N c
  have x := get_exf e
  obtain ⟨fd, F⟩ := c.defs (d := dfn ("law", none) "law" "law" s_law) (by unfold fn; simp)
  replace F : FunD K "law" "law" (defArgs s_law) (defBody s_law) (defScope s_law) [] [] (He.ga K "law") fd := F
  have q := hfa.symm.trans (G.g "law" (by decide))
  cases q
  have b := FunD.bindsA (ps := ["_law_script"]) F fun _ _ _ _ _ _ us hl => match us, hl with | [_], _ => rfl
  refine ⟨fd, fun s v => b s [v] rfl, fun base => ?_⟩
  have exs : Exs P w K mg base := ok_exs c x.oex x.ini x.fun_ x.now
  have f1 : Fn P w K mg base "is_sequence" 1 1 false (gSeq K) := ok_is_sequence G c x.kls
  have f2 : Fn P w K mg base "is_word" 1 3 false (gWord K) := ok_is_word G c x.kls
  have f3 : Fn P w K mg base "is_name" 2 1 false (gName K) := ok_is_name G c f2 x.kls
  have f6 : Fn P w K mg base "is_text" 2 1 false (gText K) := ok_is_text G c f2
  have f4 : Fn P w K mg base "are_names" 3 2 false (gNames K) := ok_are_names G c f1 f3
  have f5 : Fn P w K mg base "need" 3 2 false (gNeed K) := ok_need G c exs
  have f7 : Fn P w K mg base "are_steps" 2 1 false (gSteps K) := ok_are_steps G c f1 x.kls x.kst
  have st := ok_law_step (P := P) (w := w) (base := base) G c (ok_Pick_init G c f4 f5) (ok_Rename_init G c f3 f5) (ok_Has_init G c f3 f5) (ok_Is_init G c f3 f6 f5) (ok_Put_init G c f3 f6 f5) (ok_Alike_init G c f3 f5) (ok_Melt_init G c f4 f3 f5) (ok_Pivot_init G c f4 f3 f5) (ok_Join_init G c f4 f7 f5) (ok_Stack_init G c f7 f5)
  exact ok_law G c x (low G c x) (ok_law_deal G c) (ok_law_told G c x st) F
end K12
open PySem PySem.W PySem.Calls PyProof.Rows
theorem PySem.Challenge.cw_meltback_k12_steps_refused_holds : PySem.Challenge.rw_meltback_k12_steps_refused.Holds := by
  w_on; o_law
  refine HandSHeadRun.head_any (r := K12.R) (q := view K12.R.prog [66]) (H := K12.hk) (ob := K12.ob) (M := 12000) (loose := K12.names) (d := HandSHeadRun.topDef K12.R.prog 66) (kwd := []) K12.ob_eq
    (by kernel_rfl) (fun s => by kernel_rfl) K12.run (by kernel_rfl) (by kernel_rfl) (by kernel_rfl) (by rfl) (by first | assumption | decide +kernel) (by decide +kernel) ⟨rfl, rfl, rfl, rfl, rfl, by decide +kernel⟩ ?hw ?hc
  case hw => w_witness2
  case hc =>
    refine DL.walk_cx (lw := PySem.Challenge.rw_meltback_k12_steps_refused) (m := 63) (k := 8) (x := "_law_script") rfl (by decide) (by kernel_rfl) ⟨rfl, by decide, by decide⟩ ?F
    intro w mg fa h Y N hmg0
    obtain ⟨K, KX, c⟩ := Y
    have hmg : mg ("law" : PySem.Str) = some (.ref fa) := by
      have e : (HandSHeadRun.topDef K12.R.prog 66).name = ("law" : PySem.Str) := by kernel_rfl
      rw [← e]
      exact hmg0
    obtain ⟨fd, hb, hF⟩ := K12.facts (P := (PySem.Challenge.rw_meltback_k12_steps_refused).prog) (w := w) KX N hmg c.1 c.2
    exact ⟨K, fd, DL.spLawD K, KX, hb, fun H a ns hl hS => ⟨a, ns, rfl, hl, hS, fun _ => rfl⟩, hF⟩
