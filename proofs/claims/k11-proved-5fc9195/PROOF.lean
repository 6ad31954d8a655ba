import PyProof.Rows.All
import Wide.All
import OpenK.AllK
import Wide.FinOn
import KE.KStateDown
import HandS.ForMost
import HandS.Exc
import HandS.ExcOwn
import HandS.ExcInit
import HandS.TryOnly
import HandS.WordsExc
import HandS.CallSlots
import HandS.IsInst
import HandS.ExcField
import HandS.ExcIs
import HandS.Style
import HandS.Flow
import HandS.Zip
import HandS.Strs
import HandS.SetKeys
import HandS.StrMore
import HandS.Defaults
import HandS.HeadEnd
import HandS.HeadHook1
import HandS.HeadHook2
import HandS.Head0
import HandS.Head1
import HandS.Head2
import HandS.More
import HandS.Codes
import KE.KExcIs
import HandS.HeadHook3
import HandS.HeadHook4
import HandS.Iter
import PyProof.NeKinds
import HandS.TupSets
import HandS.OwnEq
import HandS.Star
import HandS.FStr
import PyProof.CallStr
import PyProof.InstEq
import PyProof.Rows.Range3
import PySem.Challenge.RW_meltback_k11_steps_and_their_texts
set_option Elab.async false
set_option linter.all false
set_option maxRecDepth 100000
set_option maxHeartbeats 4000000
namespace DL
open PySem L2

/-! ### data -/
inductive D where
  | non | bl (b : Bool) | int (i : Int) | str (x : Str) | lst (xs : List D) | tup (xs : List D)
  | obj (C : Addr) (fs : List (Str × D)) | fx (v : V) | scr (xs : List D)

abbrev Fg := PySem.W.Frag

mutual
inductive Rep (K : Fg) (G : Hp) : V → D → Prop
  | non : Rep K G .non .non
  | bl (b : Bool) : Rep K G (.bl b) (.bl b)
  | int (i : Int) : Rep K G (.int i) (.int i)
  | str (x : Str) : Rep K G (.str x) (.str x)
  | lst {a : Addr} {xs : List V} {ds : List D} : G a = some (.lst xs) → RepL K G xs ds → Rep K G (.ref a) (.lst ds)
  | tup {a : Addr} {xs : List V} {ds : List D} : SqT K G a xs → RepL K G xs ds → Rep K G (.ref a) (.tup ds)
  | obj {a C dx : Addr} {fs : List (Str × V)} {ds : List (Str × D)} : G a = some (.ins C dx fs) → RepF K G fs ds → Rep K G (.ref a) (.obj C ds)
  | fx (v : V) : Rep K G v (.fx v)
  | scr {a : Addr} {xs : List V} {ds : List D} : SqL K G a xs → RepL K G xs ds → Rep K G (.ref a) (.scr ds)
inductive RepL (K : Fg) (G : Hp) : List V → List D → Prop
  | nil : RepL K G [] []
  | cons {v : V} {vs : List V} {d : D} {ds : List D} : Rep K G v d → RepL K G vs ds → RepL K G (v :: vs) (d :: ds)
inductive RepF (K : Fg) (G : Hp) : List (Str × V) → List (Str × D) → Prop
  | nil : RepF K G [] []
  | cons {f : Str} {v : V} {vs : List (Str × V)} {d : D} {ds : List (Str × D)} : Rep K G v d → RepF K G vs ds → RepF K G ((f, v) :: vs) ((f, d) :: ds)
end

theorem same_l {K : Fg} {G G' : Hp} {a : Addr} {xs : List V} (s : Same G G') (h : SqL K G a xs) : SqL K G' a xs := by
  rcases h with (h | ⟨o, h⟩) | h
  · exact .inl (.inl (s _ _ h))
  · exact .inl (.inr ⟨o, s _ _ h⟩)
  · exact .inr h
theorem same_t {K : Fg} {G G' : Hp} {a : Addr} {xs : List V} (s : Same G G') (h : SqT K G a xs) : SqT K G' a xs := by
  rcases h with (h | ⟨o, h⟩) | h
  · exact .inl (.inl (s _ _ h))
  · exact .inl (.inr ⟨o, s _ _ h⟩)
  · exact .inr h

section
variable {K : Fg} {G G' : Hp}
mutual
theorem Rep.mono (s : Same G G') : ∀ {v : V} {d : D}, Rep K G v d → Rep K G' v d
  | _, _, .non => .non
  | _, _, .bl b => .bl b
  | _, _, .int i => .int i
  | _, _, .str x => .str x
  | _, _, .lst h r => .lst (s _ _ h) (RepL.mono s r)
  | _, _, .tup h r => .tup (same_t s h) (RepL.mono s r)
  | _, _, .obj h r => .obj (s _ _ h) (RepF.mono s r)
  | _, _, .fx v => .fx v
  | _, _, .scr h r => .scr (same_l s h) (RepL.mono s r)
theorem RepL.mono (s : Same G G') : ∀ {vs : List V} {ds : List D}, RepL K G vs ds → RepL K G' vs ds
  | _, _, .nil => .nil
  | _, _, .cons a r => .cons (Rep.mono s a) (RepL.mono s r)
theorem RepF.mono (s : Same G G') : ∀ {vs : List (Str × V)} {ds : List (Str × D)}, RepF K G vs ds → RepF K G' vs ds
  | _, _, .nil => .nil
  | _, _, .cons a r => .cons (Rep.mono s a) (RepF.mono s r)
end
theorem RepL.length : ∀ {xs : List V} {ds : List D}, RepL K G xs ds → xs.length = ds.length
  | _, _, .nil => rfl
  | _, _, .cons _ r => congrArg Nat.succ (RepL.length r)
theorem RepL.get : ∀ {xs : List V} {ds : List D} {i : Nat} {d : D}, RepL K G xs ds → ds[i]? = some d → ∃ x, xs[i]? = some x ∧ Rep K G x d
  | _, _, _, _, .nil, e => by simp at e
  | _, _, 0, _, .cons a _, e => by simp at e; subst e; exact ⟨_, rfl, a⟩
  | _, _, i + 1, _, .cons _ r, e => by
    obtain ⟨x, h1, h2⟩ := RepL.get (i := i) r (by simpa using e)
    exact ⟨x, by simpa using h1, h2⟩
theorem RepL.got : ∀ {xs : List V} {ds : List D} {i : Nat} {x : V}, RepL K G xs ds → xs[i]? = some x → ∃ d, ds[i]? = some d ∧ Rep K G x d
  | _, _, _, _, .nil, e => by simp at e
  | _, _, 0, _, .cons a _, e => by simp at e; subst e; exact ⟨_, rfl, a⟩
  | _, _, i + 1, _, .cons _ r, e => by
    obtain ⟨x, h1, h2⟩ := RepL.got (i := i) r (by simpa using e)
    exact ⟨x, by simpa using h1, h2⟩
theorem RepL.append : ∀ {xs ys : List V} {ds es : List D}, RepL K G xs ds → RepL K G ys es → RepL K G (xs ++ ys) (ds ++ es)
  | _, _, _, _, .nil, s => s
  | _, _, _, _, .cons a r, s => .cons a (RepL.append r s)
theorem RepL.take : ∀ {xs : List V} {ds : List D} (n : Nat), RepL K G xs ds → RepL K G (xs.take n) (ds.take n)
  | _, _, 0, _ => .nil
  | _, _, _ + 1, .nil => .nil
  | _, _, n + 1, .cons a r => .cons a (RepL.take n r)
theorem RepL.drop : ∀ {xs : List V} {ds : List D} (n : Nat), RepL K G xs ds → RepL K G (xs.drop n) (ds.drop n)
  | _, _, 0, r => r
  | _, _, _ + 1, .nil => .nil
  | _, _, n + 1, .cons _ r => RepL.drop n r
theorem RepL.set : ∀ {xs : List V} {ds : List D} {v : V} {d : D} (n : Nat), Rep K G v d → RepL K G xs ds → RepL K G (xs.set n v) (ds.set n d)
  | _, _, _, _, _, _, .nil => .nil
  | _, _, _, _, 0, q, .cons _ r => .cons q r
  | _, _, _, _, n + 1, q, .cons a r => .cons a (RepL.set n q r)
theorem RepL.rev {xs : List V} {ds : List D} (h : RepL K G xs ds) : RepL K G xs.reverse ds.reverse := by
  induction xs generalizing ds with
  | nil => cases h; exact .nil
  | cons x xs ih =>
    cases h with
    | cons a r =>
      rw [List.reverse_cons, List.reverse_cons]
      exact (ih r).append (.cons a .nil)
theorem RepL.erase : ∀ {xs : List V} {ds : List D} (n : Nat), RepL K G xs ds → RepL K G (xs.eraseIdx n) (ds.eraseIdx n)
  | _, _, _, .nil => .nil
  | _, _, 0, .cons _ r => r
  | _, _, n + 1, .cons a r => .cons a (RepL.erase n r)
theorem RepL.rep {xs : List V} {ds : List D} (h : RepL K G xs ds) : ∀ n : Nat, RepL K G (List.replicate n xs).flatten (List.replicate n ds).flatten
  | 0 => .nil
  | n + 1 => by
    rw [List.replicate_succ, List.replicate_succ, List.flatten_cons, List.flatten_cons]
    exact h.append (RepL.rep h n)
theorem RepL.ints : ∀ {ns : List Int} {ds : List D}, RepL K G (ns.map V.int) ds → ds = ns.map D.int ∨ True := fun _ => .inr trivial
theorem Rep.int_of {v : V} {i : Int} (h : Rep K G v (.int i)) : v = .int i := by cases h; rfl
theorem Rep.bl_of {v : V} {b : Bool} (h : Rep K G v (.bl b)) : v = .bl b := by cases h; rfl
theorem Rep.str_of {v : V} {x : Str} (h : Rep K G v (.str x)) : v = .str x := by cases h; rfl
theorem Rep.non_of {v : V} (h : Rep K G v .non) : v = .non := by cases h; rfl
theorem Rep.fx_of {v u : V} (h : Rep K G v (.fx u)) : v = u := by cases h; rfl
theorem Rep.lst_of {v : V} {ds : List D} (h : Rep K G v (.lst ds)) : ∃ a xs, v = .ref a ∧ G a = some (.lst xs) ∧ RepL K G xs ds := by
  cases h with
  | lst a b => exact ⟨_, _, rfl, a, b⟩
theorem Rep.tup_of {v : V} {ds : List D} (h : Rep K G v (.tup ds)) : ∃ a xs, v = .ref a ∧ SqT K G a xs ∧ RepL K G xs ds := by
  cases h with
  | tup a b => exact ⟨_, _, rfl, a, b⟩
theorem Rep.obj_of {v : V} {C : Addr} {ds : List (Str × D)} (h : Rep K G v (.obj C ds)) : ∃ a dx fs, v = .ref a ∧ G a = some (.ins C dx fs) ∧ RepF K G fs ds := by
  cases h with
  | obj a b => exact ⟨_, _, _, rfl, a, b⟩
theorem Rep.scr_of {v : V} {ds : List D} (h : Rep K G v (.scr ds)) : ∃ a xs, v = .ref a ∧ SqL K G a xs ∧ RepL K G xs ds := by
  cases h with
  | scr a b => exact ⟨_, _, rfl, a, b⟩
theorem RepF.look : ∀ {fs : List (Str × V)} {ds : List (Str × D)} {f : Str} {d : D}, RepF K G fs ds → ds.lookup f = some d → ∃ v, fs.lookup f = some v ∧ Rep K G v d
  | _, _, _, _, .nil, e => by simp at e
  | _, _, f, d, .cons (f := g) a r, e => by
    by_cases h : f = g
    · subst h
      simp [List.lookup] at e ⊢
      subst e
      exact a
    · have hb : (f == g) = false := beq_eq_false_iff_ne.mpr h
      simp only [List.lookup, hb] at e ⊢
      exact RepF.look r e
theorem RepF.none_ : ∀ {fs : List (Str × V)} {ds : List (Str × D)} {f : Str}, RepF K G fs ds → ds.lookup f = none → fs.lookup f = none
  | _, _, _, .nil, e => rfl
  | _, _, f, .cons (f := g) a r, e => by
    by_cases h : f = g
    · subst h
      simp [List.lookup] at e
    · have hb : (f == g) = false := beq_eq_false_iff_ne.mpr h
      simp only [List.lookup, hb] at e ⊢
      exact RepF.none_ r e
end

/-! ### the two heaps: H what is tracked, G the part of it that stays -/
def DealAt (H : Hp) (p l : Addr) : Prop := ∃ (ns : List Int) (m : Int), H p = some (.lst [.ref l, .int m]) ∧ H l = some (.lst (ns.map V.int)) ∧ ns.length ≤ 1000 ∧ 0 ≤ m ∧ m < 2147483647 ∧ ∀ n ∈ ns, 0 ≤ n
theorem DealAt.ne {H : Hp} {p l : Addr} (h : DealAt H p l) : p ≠ l := by
  obtain ⟨ns, m, h1, h2, _⟩ := h
  intro e
  subst e
  rw [h1] at h2
  have e2 := HO.lst.inj (Option.some.inj h2)
  cases ns with
  | nil => cases e2
  | cons n r => cases (List.cons.inj e2).1
abbrev Dl := Option (Addr × Addr)
def NotDl (dl : Dl) (a : Addr) : Prop := ∀ p l, dl = some (p, l) → a ≠ p ∧ a ≠ l
def DlOk (dl : Dl) (H G : Hp) : Prop := ∀ p l, dl = some (p, l) → DealAt H p l ∧ G p = none ∧ G l = none
structure Go (dl : Dl) (H G H' G' : Hp) : Prop where
  keep : ∀ a o, H a = some o → NotDl dl a → H' a = some o
  grow : Same G G'
  sub : Same G' H'
  new : ∀ a o, G' a = some o → G a = some o ∨ H a = none
  deal : DlOk dl H' G'
theorem NotDl.non {a : Addr} : NotDl none a := fun _ _ h => nomatch h
theorem Go.refl {dl : Dl} {H G : Hp} (s : Same G H) (d : DlOk dl H G) : Go dl H G H G := ⟨fun _ _ h _ => h, Same.refl _, s, fun _ _ h => .inl h, d⟩
theorem Go.trans {dl : Dl} {H0 G0 H G H' G' : Hp} (a : Go dl H0 G0 H G) (b : Go dl H G H' G') : Go dl H0 G0 H' G' where
  keep := fun x o h n => b.keep x o (a.keep x o h n) n
  grow := a.grow.trans b.grow
  sub := b.sub
  new := fun x o h => by
    rcases b.new x o h with h | h
    · exact a.new x o h
    · right
      cases q : H0 x with
      | none => rfl
      | some u =>
        by_cases n : NotDl dl x
        · rw [a.keep x u q n] at h
          cases h
        · exfalso
          apply n
          intro p l e
          obtain ⟨⟨ns, m, h1, h2, _⟩, _⟩ := a.deal p l e
          exact ⟨fun z => (by rw [z, h1] at h; cases h), fun z => (by rw [z, h2] at h; cases h)⟩
  deal := b.deal
/-- a step that does not touch the deal -/
theorem Go.lift {dl : Dl} {H G H' G' : Hp} (d : DlOk dl H G) (b : Go none H G H' G') : Go dl H G H' G' where
  keep := fun x o h _ => b.keep x o h .non
  grow := b.grow
  sub := b.sub
  new := b.new
  deal := fun p l e => by
    obtain ⟨⟨ns, m, h1, h2, h3⟩, g1, g2⟩ := d p l e
    refine ⟨⟨ns, m, b.keep _ _ h1 .non, b.keep _ _ h2 .non, h3⟩, ?_, ?_⟩
    · cases q : G' p with
      | none => rfl
      | some o => rcases b.new _ _ q with z | z
                  · rw [g1] at z; cases z
                  · rw [h1] at z; cases z
    · cases q : G' l with
      | none => rfl
      | some o => rcases b.new _ _ q with z | z
                  · rw [g2] at z; cases z
                  · rw [h2] at z; cases z
/-- a new object, known at once -/
theorem Go.laid {H G : Hp} {p : Addr} {o : HO} (s : Same G H) (n : H p = none) : Go none H G (upd H p o) (upd G p o) where
  keep := fun a u h _ => by rw [upd_ne (ne_of_none h n)]; exact h
  grow := fun a u h => by rw [upd_ne (ne_of_none (s _ _ h) n)]; exact h
  sub := fun a u h => by
    by_cases e : a = p
    · subst e
      rw [upd_same] at h ⊢
      exact h
    · rw [upd_ne e] at h ⊢
      exact s _ _ h
  new := fun a u h => by
    by_cases e : a = p
    · subst e
      exact .inr n
    · rw [upd_ne e] at h
      exact .inl h
  deal := fun _ _ h => nomatch h
/-- a new object, one's own -/
theorem Go.mine {H G : Hp} {p : Addr} {o : HO} (s : Same G H) (n : H p = none) : Go none H G (upd H p o) G where
  keep := fun a u h _ => by rw [upd_ne (ne_of_none h n)]; exact h
  grow := Same.refl _
  sub := fun a u h => by rw [upd_ne (ne_of_none (s _ _ h) n)]; exact s _ _ h
  new := fun a u h => .inl h
  deal := fun _ _ h => nomatch h

/-! ### the state -/
def ExcIs (K : Fg) (G : Hp) (d : Option Addr) (fs : List (Str × D)) : Prop := (fs = [] ∧ d = none) ∨ ∃ dd fv, d = some dd ∧ G dd = some (.xd fv) ∧ RepF K G fv fs
theorem ExcIs.mono {K : Fg} {G G' : Hp} {d : Option Addr} {fs : List (Str × D)} (s : Same G G') (h : ExcIs K G d fs) : ExcIs K G' d fs := by
  rcases h with h | ⟨dd, fv, h1, h2, h3⟩
  · exact .inl h
  · exact .inr ⟨dd, fv, h1, s _ _ h2, h3.mono s⟩
inductive Sl where
  | un | dat (d : D) | own (ds : List D) | deal | exn (a C : Addr) (d : Option Addr) (fs : List (Str × D)) | self (C : Addr) (fs : List (Str × D))
structure Ct where
  dl : Dl
  sf : Option Addr
  He : Hp
  Ge : Hp
structure Cr (c : Ct) (H G : Hp) : Prop where
  keep : ∀ a o, c.He a = some o → NotDl c.dl a → c.sf ≠ some a → H a = some o
  grow : Same c.Ge G
  sub : Same G H
  new : ∀ a o, G a = some o → c.Ge a = some o ∨ c.He a = none
  dlok : DlOk c.dl H G
  he : ∀ p l, c.dl = some (p, l) → c.He p ≠ none ∧ c.He l ≠ none
  sfo : ∀ a, c.sf = some a → ∃ C dx fv, H a = some (.ins C dx fv)
theorem NotDl.of_ins {dl : Dl} {H G : Hp} (d : DlOk dl H G) {a C dx : Addr} {fv : List (Str × V)} (h : H a = some (.ins C dx fv)) : NotDl dl a := fun p l e => by
  obtain ⟨⟨ns, m, h1, h2, _⟩, _⟩ := d p l e
  exact ⟨fun z => (by rw [z, h1] at h; cases h), fun z => (by rw [z, h2] at h; cases h)⟩
theorem Cr.step {c : Ct} {H G H' G' : Hp} (a : Cr c H G) (b : Go c.dl H G H' G') : Cr c H' G' where
  keep := fun x o h n m => b.keep x o (a.keep x o h n m) n
  grow := a.grow.trans b.grow
  sub := b.sub
  new := fun x o h => by
    rcases b.new x o h with h | h
    · exact a.new x o h
    · right
      cases q : c.He x with
      | none => rfl
      | some u =>
        by_cases n : NotDl c.dl x
        · by_cases m : c.sf = some x
          · obtain ⟨C, dx, fv, e⟩ := a.sfo x m
            rw [h] at e
            cases e
          · rw [a.keep x u q n m] at h
            cases h
        · exfalso
          apply n
          intro p l e
          obtain ⟨⟨ns, m, h1, h2, _⟩, _⟩ := a.dlok p l e
          exact ⟨fun z => (by rw [z, h1] at h; cases h), fun z => (by rw [z, h2] at h; cases h)⟩
  dlok := b.deal
  he := a.he
  sfo := fun x e => by
    obtain ⟨C, dx, fv, h⟩ := a.sfo x e
    exact ⟨C, dx, fv, b.keep x _ h (NotDl.of_ins a.dlok h)⟩
theorem Cr.go {c : Ct} {H G : Hp} (a : Cr c H G) (h : c.sf = none) : Go c.dl c.He c.Ge H G :=
  ⟨fun x o q n => a.keep x o q n (by rw [h]; exact fun z => nomatch z), a.grow, a.sub, a.new, a.dlok⟩
def SlotOk (K : Fg) (c : Ct) (H G : Hp) (x : Option V) : Sl → Prop
  | .un => True
  | .dat d => ∃ v, x = some v ∧ Rep K G v d
  | .own ds => ∃ p xs, x = some (.ref p) ∧ H p = some (.lst xs) ∧ G p = none ∧ c.He p = none ∧ RepL K G xs ds
  | .deal => ∃ p l, c.dl = some (p, l) ∧ x = some (.ref p)
  | .exn a C d fs => x = some (.ref a) ∧ ExcIs K G d fs
  | .self C fs => ∃ a dx fv, x = some (.ref a) ∧ c.sf = some a ∧ H a = some (.ins C dx fv) ∧ G a = none ∧ fv.length ≤ 900 ∧ RepF K G fv fs
structure RS (K : Fg) (c : Ct) (H G : Hp) (σ : St) (δ : List Sl) : Prop where
  len : σ.length = δ.length
  at_ : ∀ (i : Nat) (s : Sl), δ[i]? = some s → ∃ x, σ[i]? = some x ∧ SlotOk K c H G x s
  sep : ∀ (i j : Nat) (p : Addr) (ds es : List D), i ≠ j → δ[i]? = some (.own ds) → δ[j]? = some (.own es) → σ[i]? = some (some (.ref p)) → σ[j]? ≠ some (some (.ref p))
theorem SlotOk.step {K : Fg} {c : Ct} {H G H' G' : Hp} (cr : Cr c H G) (b : Go c.dl H G H' G') {x : Option V} {s : Sl} (h : SlotOk K c H G x s) : SlotOk K c H' G' x s := by
  cases s with
  | un => trivial
  | dat d =>
    obtain ⟨v, e, r⟩ := h
    exact ⟨v, e, r.mono b.grow⟩
  | own ds =>
    obtain ⟨p, xs, e, h1, h2, h3, r⟩ := h
    refine ⟨p, xs, e, b.keep _ _ h1 fun p' l' e' => ?_, ?_, h3, r.mono b.grow⟩
    · obtain ⟨q1, q2⟩ := cr.he _ _ e'
      exact ⟨fun z => q1 (z ▸ h3), fun z => q2 (z ▸ h3)⟩
    · cases q : G' p with
      | none => rfl
      | some o => rcases b.new _ _ q with z | z
                  · rw [h2] at z; cases z
                  · rw [h1] at z; cases z
  | deal => exact h
  | exn a C d fs => exact ⟨h.1, h.2.mono b.grow⟩
  | self C fs =>
    obtain ⟨a, dx, fv, e, h1, h2, h3, h4, r⟩ := h
    refine ⟨a, dx, fv, e, h1, b.keep _ _ h2 (NotDl.of_ins cr.dlok h2), ?_, h4, r.mono b.grow⟩
    cases q : G' a with
    | none => rfl
    | some o => rcases b.new _ _ q with z | z
                · rw [h3] at z; cases z
                · rw [h2] at z; cases z
theorem RS.step {K : Fg} {c : Ct} {H G H' G' : Hp} {σ : St} {δ : List Sl} (r : RS K c H G σ δ) (cr : Cr c H G) (b : Go c.dl H G H' G') : RS K c H' G' σ δ :=
  ⟨r.len, fun i s e => let ⟨x, h1, h2⟩ := r.at_ i s e; ⟨x, h1, h2.step cr b⟩, r.sep⟩
/-- a slot takes a value that is known -/
theorem RS.set {K : Fg} {c : Ct} {H G : Hp} {σ : St} {δ : List Sl} (r : RS K c H G σ δ) {v : V} {d : D} (i : Nat) (q : Rep K G v d) : RS K c H G (σ.set i (some v)) (δ.set i (.dat d)) where
  len := by rw [List.length_set, List.length_set]; exact r.len
  at_ := fun j s e => by
    by_cases h : i = j
    · subst h
      have hl : i < δ.length := by
        have := (List.getElem?_eq_some_iff.mp e).1
        rwa [List.length_set] at this
      rw [List.getElem?_set_self hl] at e
      cases e
      exact ⟨some v, by rw [List.getElem?_set_self (by rw [r.len]; exact hl)], v, rfl, q⟩
    · rw [List.getElem?_set_ne h] at e ⊢
      exact r.at_ j s e
  sep := fun j k p ds es n e1 e2 h => by
    have nj : i ≠ j := fun z => by
      subst z
      have hl : i < δ.length := by
        have := (List.getElem?_eq_some_iff.mp e1).1
        rwa [List.length_set] at this
      rw [List.getElem?_set_self hl] at e1
      cases e1
    have nk : i ≠ k := fun z => by
      subst z
      have hl : i < δ.length := by
        have := (List.getElem?_eq_some_iff.mp e2).1
        rwa [List.length_set] at this
      rw [List.getElem?_set_self hl] at e2
      cases e2
    rw [List.getElem?_set_ne nj] at e1 h
    rw [List.getElem?_set_ne nk] at e2 ⊢
    exact r.sep j k p ds es n e1 e2 h
/-- a slot is forgotten -/
theorem RS.forget {K : Fg} {c : Ct} {H G : Hp} {σ : St} {δ : List Sl} (r : RS K c H G σ δ) (i : Nat) (x : Option V) : RS K c H G (σ.set i x) (δ.set i .un) where
  len := by rw [List.length_set, List.length_set]; exact r.len
  at_ := fun j s e => by
    by_cases h : i = j
    · subst h
      have hl : i < δ.length := by
        have := (List.getElem?_eq_some_iff.mp e).1
        rwa [List.length_set] at this
      rw [List.getElem?_set_self hl] at e
      cases e
      exact ⟨x, by rw [List.getElem?_set_self (by rw [r.len]; exact hl)], trivial⟩
    · rw [List.getElem?_set_ne h] at e ⊢
      exact r.at_ j s e
  sep := fun j k p ds es n e1 e2 h => by
    have nj : i ≠ j := fun z => by
      subst z
      have hl : i < δ.length := by
        have := (List.getElem?_eq_some_iff.mp e1).1
        rwa [List.length_set] at this
      rw [List.getElem?_set_self hl] at e1
      cases e1
    have nk : i ≠ k := fun z => by
      subst z
      have hl : i < δ.length := by
        have := (List.getElem?_eq_some_iff.mp e2).1
        rwa [List.length_set] at this
      rw [List.getElem?_set_self hl] at e2
      cases e2
    rw [List.getElem?_set_ne nj] at e1 h
    rw [List.getElem?_set_ne nk] at e2 ⊢
    exact r.sep j k p ds es n e1 e2 h
end DL

set_option Elab.async false
set_option linter.all false
set_option maxRecDepth 100000
set_option maxHeartbeats 4000000
namespace DL
open PySem L2

/-! ### judgements -/
abbrev XD := Addr × List (Str × D)
abbrev XC := XD → Prop
abbrev ME := List Sl → (D → Prop) → XC → Prop
abbrev MT := List Sl → (Bool → Prop) → XC → Prop
abbrev MA := List Sl → (List D → Prop) → XC → Prop
def XW (K : Fg) (c : Ct) (H G : Hp) (σ : St) (X : XC) (W : WX) : Prop := ∀ C fs d H' G', Go c.dl H G H' G' → ExcIs K G' d fs → X (C, fs) → W (.ref C) d σ H'
theorem XW.step {K : Fg} {c : Ct} {H G H' G' : Hp} {σ : St} {X : XC} {W : WX} (x : XW K c H G σ X W) (b : Go c.dl H G H' G') : XW K c H' G' σ X W := fun C fs d H2 G2 g e q => x C fs d H2 G2 (b.trans g) e q
theorem XW.no {K : Fg} {c : Ct} {H G : Hp} {σ : St} {W : WX} : XW K c H G σ (fun _ => False) W := fun _ _ _ _ _ _ _ q => q.elim

def WE (K : Fg) (c : Ct) (W : WX) (t : TE) (m : ME) : Prop := ∀ H G σ δ (F : D → Prop) (X : XC) (Q : VK), Cr c H G → RS K c H G σ δ → m δ F X →
  (∀ v d H' G', Go c.dl H G H' G' → Rep K G' v d → F d → Q v H') → XW K c H G σ X W → t σ H Q
def WT (K : Fg) (c : Ct) (W : WX) (t : TT) (m : MT) : Prop := ∀ H G σ δ (F : Bool → Prop) (X : XC) (Q : Bool → Hp → Prop), Cr c H G → RS K c H G σ δ → m δ F X →
  (∀ b H' G', Go c.dl H G H' G' → F b → Q b H') → XW K c H G σ X W → t σ H Q
def WA (K : Fg) (c : Ct) (W : WX) (t : TA) (m : MA) : Prop := ∀ H G σ δ (F : List D → Prop) (X : XC) (Q : List V → Hp → Prop), Cr c H G → RS K c H G σ δ → m δ F X →
  (∀ vs ds H' G', Go c.dl H G H' G' → RepL K G' vs ds → F ds → Q vs H') → XW K c H G σ X W → t σ H Q
structure DE (X : Cx) (c : Ct) (W : WX) (e : Expr) (t : TE) (m : ME) : Prop where
  p : PE X e t
  w : WE X.K c W t m
structure DT (X : Cx) (c : Ct) (W : WX) (e : Expr) (t : TT) (m : MT) : Prop where
  p : PT X e t
  w : WT X.K c W t m
structure DW (X : Cx) (c : Ct) (W : WX) (e : Expr) (t : TT) (m : MT) : Prop where
  p : PW X e t
  w : WT X.K c W t m
structure DA (X : Cx) (c : Ct) (W : WX) (es : List Expr) (t : TA) (m : MA) : Prop where
  p : PA X es t
  w : WA X.K c W t m

section
variable {X : Cx} {c : Ct} {W : WX} {e a b : Expr} {es : List Expr} {pos : Pos} {m ma mb : ME} {K : Fg} {te ta tb : TE}

theorem Cr.rfl' {c : Ct} {H G : Hp} (cr : Cr c H G) : Go c.dl H G H G := Go.refl cr.sub cr.dlok

/-! ### names, constants -/
def mVar (i : Nat) : ME := fun δ F _ => match δ[i]? with
  | some (.dat d) => F d
  | _ => False
def mC (d : D) : ME := fun _ F _ => F d
theorem we_var {i : Nat} : WE K c W (tVar i) (mVar i) := fun H G σ δ F X Q cr rs h q _ => by
  unfold mVar at h
  split at h
  · rename_i d e
    obtain ⟨x, h1, v, h2, h3⟩ := rs.at_ _ _ e
    subst h2
    exact ⟨v, h1, q v d H G cr.rfl' h3 h⟩
  · exact h.elim
theorem we_c {v : V} {d : D} (r : ∀ G, Rep K G v d) : WE K c W (tC v) (mC d) := fun H G σ δ F X Q cr rs h q _ => q v d H G cr.rfl' (r G) h
theorem de_var (i : Nat) {x : Str} (hN : X.N[i]? = some x := by rfl) (hv : Vis X.env.scope x := by first | exact Or.inl rfl | exact Or.inr (Or.inl rfl) | exact Or.inr (Or.inr rfl)) (hd : (x == ("__debug__" : Str)) = false := by decide)
    (hcd : (x == ("__classdict__" : Str)) = false := by decide) : DE X c W (.Name x pos) (tVar i) (mVar i) := ⟨pe_var hN hv hd hcd, we_var⟩
theorem de_int {i j} : DE X c W (.Constant (.int i) j pos) (tC (.int i)) (mC (.int i)) := ⟨pe_int, we_c fun _ => .int i⟩
theorem de_bl {i j} : DE X c W (.Constant (.bool i) j pos) (tC (.bl i)) (mC (.bl i)) := ⟨pe_bl, we_c fun _ => .bl i⟩
theorem de_non {j} : DE X c W (.Constant .none j pos) (tC .non) (mC .non) := ⟨pe_non, we_c fun _ => .non⟩
theorem de_str {i j} : DE X c W (.Constant (.str i) j pos) (tC (.str i)) (mC (.str i)) := ⟨pe_str, we_c fun _ => .str i⟩
theorem de_glob {x : Str} {v : V} {u : Value} {d : D} (hg : Gl X x) (hm : X.mg x = some u) (r : RelV v u) (k : ∀ G, Rep X.K G v d) (hd : (x == ("__debug__" : Str)) = false := by decide) : DE X c W (.Name x pos) (tC v) (mC d) :=
  ⟨pe_glob hg hm r hd, we_c k⟩
theorem de_bltn {x : Str} {v : V} {u : Value} (hg : Gl X x) (hm : X.mg x = none) (hv : bootBuiltins x = some u) (r : RelV v u) (hn : x ≠ "__name__" := by decide) (hd : (x == ("__debug__" : Str)) = false := by decide) : DE X c W (.Name x pos) (tC v) (mC (.fx v)) :=
  ⟨pe_bltn hg hm hv r hn hd, we_c fun _ => .fx v⟩

/-! ### operators -/
/-- an operation's reading, by data -/
def RD (K : Fg) (r : R2) (g : D → D → (D → Prop) → Prop) : Prop := ∀ H G x y d e (F : D → Prop) (Q : VK), Same G H → Rep K G x d → Rep K G y e → g d e F → (∀ v d' H' G', Go none H G H' G' → Rep K G' v d' → F d' → Q v H') → r x y H Q
def mOp (g : D → D → (D → Prop) → Prop) (ma mb : ME) : ME := fun δ F X => ma δ (fun d => mb δ (fun e => g d e F) X) X
theorem we_op {r : R2} {g : D → D → (D → Prop) → Prop} {ta tb : TE} (hr : RD K r g) (ha : WE K c W ta ma) (hb : WE K c W tb mb) : WE K c W (tOp r ta tb) (mOp g ma mb) := fun H G σ δ F X Q cr rs h q x => by
  refine ha H G σ δ _ X _ cr rs h (fun v d H1 G1 g1 r1 h1 => ?_) x
  refine hb H1 G1 σ δ _ X _ (cr.step g1) (rs.step cr g1) h1 (fun u e H2 G2 g2 r2 h2 => ?_) (x.step g1)
  exact hr H2 G2 v u d e F Q g2.sub (r1.mono g2.grow) r2 h2 fun w d' H' G' g3 r3 f => q w d' H' G' ((g1.trans g2).trans (g3.lift g2.deal)) r3 f
theorem de_op {op : Operator} {r : R2} {g : D → D → (D → Prop) → Prop} (ho : OpR X (binaryOp op) r) (hr : RD X.K r g) (ha : DE X c W a ta ma) (hb : DE X c W b tb mb) : DE X c W (.BinOp a op b pos) (tOp r ta tb) (mOp g ma mb) := by
  obtain ⟨pa, wa⟩ := ha
  obtain ⟨pb, wb⟩ := hb
  exact ⟨pe_op ho pa pb, we_op hr wa wb⟩
theorem de_cmp {op : CmpOp} {r : R2} {g : D → D → (D → Prop) → Prop} (ho : OpR X (compareOp op) r) (hr : RD X.K r g) (ha : DE X c W a ta ma) (hb : DE X c W b tb mb) (hm : behindInMarks op b = false) : DE X c W (.Compare a [op] [b] pos) (tOp r ta tb) (mOp g ma mb) := by
  obtain ⟨pa, wa⟩ := ha
  obtain ⟨pb, wb⟩ := hb
  exact ⟨pe_cmpR ho pa pb hm, we_op hr wa wb⟩
/-- a test of a value that is a bool -/
def mB (m : ME) : MT := fun δ F X => m δ (fun d => match d with
  | .bl b => F b
  | _ => False) X
theorem wt_B {t : TE} (h : WE K c W t m) : WT K c W (tTest t) (mB m) := fun H G σ δ F X Q cr rs hm q x => by
  refine h H G σ δ _ X _ cr rs hm (fun v d H' G' g r f => ?_) x
  split at f
  · rename_i b
    exact ⟨b, r.bl_of, q b H' G' g f⟩
  · exact f.elim
theorem dt_cmp {op : CmpOp} {r : R2} {g : D → D → (D → Prop) → Prop} (ho : OpR X (compareOp op) r) (hr : RD X.K r g) (ha : DE X c W a ta ma) (hb : DE X c W b tb mb) (hm : behindInMarks op b = false) : DT X c W (.Compare a [op] [b] pos) (tTest (tOp r ta tb)) (mB (mOp g ma mb)) := by
  obtain ⟨pa, wa⟩ := ha
  obtain ⟨pb, wb⟩ := hb
  exact ⟨pt_cmpR ho pa pb hm, wt_B (we_op hr wa wb)⟩
/-- truth -/
def truD : D → Option Bool
  | .non => some false
  | .bl b => some b
  | .int i => some (i != 0)
  | .str x => if x.length ≤ sizeLine then some ((x.length : Int) != 0) else none
  | .lst xs => some (!xs.isEmpty)
  | .tup xs => some (!xs.isEmpty)
  | _ => none
theorem RepL.isEmpty {G : Hp} {xs : List V} {ds : List D} (r : RepL K G xs ds) : xs.isEmpty = ds.isEmpty := by cases r <;> rfl
theorem tru_of {G H : Hp} (s : Same G H) {v : V} {d : D} {k : Bool} (r : Rep K G v d) (e : truD d = some k) : TruV K v H k := by
  cases r with
  | non => cases e; exact rfl
  | bl b => cases e; exact rfl
  | int i => cases e; exact rfl
  | str x =>
    have e : (if x.length ≤ sizeLine then some ((x.length : Int) != 0) else none) = some k := e
    split at e
    · rename_i hx
      cases e
      exact ⟨hx, rfl⟩
    · cases e
  | lst h1 h2 => cases e; exact .inl ⟨_, SqL.of (s _ _ h1), by rw [h2.isEmpty]⟩
  | tup h1 h2 => cases e; exact .inr (.inl ⟨_, same_t s h1, by rw [h2.isEmpty]⟩)
  | obj _ _ => cases e
  | fx _ => cases e
  | scr _ _ => cases e
def mTru (m : ME) : MT := fun δ F X => m δ (fun d => match truD d with
  | some b => F b
  | none => False) X
theorem dt_truth (ha : DE X c W a ta ma) (he : ∀ whole, isTrue a X.env whole = (do let v ← whole; standAt a.pos; holding [v] (truthy v)) := by intro _; rfl) : DT X c W a (fun σ H Q => ta σ H fun x H' => ∃ k, TruV X.K x H' k ∧ Q k H') (mTru ma) := by
  obtain ⟨pa, wa⟩ := ha
  refine ⟨pt_truth pa he, fun H G σ δ F X Q cr rs hm q x => ?_⟩
  refine wa H G σ δ _ X _ cr rs hm (fun v d H' G' g r f => ?_) x
  split at f
  · rename_i k e
    exact ⟨k, tru_of g.sub r e, q k H' G' g f⟩
  · exact f.elim
/-! and, or, not as tests -/
def mtAnd (p q : MT) : MT := fun δ F X => p δ (fun b => if b = true then q δ F X else F false) X
def mtOr (p q : MT) : MT := fun δ F X => p δ (fun b => if b = true then F true else q δ F X) X
def mtNot (p : MT) : MT := fun δ F X => p δ (fun b => F (!b)) X
variable {rest : List Expr} {p q : MT} {tp tq : TT}
theorem DW.dt (h : DW X c W e tp p) : DT X c W e tp p := ⟨h.p.pt, h.w⟩
theorem dw_and1 (h : DT X c W a tp p) : DW X c W (.BoolOp .And [a] pos) tp p := ⟨pw_and1 h.p, h.w⟩
theorem dw_or1 (h : DT X c W a tp p) : DW X c W (.BoolOp .Or [a] pos) tp p := ⟨pw_or1 h.p, h.w⟩
theorem dw_and (ha : DT X c W a tp p) (hb : DW X c W (.BoolOp .And (b :: rest) pos) tq q) : DW X c W (.BoolOp .And (a :: b :: rest) pos) (tAnd tp tq) (mtAnd p q) := by
  obtain ⟨pa, wa⟩ := ha
  obtain ⟨pb, wb⟩ := hb
  refine ⟨pw_and pa pb, fun H G σ δ F X Q cr rs hm k x => ?_⟩
  refine wa H G σ δ _ X _ cr rs hm (fun z H1 G1 g1 f => ?_) x
  cases z with
  | true => exact wb H1 G1 σ δ F X Q (cr.step g1) (rs.step cr g1) f (fun z H2 G2 g2 f2 => k z H2 G2 (g1.trans g2) f2) (x.step g1)
  | false => exact k false H1 G1 g1 f
theorem dw_or (ha : DT X c W a tp p) (hb : DW X c W (.BoolOp .Or (b :: rest) pos) tq q) : DW X c W (.BoolOp .Or (a :: b :: rest) pos) (tOr tp tq) (mtOr p q) := by
  obtain ⟨pa, wa⟩ := ha
  obtain ⟨pb, wb⟩ := hb
  refine ⟨pw_or pa pb, fun H G σ δ F X Q cr rs hm k x => ?_⟩
  refine wa H G σ δ _ X _ cr rs hm (fun z H1 G1 g1 f => ?_) x
  cases z with
  | true => exact k true H1 G1 g1 f
  | false => exact wb H1 G1 σ δ F X Q (cr.step g1) (rs.step cr g1) f (fun z H2 G2 g2 f2 => k z H2 G2 (g1.trans g2) f2) (x.step g1)
theorem dt_not (ha : DT X c W a tp p) : DT X c W (.UnaryOp .Not a pos) (tNot tp) (mtNot p) := by
  obtain ⟨pa, wa⟩ := ha
  exact ⟨pt_not pa, fun H G σ δ F X Q cr rs hm k x => wa H G σ δ _ X _ cr rs hm (fun z H1 G1 g1 f => k _ H1 G1 g1 f) x⟩
/-! as values, by truth -/
def mOrV (ma mb : ME) : ME := fun δ F X => ma δ (fun d => match truD d with
  | some true => F d
  | some false => mb δ F X
  | none => False) X
def mAndV (ma mb : ME) : ME := fun δ F X => ma δ (fun d => match truD d with
  | some false => F d
  | some true => mb δ F X
  | none => False) X
def mNotV (ma : ME) : ME := fun δ F X => ma δ (fun d => match truD d with
  | some b => F (.bl (!b))
  | none => False) X
theorem de_one {op} (h : DE X c W a ta m) : DE X c W (.BoolOp op [a] pos) ta m := ⟨pe_one h.p, h.w⟩
theorem de_or (ha : DE X c W a ta ma) (hb : DE X c W (.BoolOp .Or (b :: rest) pos) tb mb) : DE X c W (.BoolOp .Or (a :: b :: rest) pos) (tOrT X.K ta tb) (mOrV ma mb) := by
  obtain ⟨pa, wa⟩ := ha
  obtain ⟨pb, wb⟩ := hb
  refine ⟨pe_orT pa pb, fun H G σ δ F X Q cr rs hm k x => ?_⟩
  refine wa H G σ δ _ X _ cr rs hm (fun v d H1 G1 g1 r1 f => ?_) x
  split at f
  · rename_i e
    exact ⟨true, tru_of g1.sub r1 e, iteT (k v d H1 G1 g1 r1 f)⟩
  · rename_i e
    exact ⟨false, tru_of g1.sub r1 e, iteF (wb H1 G1 σ δ F X Q (cr.step g1) (rs.step cr g1) f (fun z d2 H2 G2 g2 r2 f2 => k z d2 H2 G2 (g1.trans g2) r2 f2) (x.step g1))⟩
  · exact f.elim
theorem de_and (ha : DE X c W a ta ma) (hb : DE X c W (.BoolOp .And (b :: rest) pos) tb mb) : DE X c W (.BoolOp .And (a :: b :: rest) pos) (tAndT X.K ta tb) (mAndV ma mb) := by
  obtain ⟨pa, wa⟩ := ha
  obtain ⟨pb, wb⟩ := hb
  refine ⟨pe_andT pa pb, fun H G σ δ F X Q cr rs hm k x => ?_⟩
  refine wa H G σ δ _ X _ cr rs hm (fun v d H1 G1 g1 r1 f => ?_) x
  split at f
  · rename_i e
    exact ⟨false, tru_of g1.sub r1 e, iteF (k v d H1 G1 g1 r1 f)⟩
  · rename_i e
    exact ⟨true, tru_of g1.sub r1 e, iteT (wb H1 G1 σ δ F X Q (cr.step g1) (rs.step cr g1) f (fun z d2 H2 G2 g2 r2 f2 => k z d2 H2 G2 (g1.trans g2) r2 f2) (x.step g1))⟩
  · exact f.elim
theorem de_not (ha : DE X c W a ta ma) : DE X c W (.UnaryOp .Not a pos) (tNotT X.K ta) (mNotV ma) := by
  obtain ⟨pa, wa⟩ := ha
  refine ⟨pe_notT pa, fun H G σ δ F X Q cr rs hm k x => ?_⟩
  refine wa H G σ δ _ X _ cr rs hm (fun v d H1 G1 g1 r1 f => ?_) x
  split at f
  · rename_i b e
    exact ⟨b, tru_of g1.sub r1 e, k _ _ H1 G1 g1 (.bl _) f⟩
  · exact f.elim
/-- a if t else b -/
def mIf (p : MT) (ma mb : ME) : ME := fun δ F X => p δ (fun z => if z = true then ma δ F X else mb δ F X) X
theorem de_if {t : Expr} (ht : DT X c W t tp p) (ha : DE X c W a ta ma) (hb : DE X c W b tb mb) : DE X c W (.IfExp t a b pos) (tIf tp ta tb) (mIf p ma mb) := by
  obtain ⟨pt, wt⟩ := ht
  obtain ⟨pa, wa⟩ := ha
  obtain ⟨pb, wb⟩ := hb
  refine ⟨pe_ifExp pt pa pb, fun H G σ δ F X Q cr rs hm k x => ?_⟩
  refine wt H G σ δ _ X _ cr rs hm (fun z H1 G1 g1 f => ?_) x
  cases z with
  | true => exact wa H1 G1 σ δ F X Q (cr.step g1) (rs.step cr g1) f (fun z d2 H2 G2 g2 r2 f2 => k z d2 H2 G2 (g1.trans g2) r2 f2) (x.step g1)
  | false => exact wb H1 G1 σ δ F X Q (cr.step g1) (rs.step cr g1) f (fun z d2 H2 G2 g2 r2 f2 => k z d2 H2 G2 (g1.trans g2) r2 f2) (x.step g1)
/-- a op b op' c -/
def mChain (g g' : D → D → (D → Prop) → Prop) (ma mb mc : ME) : ME := fun δ F X => ma δ (fun d => mb δ (fun e => g d e fun z => match z with
  | .bl true => mc δ (fun f => g' e f F) X
  | .bl false => F (.bl false)
  | _ => False) X) X
theorem we_chain {r r' : R2} {g g' : D → D → (D → Prop) → Prop} {ta tb tc : TE} {mc : ME} (hr : RD K r g) (hr' : RD K r' g') (wa : WE K c W ta ma) (wb : WE K c W tb mb) (wc : WE K c W tc mc) : WE K c W (tChain r r' ta tb tc) (mChain g g' ma mb mc) := fun H G σ δ F X Q cr rs h q x => by
  refine wa H G σ δ _ X _ cr rs h (fun v d H1 G1 g1 r1 h1 => ?_) x
  refine wb H1 G1 σ δ _ X _ (cr.step g1) (rs.step cr g1) h1 (fun u e H2 G2 g2 r2 h2 => ?_) (x.step g1)
  refine hr H2 G2 v u d e _ _ g2.sub (r1.mono g2.grow) r2 h2 fun w d' H3 G3 g3 r3 f => ?_
  have g13 := (g1.trans g2).trans (g3.lift g2.deal)
  split at f
  · refine ⟨true, r3.bl_of, iteT ?_⟩
    refine wc H3 G3 σ δ _ X _ (cr.step g13) (rs.step cr g13) f (fun y f' H4 G4 g4 r4 h4 => ?_) (x.step g13)
    refine hr' H4 G4 u y e f' F Q g4.sub ((r2.mono g3.grow).mono g4.grow) r4 h4 fun w2 d2 H5 G5 g5 r5 f5 => ?_
    exact q w2 d2 H5 G5 ((g13.trans g4).trans (g5.lift g4.deal)) r5 f5
  · exact ⟨false, r3.bl_of, iteF (q (.bl false) _ H3 G3 g13 (.bl false) f)⟩
  · exact f.elim
theorem de_chain {op op' : CmpOp} {r r' : R2} {g g' : D → D → (D → Prop) → Prop} {cc : Expr} {mc : ME} {tc : TE} (ho : OpR X (compareOp op) r) (ho' : OpR X (compareOp op') r') (hr : RD X.K r g) (hr' : RD X.K r' g') (ha : DE X c W a ta ma) (hb : DE X c W b tb mb) (hc : DE X c W cc tc mc) (hm : lastMarks [op, op'] [b, cc] = false := by rfl) :
    DE X c W (.Compare a [op, op'] [b, cc] pos) (tChain r r' ta tb tc) (mChain g g' ma mb mc) := by
  obtain ⟨pa, wa⟩ := ha
  obtain ⟨pb, wb⟩ := hb
  obtain ⟨pc, wc⟩ := hc
  exact ⟨pe_chain ho ho' pa pb pc hm, we_chain hr hr' wa wb wc⟩
theorem dt_chain {op op' : CmpOp} {r r' : R2} {g g' : D → D → (D → Prop) → Prop} {cc : Expr} {mc : ME} {tc : TE} (ho : OpR X (compareOp op) r) (ho' : OpR X (compareOp op') r') (hr : RD X.K r g) (hr' : RD X.K r' g') (ha : DE X c W a ta ma) (hb : DE X c W b tb mb) (hc : DE X c W cc tc mc) (hm : lastMarks [op, op'] [b, cc] = false := by rfl) :
    DT X c W (.Compare a [op, op'] [b, cc] pos) (tTest (tChain r r' ta tb tc)) (mB (mChain g g' ma mb mc)) := by
  obtain ⟨pa, wa⟩ := ha
  obtain ⟨pb, wb⟩ := hb
  obtain ⟨pc, wc⟩ := hc
  exact ⟨pt_chain ho ho' pa pb pc hm, wt_B (we_chain hr hr' wa wb wc)⟩

/-! ### argument lists, displays -/
def maNil : MA := fun _ F _ => F []
def maCons (ma : ME) (mr : MA) : MA := fun δ F X => ma δ (fun d => mr δ (fun ds => F (d :: ds)) X) X
theorem da_nil : DA X c W [] tNil maNil := ⟨pa_nil, fun H G σ δ F X Q cr rs h q _ => q [] [] H G cr.rfl' .nil h⟩
theorem da_cons {mr : MA} {tr : TA} (ha : DE X c W e ta ma) (hr : DA X c W es tr mr) (hs : starEach (e :: es) X.env = (false, eval e X.env) :: starEach es X.env := by rfl) : DA X c W (e :: es) (tCons ta tr) (maCons ma mr) := by
  obtain ⟨pa, wa⟩ := ha
  obtain ⟨pr, wr⟩ := hr
  refine ⟨pa_cons pa pr hs, fun H G σ δ F X Q cr rs h q x => ?_⟩
  refine wa H G σ δ _ X _ cr rs h (fun v d H1 G1 g1 r1 h1 => ?_) x
  exact wr H1 G1 σ δ _ X _ (cr.step g1) (rs.step cr g1) h1 (fun vs ds H2 G2 g2 r2 h2 => q _ _ H2 G2 (g1.trans g2) (.cons (r1.mono g2.grow) r2) h2) (x.step g1)
theorem RepL.len_le {G : Hp} {xs : List V} {ds : List D} (r : RepL K G xs ds) {n : Nat} (h : ds.length ≤ n) : xs.length ≤ n := by rw [r.length]; exact h
def mTup (m : MA) : ME := fun δ F X => m δ (fun ds => ds.length ≤ sizeLine ∧ F (.tup ds)) X
def mLst (m : MA) : ME := fun δ F X => m δ (fun ds => ds.length ≤ sizeLine ∧ F (.lst ds)) X
theorem de_tup {x1} {mr : MA} {tr : TA} (h : DA X c W es tr mr) : DE X c W (.Tuple es x1 pos) (tTup tr) (mTup mr) := by
  obtain ⟨p, w⟩ := h
  refine ⟨pe_tup p, fun H G σ δ F X Q cr rs h q x => ?_⟩
  refine w H G σ δ _ X _ cr rs h (fun vs ds H1 G1 g1 r1 h1 => ⟨r1.len_le h1.1, fun p hp => ?_⟩) x
  have g2 := Go.laid (o := .tup vs) g1.sub hp
  exact q _ _ _ _ (g1.trans (g2.lift g1.deal)) (.tup (SqT.of upd_same) (r1.mono g2.grow)) h1.2
theorem de_lst {mr : MA} {tr : TA} (h : DA X c W es tr mr) : DE X c W (.List es pos) (tLst tr) (mLst mr) := by
  obtain ⟨p, w⟩ := h
  refine ⟨pe_lst p, fun H G σ δ F X Q cr rs h q x => ?_⟩
  refine w H G σ δ _ X _ cr rs h (fun vs ds H1 G1 g1 r1 h1 => ⟨r1.len_le h1.1, fun p hp => ?_⟩) x
  have g2 := Go.laid (o := .lst vs) g1.sub hp
  exact q _ _ _ _ (g1.trans (g2.lift g1.deal)) (.lst upd_same (r1.mono g2.grow)) h1.2
end

/-! ### the operations by data -/
def gI (C : Int → Int → Prop) (g : Int → Int → D) (d e : D) (F : D → Prop) : Prop := match d, e with
  | .int i, .int j => C i j ∧ F (g i j)
  | _, _ => False
theorem rd_I {K : Fg} {C : Int → Int → Prop} {g : Int → Int → V} {g' : Int → Int → D} (hg : ∀ i j G, Rep K G (g i j) (g' i j)) : RD K (rI C g) (gI C g') := fun H G x y d e F Q s rx ry h q => by
  unfold gI at h
  split at h
  · rename_i i j
    exact ⟨i, j, rx.int_of, ry.int_of, h.1, q _ _ H G (Go.refl s fun _ _ z => nomatch z) (hg i j G) h.2⟩
  · exact h.elim
def gI0 (g : Int → Int → D) (d e : D) (F : D → Prop) : Prop := match d, e with
  | .int i, .int j => F (g i j)
  | _, _ => False
theorem rd_I0 {K : Fg} {g : Int → Int → V} {g' : Int → Int → D} (hg : ∀ i j G, Rep K G (g i j) (g' i j)) : RD K (rI0 g) (gI0 g') := fun H G x y d e F Q s rx ry h q => by
  unfold gI0 at h
  split at h
  · rename_i i j
    exact ⟨i, j, rx.int_of, ry.int_of, q _ _ H G (Go.refl s fun _ _ z => nomatch z) (hg i j G) h⟩
  · exact h.elim
def gAdd (d e : D) (F : D → Prop) : Prop := match d, e with
  | .int i, .int j => F (.int (i + j))
  | .str a, .str b => a.length + b.length ≤ sizeLine ∧ F (.str (a ++ b))
  | .lst a, .lst b => a.length + b.length ≤ sizeLine ∧ F (.lst (a ++ b))
  | .tup a, .tup b => a ≠ [] ∧ b ≠ [] ∧ a.length + b.length ≤ sizeLine ∧ F (.tup (a ++ b))
  | _, _ => False
theorem DlOk.no {H G : Hp} : DlOk none H G := fun _ _ h => nomatch h
def rAddA (K : Fg) : R2 := fun x y H Q => (rI0 fun i j => .int (i + j)) x y H Q ∨ (∃ i j, x = .str i ∧ y = .str j ∧ i.length + j.length ≤ sizeLine ∧ Q (.str (i ++ j)) H) ∨ rCat x y H Q ∨ rCatT K x y H Q
theorem op_addA {X : Cx} : OpR X (binaryOp .Add) (rAddA X.K) := op_add.or (op_add_str.or (op_cat.or op_catT))
theorem RepL.ne_nil {K : Fg} {G : Hp} {xs : List V} {ds : List D} (r : RepL K G xs ds) (h : ds ≠ []) : xs ≠ [] := by
  cases r with
  | nil => exact absurd rfl h
  | cons _ _ => exact fun z => nomatch z
theorem rd_add {K : Fg} : RD K (rAddA K) gAdd := fun H G x y d e F Q s rx ry h q => by
  unfold gAdd at h
  split at h
  · rename_i i j
    exact .inl ⟨i, j, rx.int_of, ry.int_of, q _ _ H G (Go.refl s .no) (.int _) h⟩
  · rename_i a b
    exact .inr (.inl ⟨a, b, rx.str_of, ry.str_of, h.1, q _ _ H G (Go.refl s .no) (.str _) h.2⟩)
  · obtain ⟨p, xs, e1, h1, r1⟩ := rx.lst_of
    obtain ⟨p', ys, e2, h2, r2⟩ := ry.lst_of
    refine .inr (.inr (.inl ⟨p, p', xs, ys, e1, e2, s _ _ h1, s _ _ h2, by rw [r1.length, r2.length]; exact h.1, fun l hl => ?_⟩))
    have g2 := Go.laid (o := .lst (xs ++ ys)) s hl
    exact q _ _ _ _ g2 (.lst upd_same ((r1.append r2).mono g2.grow)) h.2
  · obtain ⟨p, xs, e1, h1, r1⟩ := rx.tup_of
    obtain ⟨p', ys, e2, h2, r2⟩ := ry.tup_of
    refine .inr (.inr (.inr ⟨p, p', xs, ys, e1, e2, same_t s h1, same_t s h2, r1.ne_nil h.1, by rw [r1.length, r2.length]; exact h.2.2.1, fun z => absurd z (r2.ne_nil h.2.1), fun z l hl => ?_⟩))
    have g2 := Go.laid (o := .tup (xs ++ ys)) s hl
    exact q _ _ _ _ g2 (.tup (SqT.of upd_same) ((r1.append r2).mono g2.grow)) h.2.2.2
  · exact h.elim
end DL

set_option Elab.async false
set_option linter.all false
set_option maxRecDepth 100000
set_option maxHeartbeats 4000000
namespace DL
open PySem L2

/-! ### statements -/
structure MK where
  nx : List Sl → Prop
  rt : D → Prop
  bk : List Sl → Prop := fun _ => False
  ct : List Sl → Prop := fun _ => False
  rs : XD → List Sl → Prop := fun _ _ => False
abbrev MS := List Sl → MK → Prop
structure EndsOk (K : Fg) (c : Ct) (G : Hp) (k : MK) (W : WX) (Y : Ends) : Prop where
  nx : ∀ σ δ H' G', Cr c H' G' → RS K c H' G' σ δ → Same G G' → k.nx δ → Y.nx σ H'
  rt : ∀ v d H' G', Cr c H' G' → Rep K G' v d → Same G G' → k.rt d → Y.rt v H'
  bk : ∀ σ δ H' G', Cr c H' G' → RS K c H' G' σ δ → Same G G' → k.bk δ → Y.bk σ H'
  ct : ∀ σ δ H' G', Cr c H' G' → RS K c H' G' σ δ → Same G G' → k.ct δ → Y.ct σ H'
  rs : ∀ C fs d σ δ H' G', Cr c H' G' → RS K c H' G' σ δ → Same G G' → ExcIs K G' d fs → k.rs (C, fs) δ → W (.ref C) d σ H'
theorem EndsOk.mono {K : Fg} {c : Ct} {G G1 : Hp} {k : MK} {W : WX} {Y : Ends} (e : EndsOk K c G k W Y) (s : Same G G1) : EndsOk K c G1 k W Y :=
  ⟨fun σ δ H' G' a b z => e.nx σ δ H' G' a b (s.trans z), fun v d H' G' a b z => e.rt v d H' G' a b (s.trans z), fun σ δ H' G' a b z => e.bk σ δ H' G' a b (s.trans z), fun σ δ H' G' a b z => e.ct σ δ H' G' a b (s.trans z),
    fun C fs d σ δ H' G' a b z => e.rs C fs d σ δ H' G' a b (s.trans z)⟩
theorem EndsOk.xw {K : Fg} {c : Ct} {G H : Hp} {k : MK} {W : WX} {Y : Ends} {σ : St} {δ : List Sl} (e : EndsOk K c G k W Y) (cr : Cr c H G) (rs : RS K c H G σ δ) : XW K c H G σ (fun x => k.rs x δ) W :=
  fun C fs d H' G' g ex q => e.rs C fs d σ δ H' G' (cr.step g) (rs.step cr g) g.grow ex q
def WS (K : Fg) (c : Ct) (W : WX) (t : TS) (m : MS) : Prop := ∀ H G σ δ (k : MK) (Y : Ends), Cr c H G → RS K c H G σ δ → m δ k → EndsOk K c G k W Y → t Y σ H
structure DS (X : Cx) (c : Ct) (W : WX) (s : Stmt) (t : TS) (m : MS) : Prop where
  p : PS X s t
  w : WS X.K c W t m
structure DSs (X : Cx) (c : Ct) (W : WX) (s : List Stmt) (t : TS) (m : MS) : Prop where
  p : PSs X s t
  w : WS X.K c W t m
section
variable {X : Cx} {c : Ct} {W : WX} {e a b : Expr} {es : List Expr} {st : Stmt} {rest : List Stmt} {pos : Pos} {me ma mb : ME} {m m1 m2 : MS} {K : Fg} {te ta tb : TE} {ts t1 t2 : TS} {tp : TT} {tr : TA}
def msNext : MS := fun δ k => k.nx δ
def msSeq (m1 m2 : MS) : MS := fun δ k => m1 δ { k with nx := fun δ' => m2 δ' k }
theorem dss_nil : DSs X c W [] tNext msNext := ⟨pss_nil, fun H G σ δ k Y cr rs h e => e.nx σ δ H G cr rs (Same.refl _) h⟩
theorem dss_cons (h1 : DS X c W st t1 m1) (h2 : DSs X c W rest t2 m2) : DSs X c W (st :: rest) (tSeq t1 t2) (msSeq m1 m2) := by
  obtain ⟨p1, w1⟩ := h1
  obtain ⟨p2, w2⟩ := h2
  refine ⟨pss_cons p1 p2, fun H G σ δ k Y cr rs h e => ?_⟩
  refine w1 H G σ δ _ _ cr rs h ⟨fun σ' δ' H' G' a b z n => ?_, e.rt, e.bk, e.ct, e.rs⟩
  exact w2 H' G' σ' δ' k Y a b n (e.mono z)
theorem dss_one (h1 : DS X c W st ts m) : DSs X c W [st] ts m := ⟨pss_one h1.p, h1.w⟩
def msRet (me : ME) : MS := fun δ k => me δ k.rt (fun x => k.rs x δ)
theorem ds_ret (he : DE X c W e te me) : DS X c W (.Return (some e) pos) (tRet te) (msRet me) := by
  obtain ⟨p, w⟩ := he
  exact ⟨ps_ret p, fun H G σ δ k Y cr rs h e => w H G σ δ _ _ _ cr rs h (fun v d H' G' g r f => e.rt v d H' G' (cr.step g) r g.grow f) (e.xw cr rs)⟩
def msRetN : MS := fun δ k => k.rt .non
theorem ds_retN : DS X c W (.Return none pos) tRetN msRetN := ⟨ps_retN, fun H G σ δ k Y cr rs h e => e.rt .non .non H G cr .non (Same.refl _) h⟩
def msExpr (me : ME) : MS := fun δ k => me δ (fun _ => k.nx δ) (fun x => k.rs x δ)
theorem ds_expr (he : DE X c W e te me) (hs : swapsWith e none pos.line X.env = pure false := by rfl) : DS X c W (.Expr e pos) (tDrop te) (msExpr me) := by
  obtain ⟨p, w⟩ := he
  exact ⟨ps_expr p hs, fun H G σ δ k Y cr rs h e => w H G σ δ _ _ _ cr rs h (fun v d H' G' g r f => e.nx σ δ H' G' (cr.step g) (rs.step cr g) g.grow f) (e.xw cr rs)⟩
def msIf (p : MT) (m1 m2 : MS) : MS := fun δ k => p δ (fun z => if z = true then m1 δ k else m2 δ k) (fun x => k.rs x δ)
theorem ds_if {t : Expr} {p : MT} {s1 s2 : List Stmt} (ht : DT X c W t tp p) (h1 : DSs X c W s1 t1 m1) (h2 : DSs X c W s2 t2 m2) : DS X c W (.If t s1 s2 pos) (tIfS tp t1 t2) (msIf p m1 m2) := by
  obtain ⟨pt, wt⟩ := ht
  obtain ⟨p1, w1⟩ := h1
  obtain ⟨p2, w2⟩ := h2
  refine ⟨ps_if pt p1 p2, fun H G σ δ k Y cr rs h e => ?_⟩
  refine wt H G σ δ _ _ _ cr rs h (fun z H' G' g f => ?_) (e.xw cr rs)
  cases z with
  | true => exact w1 H' G' σ δ k Y (cr.step g) (rs.step cr g) f (e.mono g.grow)
  | false => exact w2 H' G' σ δ k Y (cr.step g) (rs.step cr g) f (e.mono g.grow)
def msSet (i : Nat) (me : ME) : MS := fun δ k => me δ (fun d => k.nx (δ.set i (.dat d))) (fun x => k.rs x δ)
theorem ws_set {i : Nat} {t : TE} (w : WE K c W t me) : WS K c W (tAsg t (gName i)) (msSet i me) := fun H G σ δ k Y cr rs h e =>
  w H G σ δ _ _ _ cr rs h (fun v d H' G' g r f => e.nx _ _ H' G' (cr.step g) ((rs.step cr g).set i r) g.grow f) (e.xw cr rs)
theorem ds_set (i : Nat) {x : Str} {pos' : Pos} (hN : X.N.Nodup) (hi : X.N[i]? = some x) (hx : Loc X.env.scope x) (he : DE X c W e te me) (hs : swapsWith e (some (.Name x pos')) pos.line X.env = pure false := by rfl) (hf : X.fn x = true ∨ X.env.scope.names.lookup x = some .local := by first | exact .inl rfl | exact .inr rfl | assumption) :
    DS X c W (.Assign [.Name x pos'] e pos) (tAsg te (gName i)) (msSet i me) := by
  obtain ⟨p, w⟩ := he
  exact ⟨ps_set hN hi hx p hs hf, ws_set w⟩
theorem ds_pass : DS X c W (.Pass pos) tNext msNext := ⟨ps_pass, fun H G σ δ k Y cr rs h e => e.nx σ δ H G cr rs (Same.refl _) h⟩
def msBrk : MS := fun δ k => k.bk δ
def msCont : MS := fun δ k => k.ct δ
theorem ds_break : DS X c W (.Break pos) tBreak msBrk := ⟨ps_break, fun H G σ δ k Y cr rs h e => e.bk σ δ H G cr rs (Same.refl _) h⟩
theorem ds_continue : DS X c W (.Continue pos) tCont msCont := ⟨ps_continue, fun H G σ δ k Y cr rs h e => e.ct σ δ H G cr rs (Same.refl _) h⟩
end

/-! ### targets -/
abbrev MG := D → List Sl → (List Sl → Prop) → Prop
def WG (K : Fg) (t : TG) (is : List Nat) (m : MG) : Prop := ∀ (c : Ct) H G σ δ v d (F : List Sl → Prop) (Q : St → Hp → Prop), Same G H → RS K c H G σ δ → Rep K G v d → m d δ F →
  (∀ σ' δ', RS K c H G σ' δ' → (∀ vs, (∀ i ∈ is, i ∈ vs) → wipe σ' vs = wipe σ vs) → F δ' → Q σ' H) → t v σ H Q
def WGs (K : Fg) (t : TGs) (is : List Nat) (m : List D → List Sl → (List Sl → Prop) → Prop) : Prop := ∀ (c : Ct) H G σ δ vs ds (F : List Sl → Prop) (Q : St → Hp → Prop), Same G H → RS K c H G σ δ → RepL K G vs ds → m ds δ F →
  (∀ σ' δ', RS K c H G σ' δ' → (∀ vs, (∀ i ∈ is, i ∈ vs) → wipe σ' vs = wipe σ vs) → F δ' → Q σ' H) → t vs σ H Q
structure DG (X : Cx) (e : Expr) (t : TG) (is : List Nat) (m : MG) : Prop where
  p : PG X e t
  w : WG X.K t is m
structure DGs (X : Cx) (es : List Expr) (t : TGs) (is : List Nat) (m : List D → List Sl → (List Sl → Prop) → Prop) : Prop where
  p : PGs X es t
  w : WGs X.K t is m
theorem wipe_set (σ : St) (i : Nat) (x : Option V) : ∀ vs : List Nat, i ∈ vs → wipe (σ.set i x) vs = wipe σ vs
  | [], h => by cases h
  | v :: vs, h => by
    unfold wipe
    by_cases hi : i ∈ vs
    · rw [wipe_set σ i x vs hi]
    · have e : i = v := by
        rcases List.mem_cons.mp h with h | h
        · exact h
        · exact absurd h hi
      subst e
      have key : ∀ ws : List Nat, i ∉ ws → wipe (σ.set i x) ws = (wipe σ ws).set i x := by
        intro ws
        induction ws with
        | nil => intro _; rfl
        | cons w ws ih =>
          intro hn
          have n1 : i ≠ w := fun z => hn (by simp [z])
          have n2 : i ∉ ws := fun z => hn (by simp [z])
          unfold wipe
          rw [ih n2, List.set_comm _ _ n1]
      rw [key vs hi, List.set_set]
section
variable {X : Cx} {c : Ct} {W : WX} {e a b : Expr} {es : List Expr} {pos : Pos} {K : Fg} {te ta tb : TE} {tg1 : TG} {tgs : TGs} {tr : TA}
def mgName (i : Nat) : MG := fun d δ F => F (δ.set i (.dat d))
theorem dg_name (i : Nat) {x : Str} (hN : X.N.Nodup) (hi : X.N[i]? = some x) (hx : Loc X.env.scope x) (hf : X.fn x = true ∨ X.env.scope.names.lookup x = some .local := by first | exact .inl rfl | exact .inr rfl | assumption) : DG X (.Name x pos) (gName i) [i] (mgName i) :=
  ⟨pg_name hN hi hx hf, fun c H G σ δ v d F Q s rs r h q => q _ _ (rs.set i r) (fun vs hv => wipe_set σ i _ vs (hv i (by simp))) h⟩
def mgNil : List D → List Sl → (List Sl → Prop) → Prop := fun ds δ F => match ds with
  | [] => F δ
  | _ => False
def mgCons (m : MG) (ms : List D → List Sl → (List Sl → Prop) → Prop) : List D → List Sl → (List Sl → Prop) → Prop := fun ds δ F => match ds with
  | d :: ds => m d δ fun δ' => ms ds δ' F
  | [] => False
theorem dgs_nil : DGs X [] gNil [] mgNil := ⟨pgs_nil, fun c H G σ δ vs ds F Q s rs r h q => by
  cases r with
  | nil => exact ⟨rfl, q σ δ rs (fun _ _ => rfl) h⟩
  | cons _ _ => exact h.elim⟩
theorem dgs_cons {i j : List Nat} {m : MG} {ms : List D → List Sl → (List Sl → Prop) → Prop} (h1 : DG X e tg1 i m) (h2 : DGs X es tgs j ms) (hs : (assignEach (e :: es) X.env).map (·.2) = assign e X.env :: (assignEach es X.env).map (·.2) := by rfl) : DGs X (e :: es) (gCons tg1 tgs) (i ++ j) (mgCons m ms) := by
  obtain ⟨p1, w1⟩ := h1
  obtain ⟨p2, w2⟩ := h2
  refine ⟨pgs_cons p1 p2 hs, fun c H G σ δ vs ds F Q s rs r h q => ?_⟩
  cases r with
  | nil => exact h.elim
  | cons ra rr =>
    refine ⟨_, _, rfl, ?_⟩
    refine w1 c H G σ δ _ _ _ _ s rs ra h fun σ1 δ1 rs1 z1 h1 => ?_
    refine w2 c H G σ1 δ1 _ _ _ _ s rs1 rr h1 fun σ2 δ2 rs2 z2 h2 => q σ2 δ2 rs2 (fun vs hv => ?_) h2
    rw [z2 vs fun k hk => hv k (List.mem_append_right _ hk), z1 vs fun k hk => hv k (List.mem_append_left _ hk)]
def mgTup (n : Nat) (ms : List D → List Sl → (List Sl → Prop) → Prop) : MG := fun d δ F => match d with
  | .tup ds => ds.length = n ∧ ms ds δ F
  | _ => False
theorem dg_tup {k n : Nat} {is : List Nat} {ms : List D → List Sl → (List Sl → Prop) → Prop} (hc : X.calm = true) (h : DGs X es tgs is ms) (hn : (assignEach es X.env).length = n := by rfl) (hst : (assignEach es X.env).findIdx? (·.1) = none := by rfl) :
    DG X (.Tuple es k pos) (gTup X.K n tgs) is (mgTup n ms) := by
  obtain ⟨p, w⟩ := h
  refine ⟨pg_tup hc p hn hst, fun c H G σ δ v d F Q s rs r h q => ?_⟩
  unfold mgTup at h
  split at h
  · obtain ⟨a, xs, e1, h1, r1⟩ := r.tup_of
    exact ⟨a, xs, e1, same_t s h1, by rw [r1.length]; exact h.1, w c H G σ δ xs _ F Q s rs r1 h.2 q⟩
  · exact h.elim
/-- target = value, the target a tuple or a name -/
def msAsg (me : ME) (mg : MG) : MS := fun δ k => me δ (fun d => mg d δ k.nx) (fun x => k.rs x δ)
theorem ds_asg {tg : Expr} {is : List Nat} {me : ME} {mg : MG} (he : DE X c W e te me) (hg : DG X tg tg1 is mg) (hs : swapsWithSole [tg] e pos.line X.env = pure false := by rfl) (hw : swappedStores [tg] e X.env = pure none := by rfl)
    (h1 : (assignEach [tg] X.env).map (·.2) = [assign tg X.env] := by rfl) : DS X c W (.Assign [tg] e pos) (tAsg te tg1) (msAsg me mg) := by
  obtain ⟨p, w⟩ := he
  obtain ⟨pg, wg⟩ := hg
  refine ⟨ps_asg p pg hs hw h1, fun H G σ δ k Y cr rs h e => ?_⟩
  refine w H G σ δ _ _ _ cr rs h (fun v d H' G' g r f => ?_) (e.xw cr rs)
  exact wg c H' G' σ δ v d _ _ g.sub (rs.step cr g) r f fun σ' δ' rs' _ n => e.nx σ' δ' H' G' (cr.step g) rs' g.grow n
/-- a, b = x, y -/
def msPar (i j : Nat) (ma : MA) : MS := fun δ k => ma δ (fun ds => match ds with
  | [d, e] => k.nx ((δ.set i (.dat d)).set j (.dat e))
  | _ => False) (fun x => k.rs x δ)
theorem ds_par (i j : Nat) {x y : Str} {ma : MA} {px py pt : Pos} {kt k2 pt2} (hc : X.calm = true) (hN : X.N.Nodup) (hi : X.N[i]? = some x) (hj : X.N[j]? = some y) (hij : i ≠ j)
    (hx : X.env.scope.names.lookup x = some .local) (hy : X.env.scope.names.lookup y = some .local) (ha : DA X c W [a, b] tr ma)
    (hw : swappedStores [.Tuple [.Name x px, .Name y py] kt pt] (.Tuple [a, b] k2 pt2) X.env = pure (some [x, y]) := by rfl)
    (hs : swapsWithSole [.Tuple [.Name x px, .Name y py] kt pt] (.Tuple [a, b] k2 pt2) pos.line X.env = pure false := by rfl) :
    DS X c W (.Assign [.Tuple [.Name x px, .Name y py] kt pt] (.Tuple [a, b] k2 pt2) pos) (tPar i j tr) (msPar i j ma) := by
  obtain ⟨p, w⟩ := ha
  refine ⟨ps_par hc hN hi hj hij hx hy p hw hs, fun H G σ δ k Y cr rs h e => ?_⟩
  refine w H G σ δ _ _ _ cr rs h (fun vs ds H' G' g r f => ?_) (e.xw cr rs)
  split at f
  · cases r with
    | cons r1 rr =>
      cases rr with
      | cons r2 rr =>
        cases rr
        exact ⟨_, _, rfl, e.nx _ _ H' G' (cr.step g) (((rs.step cr g).set i r1).set j r2) g.grow f⟩
  · exact f.elim
end

/-! ### walks -/
def IsWalk (K : Fg) (G0 : Hp) (J : It) (ds : List D) : Prop := ∀ i H G, Same G0 G → Same G H → (∀ d, ds[i]? = some d → J.go i H ∧ ∀ x H', J.yld i H x H' → ∃ G', Go none H G H' G' ∧ Rep K G' x d) ∧ (i = ds.length → J.stop i H)
def WI (K : Fg) (c : Ct) (W : WX) (t : TI) (m : MA) : Prop := ∀ H G σ δ (F : List D → Prop) (X : XC) (R : It → Hp → Prop), Cr c H G → RS K c H G σ δ → m δ F X →
  (∀ J ds H' G', Go c.dl H G H' G' → IsWalk K G' J ds → F ds → R J H') → XW K c H G σ X W → t σ H R
structure DI (X : Cx) (c : Ct) (W : WX) (tg e : Expr) (t : TI) (m : MA) : Prop where
  p : PI X tg e t
  w : WI X.K c W t m
theorem walk_l {K : Fg} {G : Hp} {a : Addr} {xs : List V} {ds : List D} (h : G a = some (.lst xs)) (r : RepL K G xs ds) : IsWalk K G (Itl K a) ds := fun i H G' s s' => by
  have hH : H a = some (.lst xs) := s' _ _ (s _ _ h)
  refine ⟨fun d e => ?_, fun e => ⟨xs, SqL.of hH, by rw [r.length]; omega⟩⟩
  obtain ⟨x, h1, h2⟩ := r.get e
  refine ⟨⟨xs, x, SqL.of hH, h1⟩, fun y H' ⟨e1, e2⟩ => ?_⟩
  subst e1
  have := e2 xs (SqL.of hH)
  rw [h1] at this
  cases this
  exact ⟨G', Go.refl s' .no, h2.mono s⟩
theorem walk_t {K : Fg} {G : Hp} {a : Addr} {xs : List V} {ds : List D} (h : SqT K G a xs) (r : RepL K G xs ds) : IsWalk K G (Itt K a) ds := fun i H G' s s' => by
  have hH : SqT K H a xs := same_t s' (same_t s h)
  refine ⟨fun d e => ?_, fun e => ⟨xs, hH, by rw [r.length]; omega⟩⟩
  obtain ⟨x, h1, h2⟩ := r.get e
  refine ⟨⟨xs, x, hH, h1⟩, fun y H' ⟨e1, e2⟩ => ?_⟩
  subst e1
  have := e2 xs hH
  rw [h1] at this
  cases this
  exact ⟨G', Go.refl s' .no, h2.mono s⟩
def rngD (lo : Int) (n : Nat) : List D := (List.range n).map fun (i : Nat) => D.int (lo + (i : Int))
theorem walk_r {K : Fg} {G : Hp} {lo : Int} {n : Nat} : IsWalk K G (Itr lo n) (rngD lo n) := fun i H G' s s' => by
  refine ⟨fun d e => ?_, fun e => ?_⟩
  · unfold rngD at e
    rw [List.getElem?_map] at e
    by_cases hi : i < n
    · rw [List.getElem?_range hi] at e
      cases e
      refine ⟨hi, fun x H' ⟨e1, e2⟩ => ?_⟩
      subst e1 e2
      exact ⟨G', Go.refl s' .no, .int _⟩
    · rw [List.getElem?_eq_none (by simpa using hi)] at e
      cases e
  · unfold rngD at e
    rw [List.length_map, List.length_range] at e
    exact Nat.le_of_eq e.symm
section
variable {X : Cx} {c : Ct} {W : WX} {e a b tg : Expr} {es : List Expr} {pos p : Pos} {K : Fg} {ma mb me : ME} {mr : MA} {te ta tb : TE} {tr : TA} {ti : TI} {tg1 : TG} {ts : TS}
/-- a list | a tuple walked -/
def miL (ma : ME) : MA := fun δ F X => ma δ (fun d => match d with
  | .lst ds => F ds
  | _ => False) X
def miT (ma : ME) : MA := fun δ F X => ma δ (fun d => match d with
  | .tup ds => F ds
  | _ => False) X
theorem di_list (h : DE X c W e ta ma) : DI X c W tg e (iList X.K ta) (miL ma) := by
  obtain ⟨p, w⟩ := h
  refine ⟨pi_list p, fun H G σ δ F X R cr rs h q x => ?_⟩
  refine w H G σ δ _ _ _ cr rs h (fun v d H' G' g r f => ?_) x
  split at f
  · obtain ⟨a, xs, e1, h1, r1⟩ := r.lst_of
    exact ⟨a, e1, ⟨xs, SqL.of (g.sub _ _ h1)⟩, q _ _ H' G' g (walk_l h1 r1) f⟩
  · exact f.elim
theorem di_tup (h : DE X c W e ta ma) : DI X c W tg e (iTup X.K ta) (miT ma) := by
  obtain ⟨p, w⟩ := h
  refine ⟨pi_tup p, fun H G σ δ F X R cr rs h q x => ?_⟩
  refine w H G σ δ _ _ _ cr rs h (fun v d H' G' g r f => ?_) x
  split at f
  · obtain ⟨a, xs, e1, h1, r1⟩ := r.tup_of
    exact ⟨a, e1, ⟨xs, same_t g.sub h1⟩, q _ _ H' G' g (walk_t h1 r1) f⟩
  · exact f.elim
def miR1 (mr : MA) : MA := fun δ F X => mr δ (fun ds => match ds with
  | [.int j] => -(2 ^ 62) ≤ j ∧ j < 2 ^ 62 ∧ F (rngD 0 j.toNat)
  | _ => False) X
def miR2 (mr : MA) : MA := fun δ F X => mr δ (fun ds => match ds with
  | [.int i, .int j] => (-(2 ^ 62) ≤ i ∧ i < 2 ^ 62 ∧ -(2 ^ 62) ≤ j ∧ j < 2 ^ 62) ∧ F (rngD i (j - i).toNat)
  | _ => False) X
theorem RepL.one {G : Hp} {vs : List V} {d : D} (r : RepL K G vs [d]) : ∃ v, vs = [v] ∧ Rep K G v d := by
  cases r with
  | cons a r => cases r; exact ⟨_, rfl, a⟩
theorem RepL.two {G : Hp} {vs : List V} {d e : D} (r : RepL K G vs [d, e]) : ∃ v u, vs = [v, u] ∧ Rep K G v d ∧ Rep K G u e := by
  cases r with
  | cons a r =>
    cases r with
    | cons b r => cases r; exact ⟨_, _, rfl, a, b⟩
theorem di_range1 (hg : Gl X "range") (hm : X.mg "range" = none) (h : DA X c W [a] tr mr) (hs : starEach [a] X.env = [(false, eval a X.env)] := by rfl) : DI X c W tg (.Call (.Name "range" p) [a] [] pos) (iRng1 tr) (miR1 mr) := by
  obtain ⟨p, w⟩ := h
  refine ⟨pi_range1 hg hm p hs, fun H G σ δ F X R cr rs h q x => ?_⟩
  refine w H G σ δ _ _ _ cr rs h (fun vs ds H' G' g r f => ?_) x
  split at f
  · obtain ⟨v, e1, r1⟩ := r.one
    rw [e1, r1.int_of]
    exact ⟨_, rfl, f.1, f.2.1, q _ _ H' G' g walk_r f.2.2⟩
  · exact f.elim
theorem di_range2 (hg : Gl X "range") (hm : X.mg "range" = none) (h : DA X c W [a, b] tr mr) (hs : starEach [a, b] X.env = [(false, eval a X.env), (false, eval b X.env)] := by rfl) (hs2 : starEach [b] X.env = [(false, eval b X.env)] := by rfl) :
    DI X c W tg (.Call (.Name "range" p) [a, b] [] pos) (iRng2 tr) (miR2 mr) := by
  obtain ⟨p, w⟩ := h
  refine ⟨pi_range2 hg hm p hs hs2, fun H G σ δ F X R cr rs h q x => ?_⟩
  refine w H G σ δ _ _ _ cr rs h (fun vs ds H' G' g r f => ?_) x
  split at f
  · obtain ⟨v, u, e1, r1, r2⟩ := r.two
    rw [e1, r1.int_of, r2.int_of]
    exact ⟨_, _, rfl, f.1, q _ _ H' G' g walk_r f.2⟩
  · exact f.elim

/-! ### for -/
def forD (mg : MG) (mb : MS) : List D → List Sl → MK → Prop
  | [], δ, k => k.nx δ
  | d :: ds, δ, k => mg d δ fun δ' => mb δ' { k with nx := fun δ2 => forD mg mb ds δ2 k, ct := fun δ2 => forD mg mb ds δ2 k, bk := k.nx }
def msFor (mi : MA) (mg : MG) (mb : MS) : MS := fun δ k => mi δ (fun ds => forD mg mb ds δ k) (fun x => k.rs x δ)
theorem ds_for {is : List Nat} {mi : MA} {mg : MG} {mb : MS} {body : List Stmt} (hp : PassesOwn (model X.prog X.w) X.A X.env X.xe) (hc : X.calm = true) (hi : DI X c W tg e ti mi) (hg : DG X tg tg1 is mg) (hb : DSs X c W body ts mb) (hs : ∀ x, foldedSetIterable e X.env x = pure x := by intro _; rfl) :
    DS X c W (.For tg e body [] pos) (tFor ti tg1 ts) (msFor mi mg mb) := by
  obtain ⟨pi, ww⟩ := hi
  obtain ⟨pg, wg⟩ := hg
  obtain ⟨pb, wb⟩ := hb
  refine ⟨ps_for hp hc pi pg pb hs, fun H G σ δ k Y cr rs h e => ?_⟩
  refine ww H G σ δ _ _ _ cr rs h (fun J ds H1 G1 g1 wk f => ?_) (e.xw cr rs)
  have cr1 := cr.step g1
  have e1 := e.mono g1.grow
  refine ⟨fun i n σ H => n = ds.length - i ∧ i ≤ ds.length ∧ ∃ G δ, Cr c H G ∧ RS X.K c H G σ δ ∧ Same G1 G ∧ forD mg mb (ds.drop i) δ k, ⟨ds.length, by simp, Nat.zero_le _, G1, δ, cr1, rs.step cr g1, Same.refl _, f⟩, ?_⟩
  rintro i n σ2 H2 ⟨rfl, hi, G2, δ2, cr2, rs2, s2, f2⟩
  obtain ⟨w1, w2⟩ := wk i H2 G2 s2 cr2.sub
  by_cases hlt : i < ds.length
  · right
    have hd : ds[i]? = some ds[i] := List.getElem?_eq_getElem hlt
    obtain ⟨go, y⟩ := w1 _ hd
    refine ⟨go, ?_⟩
    rw [List.drop_eq_getElem_cons hlt] at f2
    refine ⟨fun σ H => ∃ G δ, Cr c H G ∧ RS X.K c H G σ δ ∧ Same G1 G ∧ forD mg mb (ds.drop (i + 1)) δ k, fun σ' H' z => ⟨ds.length - (i + 1), by omega, rfl, hlt, z⟩, fun x H3 hy => ?_⟩
    obtain ⟨G3, g3, r3⟩ := y x H3 hy
    have g3' := g3.lift cr2.dlok
    refine wg c H3 G3 σ2 δ2 x _ _ _ g3.sub (rs2.step cr2 g3') r3 f2 fun σ4 δ4 rs4 _ f4 => ?_
    have s13 := s2.trans g3.grow
    refine wb H3 G3 σ4 δ4 _ _ (cr2.step g3') rs4 f4 ⟨fun σ' δ' H' G' a b z q => ⟨G', δ', a, b, s13.trans z, q⟩, fun v d H' G' a b z q => e1.rt v d H' G' a b (s13.trans z) q, fun σ' δ' H' G' a b z q => e1.nx σ' δ' H' G' a b (s13.trans z) q,
      fun σ' δ' H' G' a b z q => ⟨G', δ', a, b, s13.trans z, q⟩, fun C fs d σ' δ' H' G' a b z x q => e1.rs C fs d σ' δ' H' G' a b (s13.trans z) x q⟩
  · left
    have he : i = ds.length := by omega
    refine ⟨w2 he, ?_⟩
    rw [he, List.drop_length] at f2
    exact e1.nx σ2 δ2 H2 G2 cr2 rs2 s2 f2
end
end DL

set_option Elab.async false
set_option linter.all false
set_option maxRecDepth 100000
set_option maxHeartbeats 4000000
namespace DL
open PySem L2

theorem Go.mut {dl : Dl} {H G H' G' : Hp} {p : Addr} {o : HO} (g : Go dl H G H' G') (d : DlOk dl H G) (n : H p = none) (n' : G' p = none) : Go dl H G (upd H' p o) G' where
  keep := fun a u h nd => by rw [upd_ne (ne_of_none h n)]; exact g.keep a u h nd
  grow := g.grow
  sub := fun a u h => by rw [upd_ne (ne_of_none h n')]; exact g.sub a u h
  new := g.new
  deal := fun p' l e => by
    obtain ⟨⟨ns, m, h1, h2, h3⟩, g1, g2⟩ := g.deal p' l e
    obtain ⟨⟨_, _, q1, q2, _⟩, _⟩ := d p' l e
    exact ⟨⟨ns, m, by rw [upd_ne (ne_of_none q1 n)]; exact h1, by rw [upd_ne (ne_of_none q2 n)]; exact h2, h3⟩, g1, g2⟩
theorem Go.pub {dl : Dl} {H G H' G' : Hp} {p : Addr} {o : HO} (g : Go dl H G H' G') (d : DlOk dl H G) (n : H p = none) (h : H' p = some o) (n' : G' p = none) : Go dl H G H' (upd G' p o) where
  keep := g.keep
  grow := fun a u q => by rw [upd_ne (ne_of_none (g.grow _ _ q) n')]; exact g.grow _ _ q
  sub := fun a u q => by
    by_cases e : a = p
    · subst e
      rw [upd_same] at q
      cases q
      exact h
    · rw [upd_ne e] at q
      exact g.sub _ _ q
  new := fun a u q => by
    by_cases e : a = p
    · subst e
      exact .inr n
    · rw [upd_ne e] at q
      exact g.new _ _ q
  deal := fun p' l e => by
    obtain ⟨a, g1, g2⟩ := g.deal p' l e
    obtain ⟨⟨_, _, q1, q2, _⟩, _⟩ := d p' l e
    exact ⟨a, by rw [upd_ne (ne_of_none q1 n)]; exact g1, by rw [upd_ne (ne_of_none q2 n)]; exact g2⟩
def wipeD (δ : List Sl) : List Nat → List Sl
  | [] => δ
  | v :: vs => (wipeD δ vs).set v .un
theorem RS.wipe {K : Fg} {c : Ct} {H G : Hp} {σ : St} {δ : List Sl} (r : RS K c H G σ δ) : ∀ vs : List Nat, RS K c H G (wipe σ vs) (wipeD δ vs)
  | [] => r
  | v :: vs => (RS.wipe r vs).forget v none
theorem wipe_wipe (σ : St) : ∀ vs ws : List Nat, (∀ i ∈ ws, i ∈ vs) → L2.wipe (L2.wipe σ ws) vs = L2.wipe σ vs
  | vs, [], _ => rfl
  | vs, w :: ws, h => by
    show L2.wipe ((L2.wipe σ ws).set w none) vs = _
    rw [wipe_set _ _ _ vs (h w (by simp)), wipe_wipe σ vs ws fun i hi => h i (by simp [hi])]

def IsWalkC (K : Fg) (dl : Dl) (H0 G0 : Hp) (J : It) (ds : List D) : Prop := ∀ i H G, Go dl H0 G0 H G → (∀ d, ds[i]? = some d → J.go i H ∧ ∀ x H', J.yld i H x H' → ∃ G', Go none H G H' G' ∧ Rep K G' x d) ∧ (i = ds.length → J.stop i H)
theorem IsWalk.c {K : Fg} {dl : Dl} {H0 G0 : Hp} {J : It} {ds : List D} (w : IsWalk K G0 J ds) : IsWalkC K dl H0 G0 J ds := fun i H G g => w i H G g.grow g.sub
def WIC (K : Fg) (c : Ct) (W : WX) (t : TI) (m : MA) : Prop := ∀ H G σ δ (F : List D → Prop) (X : XC) (R : It → Hp → Prop), Cr c H G → RS K c H G σ δ → m δ F X →
  (∀ J ds H' G', Go c.dl H G H' G' → IsWalkC K c.dl H' G' J ds → F ds → R J H') → XW K c H G σ X W → t σ H R
structure DIC (X : Cx) (c : Ct) (W : WX) (tg e : Expr) (t : TI) (m : MA) : Prop where
  p : PI X tg e t
  w : WIC X.K c W t m
theorem dic_of {X : Cx} {c : Ct} {W : WX} {tg e : Expr} {t : TI} {m : MA} (h : DI X c W tg e t m) : DIC X c W tg e t m :=
  ⟨h.p, fun H G σ δ F Y R cr rs hm q x => h.w H G σ δ F Y R cr rs hm (fun J ds H' G' g wk f => q J ds H' G' g wk.c f) x⟩
/-! ### list comprehensions -/
abbrev W0 : WX := fun _ _ _ _ => False
structure DTs (X : Cx) (c : Ct) (W : WX) (es : List Expr) (t : TT) (m : MT) : Prop where
  p : PTs X es t
  w : WT X.K c W t m
def mYes : MT := fun _ F _ => F true
theorem dts_nil {X : Cx} {c : Ct} {W : WX} : DTs X c W [] tYes mYes := ⟨pts_nil, fun H G σ δ F X Q cr rs h q _ => q true H G cr.rfl' h⟩
theorem dts_one {X : Cx} {c : Ct} {W : WX} {e : Expr} {p : MT} {t : TT} (h : DT X c W e t p) : DTs X c W [e] t p := ⟨pts_one h.p, h.w⟩
def lcD (mg : MG) (mt : MT) (me : ME) (δ : List Sl) (F : List D → Prop) : List D → List D → Prop
  | [], acc => F acc
  | d :: ds, acc => mg d δ fun δ1 => mt δ1 (fun b => if b = true then me δ1 (fun r => lcD mg mt me δ F ds (acc ++ [r])) (fun _ => False) else lcD mg mt me δ F ds acc) (fun _ => False)
def mLc (mi : MA) (mg : MG) (mt : MT) (me : ME) (vs : List Nat) : ME := fun δ F X => mi δ (fun ds => ds.length < sizeLine ∧ lcD mg mt me (wipeD δ vs) (fun r => F (.lst r)) ds []) X
theorem we_lc {K : Fg} {c : Ct} {W : WX} {wi : TI} {g : TG} {tt : TT} {te : TE} {is vs : List Nat} {mi : MA} {mg : MG} {mt : MT} {me : ME} (hv : ∀ i ∈ is, i ∈ vs) (ww : WIC K c W wi mi) (wg : WG K g is mg) (wt : WT K c W0 tt mt) (we : WE K c W0 te me) :
    WE K c W (tLc wi g tt te vs) (mLc mi mg mt me vs) := fun H G σ δ F X Q cr rs h q x => by
  refine ww H G σ δ _ X _ cr rs h (fun J ds H1 G1 g1 wk f => ?_) x
  obtain ⟨hz, f⟩ := f
  have cr1 := cr.step g1
  have rs1 := (rs.step cr g1).wipe vs
  intro D hD
  have nD : G1 D = none := by
    cases z : G1 D with
    | none => rfl
    | some o =>
      rw [g1.sub _ _ z] at hD
      cases hD
  refine ⟨fun i n H' => n = ds.length - i ∧ i ≤ ds.length ∧ ∃ G' acc rr, Go c.dl H1 G1 H' G' ∧ H' D = some (.lst acc) ∧ G' D = none ∧ RepL K G' acc rr ∧ acc.length ≤ i ∧ lcD mg mt me (wipeD δ vs) (fun r => F (.lst r)) (ds.drop i) rr,
    ⟨ds.length, by simp, Nat.zero_le _, G1, [], [], (Go.mine cr1.sub hD).lift cr1.dlok, upd_same, nD, .nil, Nat.le_refl _, f⟩, ?_⟩
  rintro i n H2 ⟨rfl, hi, G2, acc, rr, g2, hA, nG, ra, hl, f2⟩
  obtain ⟨w1, w2⟩ := wk i H2 G2 g2
  by_cases hlt : i < ds.length
  · right
    have hd : ds[i]? = some ds[i] := List.getElem?_eq_getElem hlt
    obtain ⟨go, y⟩ := w1 _ hd
    rw [List.drop_eq_getElem_cons hlt] at f2
    refine ⟨go, fun H' => ∃ G' acc rr, Go c.dl H1 G1 H' G' ∧ H' D = some (.lst acc) ∧ G' D = none ∧ RepL K G' acc rr ∧ acc.length ≤ i + 1 ∧ lcD mg mt me (wipeD δ vs) (fun r => F (.lst r)) (ds.drop (i + 1)) rr,
      fun H' z => ⟨ds.length - (i + 1), by omega, rfl, hlt, z⟩, fun v H3 hy => ?_⟩
    obtain ⟨G3, g3, r3⟩ := y v H3 hy
    have cr2 : Cr c H2 G2 := cr1.step g2
    have rs2 := rs1.step cr1 g2
    have g3' := g3.lift cr2.dlok
    have step : ∀ {H4 G4 : Hp}, Go c.dl H2 G2 H4 G4 → H4 D = some (.lst acc) ∧ G4 D = none := fun {H4 G4} g4 => by
      refine ⟨g4.keep _ _ hA fun p l e => ?_, ?_⟩
      · obtain ⟨⟨_, _, q1, q2, _⟩, _⟩ := cr1.dlok p l e
        exact ⟨fun z => (by rw [z, q1] at hD; cases hD), fun z => (by rw [z, q2] at hD; cases hD)⟩
      · cases z : G4 D with
        | none => rfl
        | some o => rcases g4.new _ _ z with y | y
                    · rw [nG] at y; cases y
                    · rw [hA] at y; cases y
    refine wg c H3 G3 (L2.wipe σ vs) (wipeD δ vs) v _ _ _ g3.sub (rs2.step cr2 g3') r3 f2 fun σ4 δ4 rs4 z4 f4 => ⟨?_, ?_⟩
    · rw [z4 vs hv]
      exact wipe_wipe σ vs vs fun _ h => h
    refine wt H3 G3 σ4 δ4 _ _ _ (cr2.step g3') rs4 f4 (fun b H5 G5 g5 f5 => ?_) XW.no
    have g5' := g3'.trans g5
    cases b with
    | true =>
      show te σ4 H5 _
      refine we H5 G5 σ4 δ4 _ _ _ ((cr2.step g3').step g5) (rs4.step (cr2.step g3') g5) f5 (fun u d H6 G6 g6 r6 f6 => ?_) XW.no
      have g6' := g5'.trans g6
      obtain ⟨h6, n6⟩ := step g6'
      refine ⟨acc, h6, Nat.lt_of_le_of_lt hl (Nat.lt_trans hlt hz), G6, acc ++ [u], rr ++ [d], (g2.trans g6').mut cr1.dlok hD n6, upd_same, n6, (ra.mono g6'.grow).append (.cons r6 .nil), ?_, f6⟩
      rw [List.length_append, List.length_singleton]
      omega
    | false =>
      show (if false = true then _ else _)
      refine iteF ?_
      obtain ⟨h6, n6⟩ := step g5'
      exact ⟨G5, acc, rr, g2.trans g5', h6, n6, ra.mono g5'.grow, by omega, f5⟩
  · left
    have he : i = ds.length := by omega
    refine ⟨w2 he, ?_⟩
    rw [he, List.drop_length] at f2
    have gp := g2.pub cr1.dlok hD hA nG
    refine q _ _ H2 _ (g1.trans gp) (.lst upd_same (ra.mono fun a u z => ?_)) f2
    rw [upd_ne (ne_of_none z nG)]
    exact z
section
variable {X : Cx} {c : Ct} {W : WX} {elt tg iter : Expr} {ifs : List Expr} {scope : Scope} {own : List (Str × Nat)} {is : List Nat} {pos : Pos} {mi : MA} {mg : MG} {mt : MT} {me : ME}
abbrev Blk (X : Cx) (scope : Scope) (s : Shared) (H : Hp) (C : Addr) (cl : List (Str × Addr)) (fp : List Addr) : Cx := X.blk s H scope (compEnvC scope cl C X.env) fp
variable {ti : TI} {tgg : TG} {tt : TT} {te : TE}
theorem de_lc (hc : X.calm = true) (hN : X.N.Nodup) (hi : DIC X c W tg iter ti mi) (ok : BlkOk X.N X.env.scope scope own) (hv : ∀ i ∈ is, i ∈ own.map (·.2))
    (hg : ∀ (s : Shared) (H : Hp) (C : Addr) (cl : List (Str × Addr)) (fp : List Addr), DG (Blk X scope s H C cl fp) tg tgg is mg) (ht : ∀ (s : Shared) (H : Hp) (C : Addr) (cl : List (Str × Addr)) (fp : List Addr), DTs (Blk X scope s H C cl fp) c W0 ifs tt mt)
    (he : ∀ (s : Shared) (H : Hp) (C : Addr) (cl : List (Str × Addr)) (fp : List Addr), DE (Blk X scope s H C cl fp) c W0 elt te me) (hs : ∀ x, foldedSetIterable iter X.env x = pure x := by intro _; rfl) :
    DE X c W (.ListComp elt [⟨tg, iter, ifs, 0⟩] scope pos) (tLc ti tgg tt te (own.map (·.2))) (mLc mi mg mt me (own.map (·.2))) :=
  ⟨pe_lc hc hN hi.p ok (fun s H C cl fp => (hg s H C cl fp).p) (fun s H C cl fp => (ht s H C cl fp).p) (fun s H C cl fp => (he s H C cl fp).p) hs,
    we_lc hv hi.w (hg {} (fun _ => none) 0 [] []).w (ht {} (fun _ => none) 0 [] []).w (he {} (fun _ => none) 0 [] []).w⟩
theorem ds_setLc (i : Nat) {y : Str} {py spos : Pos} (hc : X.calm = true) (hN : X.N.Nodup) (hy : X.N[i]? = some y) (hyl : X.env.scope.names.lookup y = some .local)
    (hsw : swapsWith (.ListComp elt [⟨tg, iter, ifs, 0⟩] scope pos) (some (.Name y py)) spos.line X.env = pure true) (hi : DIC X c W tg iter ti mi) (ok : BlkOk X.N X.env.scope scope own) (hv : ∀ i ∈ is, i ∈ own.map (·.2))
    (hg : ∀ (s : Shared) (H : Hp) (C : Addr) (cl : List (Str × Addr)) (fp : List Addr), DG (Blk X scope s H C cl fp) tg tgg is mg) (ht : ∀ (s : Shared) (H : Hp) (C : Addr) (cl : List (Str × Addr)) (fp : List Addr), DTs (Blk X scope s H C cl fp) c W0 ifs tt mt)
    (he : ∀ (s : Shared) (H : Hp) (C : Addr) (cl : List (Str × Addr)) (fp : List Addr), DE (Blk X scope s H C cl fp) c W0 elt te me)
    (hs : ∀ x, foldedSetIterable iter X.env x = pure x := by intro _; rfl) : DS X c W (.Assign [.Name y py] (.ListComp elt [⟨tg, iter, ifs, 0⟩] scope pos) spos) (tAsg (tLc ti tgg tt te (own.map (·.2))) (gName i)) (msSet i (mLc mi mg mt me (own.map (·.2)))) :=
  ⟨ps_setLc hc hN hy hyl hsw hi.p ok (fun s H C cl fp => (hg s H C cl fp).p) (fun s H C cl fp => (ht s H C cl fp).p) (fun s H C cl fp => (he s H C cl fp).p) hs,
    ws_set (we_lc hv hi.w (hg {} (fun _ => none) 0 [] []).w (ht {} (fun _ => none) 0 [] []).w (he {} (fun _ => none) 0 [] []).w)⟩
end
end DL

set_option Elab.async false
set_option linter.all false
set_option maxRecDepth 100000
set_option maxHeartbeats 4000000
namespace DL
open PySem L2

/-! ### defs -/
abbrev FF := List D → (D → Prop) → XC → Prop
/-- what a def promises: its arguments as data (behind the deal, if there is one) -/
def spD (K : Fg) (n : Nat) (wd : Bool) (f : FF) : Sp := fun vs H Q E => ∃ (G : Hp) (ds : List D) (dl : Dl) (vs' : List V) (F : D → Prop) (X : XC), ds.length = n ∧
  (match wd with
    | false => dl = none ∧ vs = vs'
    | true => ∃ p l, dl = some (p, l) ∧ vs = .ref p :: vs') ∧ Same G H ∧ DlOk dl H G ∧ RepL K G vs' ds ∧ f ds F X ∧
  (∀ v d H' G', Go dl H G H' G' → Rep K G' v d → F d → Q v H') ∧ (∀ C fs d H' G', Go dl H G H' G' → ExcIs K G' d fs → X (C, fs) → E (.ref C) d H')
def dn (wd : Bool) : Nat := if wd = true then 1 else 0
theorem spD_len {K : Fg} {n : Nat} {wd : Bool} {f : FF} {vs : List V} {H : Hp} {Q : VK} {E : XK} (h : spD K n wd f vs H Q E) : vs.length = n + dn wd := by
  obtain ⟨G, ds, dl, vs', F, X, hn, hw, s, d, r, _⟩ := h
  have e := r.length
  cases wd with
  | false =>
    obtain ⟨_, rfl⟩ := hw
    show _ = n + 0
    omega
  | true =>
    obtain ⟨p, l, _, rfl⟩ := hw
    show vs'.length + 1 = n + 1
    omega
def start0 (wd : Bool) (ds : List D) (k : Nat) : List Sl := (if wd = true then [Sl.deal] else []) ++ (ds.map Sl.dat ++ List.replicate k .un)
abbrev WF (E : XK) : WX := fun cls d _ H => E cls d H
theorem dat_at {K : Fg} {c : Ct} {H G : Hp} : ∀ {vs : List V} {ds : List D} (k i : Nat) (s : Sl), RepL K G vs ds → (ds.map Sl.dat ++ List.replicate k .un)[i]? = some s → ∃ x, (vs.map some ++ List.replicate k none)[i]? = some x ∧ SlotOk K c H G x s ∧ ∀ es, s ≠ .own es
  | _, _, k, i, s, .nil, e => by
    have e : (List.replicate k Sl.un)[i]? = some s := e
    show ∃ x, (List.replicate k (none : Option V))[i]? = some x ∧ _
    rw [List.getElem?_replicate] at e
    rw [List.getElem?_replicate]
    split at e
    · rename_i hi
      cases e
      exact ⟨none, if_pos hi, trivial, fun es z => nomatch z⟩
    · cases e
  | _, _, k, 0, s, .cons a r, e => by
    cases e
    exact ⟨_, rfl, ⟨_, rfl, a⟩, fun es z => nomatch z⟩
  | _, _, k, i + 1, s, .cons a r, e => dat_at k i s r e
/-- a def with its arguments -/
theorem rs_start {K : Fg} {H G : Hp} {dl : Dl} {N : List Str} {vs vs' : List V} {ds : List D} {wd : Bool} {n : Nat} (hn : ds.length = n) (hw : match wd with
    | false => dl = none ∧ vs = vs'
    | true => ∃ p l, dl = some (p, l) ∧ vs = .ref p :: vs') (r : RepL K G vs' ds) (hN : n + dn wd ≤ N.length) : RS K ⟨dl, none, H, G⟩ H G (L2.start N vs) (start0 wd ds (N.length - (n + dn wd))) := by
  have e := r.length
  have at_ : ∀ (i : Nat) (s : Sl), (start0 wd ds (N.length - (n + dn wd)))[i]? = some s → ∃ x, (L2.start N vs)[i]? = some x ∧ SlotOk K ⟨dl, none, H, G⟩ H G x s ∧ ∀ es, s ≠ .own es := by
    intro i s h
    cases wd with
    | false =>
      obtain ⟨h1, h2⟩ := hw
      subst h2
      have el : N.length - vs.length = N.length - (n + 0) := by omega
      unfold L2.start
      rw [el]
      exact dat_at _ i s r h
    | true =>
      obtain ⟨p, l, h1, h2⟩ := hw
      subst h2
      have el : N.length - (V.ref p :: vs').length = N.length - (n + 1) := by
        rw [List.length_cons]
        omega
      unfold L2.start
      rw [el]
      cases i with
      | zero =>
        cases h
        exact ⟨_, rfl, ⟨p, l, h1, rfl⟩, fun es z => nomatch z⟩
      | succ i => exact dat_at _ i s r h
  refine ⟨?_, fun i s h => let ⟨x, a, b, _⟩ := at_ i s h; ⟨x, a, b⟩, fun i j p ds es ne h1 _ _ => ?_⟩
  · unfold L2.start start0
    cases wd with
    | false =>
      obtain ⟨h1, h2⟩ := hw
      subst h2
      simp [dn] at hN ⊢
      omega
    | true =>
      obtain ⟨p, l, h1, h2⟩ := hw
      subst h2
      simp [dn] at hN ⊢
      omega
  · obtain ⟨_, _, _, z⟩ := at_ i _ h1
    exact absurd rfl (z ds)
section
variable {P : Program} {w : World} {K : Fg} {mg : Str → Option Value} {base : Heap} {x qual : Str} {params : Arguments} {body : List Stmt} {scope : Scope} {dvs : List V} {kws : List (Str × V)} {f : Addr} {fd : FuncData} {N ps : List Str} {n k : Nat} {wd : Bool} {ff : FF}
/-- THE RULE for a def -/
theorem fn_okD {t : TS} {ms : MS} (F : FunD K x qual params body scope dvs kws f fd) (S : FnScope N ps scope) (hl : ps.length = n + dn wd) (hN : ps.length ≤ N.length)
    (hb : ∀ (c : Ct) (cdv : Value) (A : Around) (outer : List Env) (s : Shared) (H : Hp) (E : XK), Room k (A.deeper (PyProof.Rows.envOfC qual scope s.heap.objs.size f cdv)) → DSs (cxOf (L2.CX P w) P w K mg base N qual scope f cdv A outer s H E) c (WF E) body t ms)
    (hm : ∀ ds G X, ds.length = n → ff ds G X → ms (start0 wd ds (N.length - (n + dn wd))) { nx := fun _ => G .non, rt := G, rs := fun x _ => X x }) : FnOk P w K mg base (L2.CX P w) (k + 1) f fd ps (spD K n wd ff) := by
  refine F.ok S (fun vs H Q E h => (spD_len h).trans hl.symm) (fun cdv A outer s H vs Q E hr h => ?_)
  obtain ⟨G, ds, dl, vs', G0, X0, hn, hw, sm, dk, r, hf, hq, hx⟩ := h
  obtain ⟨p, w'⟩ := hb ⟨dl, none, H, G⟩ cdv A outer s H E hr
  refine ⟨t, p, ?_⟩
  have cr : Cr ⟨dl, none, H, G⟩ H G := ⟨fun _ _ q _ _ => q, Same.refl _, sm, fun _ _ q => .inl q, dk, fun p' l' e => by
    obtain ⟨⟨_, _, q1, q2, _⟩, _⟩ := dk p' l' e
    exact ⟨fun z => (by rw [show H p' = none from z] at q1; cases q1), fun z => (by rw [show H l' = none from z] at q2; cases q2)⟩, fun _ e => nomatch e⟩
  refine w' H G _ _ _ _ cr (rs_start hn hw r (by omega)) (hm ds G0 X0 hn hf) ⟨fun σ δ H' G' a b z q => hq .non .non H' G' (a.go rfl) .non q, fun v d H' G' a b z q => hq v d H' G' (a.go rfl) b q, fun _ _ _ _ _ _ _ q => q.elim, fun _ _ _ _ _ _ _ q => q.elim,
    fun C fs d σ δ H' G' a b z e q => hx C fs d H' G' (a.go rfl) e q⟩
end

/-! ### calls -/
section
variable {X : Cx} {c : Ct} {W : WX} {e a b : Expr} {es : List Expr} {pos p : Pos} {x : Str} {k n : Nat} {f : Addr} {fd : FuncData} {ps : List Str} {ff : FF} {ds : List Value} {dvs : List V} {dd : List D} {mr : MA} {tr : TA}
/-- f(e, ..), without the deal; dd: the defaults that fill up -/
def mCall (ff : FF) (dd : List D) (n : Nat) (mr : MA) : ME := fun δ F X => mr δ (fun ds => (ds ++ dd).length = n ∧ ff (ds ++ dd) F X) X
theorem we_call {K : Fg} (hdd : ∀ G, RepL K G dvs dd) (w : WA K c W tr mr) : WE K c W (tCallSD (spD K n false ff) dvs (fun σ cls d H => W cls d σ H) tr) (mCall ff dd n mr) := fun H G σ δ F X Q cr rs h q x => by
  refine w H G σ δ _ _ _ cr rs h (fun vs ds H' G' g r h1 => ?_) x
  refine ⟨G', ds ++ dd, none, vs ++ dvs, F, X, h1.1, ⟨rfl, rfl⟩, g.sub, .no, r.append (hdd G'), h1.2, fun v d H2 G2 g2 r2 f2 => q v d H2 G2 (g.trans (g2.lift g.deal)) r2 f2, fun C fs d H2 G2 g2 e f2 => x C fs d H2 G2 (g.trans (g2.lift g.deal)) e f2⟩
theorem de_call (F : FnOk X.prog X.w X.K X.mg X.base (L2.CX X.prog X.w) k f fd ps (spD X.K n false ff)) (hr : Room k X.A) (hg : Gl X x) (hm : X.mg x = some (.ref f)) (hk : PySem.W.keepIn X.K (.ref f) = true) (hb : Binds X.K fd ps ds) (hd : Vals dvs ds) (hdd : ∀ G, RepL X.K G dvs dd) (tk : Takes X W)
    (ha : DA X c W (e :: es) tr mr) (hdb : (x == ("__debug__" : Str)) = false := by decide) (he : starEach (e :: es) X.env = (false, eval e X.env) :: starEach es X.env := by rfl) (hpl : (backTo pos (starEach es X.env)).any (·.1) = false := by rfl) :
    DE X c W (.Call (.Name x p) (e :: es) [] pos) (tCallSD (spD X.K n false ff) dvs (fun σ cls d H => W cls d σ H) tr) (mCall ff dd n mr) :=
  ⟨pe_callSD F hr hg hm hk hb hd (passAt tk) ha.p hdb he hpl, we_call hdd ha.w⟩
/-- f(deal, e, ..) -/
def mCallL (i : Nat) (ff : FF) (dd : List D) (n : Nat) (mr : MA) : ME := fun δ F X => (match δ[i]? with
  | some .deal => True
  | _ => False) ∧ mr δ (fun ds => (ds ++ dd).length = n ∧ ff (ds ++ dd) F X) X
theorem we_callL {K : Fg} {i : Nat} (hdd : ∀ G, RepL K G dvs dd) (w : WA K c W tr mr) : WE K c W (tCallSD (spD K n true ff) dvs (fun σ cls d H => W cls d σ H) (tCons (tVar i) tr)) (mCallL i ff dd n mr) := fun H G σ δ F X Q cr rs h q x => by
  obtain ⟨hi, h⟩ := h
  split at hi
  · rename_i e
    obtain ⟨y, h1, p, l, h2, h3⟩ := rs.at_ _ _ e
    subst h3
    refine ⟨_, h1, w H G σ δ _ _ _ cr rs h (fun vs ds H' G' g r h1 => ?_) x⟩
    exact ⟨G', ds ++ dd, c.dl, vs ++ dvs, F, X, h1.1, ⟨p, l, h2, rfl⟩, g.sub, g.deal, r.append (hdd G'), h1.2, fun v d H2 G2 g2 r2 f2 => q v d H2 G2 (g.trans g2) r2 f2, fun C fs d H2 G2 g2 e f2 => x C fs d H2 G2 (g.trans g2) e f2⟩
  · exact hi.elim
theorem de_callL (i : Nat) {z : Str} {zp : Pos} (F : FnOk X.prog X.w X.K X.mg X.base (L2.CX X.prog X.w) k f fd ps (spD X.K n true ff)) (hr : Room k X.A) (hg : Gl X x) (hm : X.mg x = some (.ref f)) (hk : PySem.W.keepIn X.K (.ref f) = true) (hb : Binds X.K fd ps ds) (hd : Vals dvs ds) (hdd : ∀ G, RepL X.K G dvs dd) (tk : Takes X W)
    (hz : PE X (.Name z zp) (tVar i)) (ha : DA X c W es tr mr) (hdb : (x == ("__debug__" : Str)) = false := by decide) (he : starEach (.Name z zp :: es) X.env = (false, eval (.Name z zp) X.env) :: starEach es X.env := by rfl) (hpl : (backTo pos (starEach es X.env)).any (·.1) = false := by rfl) :
    DE X c W (.Call (.Name x p) (.Name z zp :: es) [] pos) (tCallSD (spD X.K n true ff) dvs (fun σ cls d H => W cls d σ H) (tCons (tVar i) tr)) (mCallL i ff dd n mr) :=
  ⟨pe_callSD F hr hg hm hk hb hd (passAt tk) (pa_cons hz ha.p he) hdb he hpl, we_callL hdd ha.w⟩
/-- a built-in called with values: by data -/
def CD (K : Fg) (r : List V → Hp → VK → Prop) (g : List D → (D → Prop) → Prop) : Prop := ∀ H G vs ds (F : D → Prop) (Q : VK), Same G H → RepL K G vs ds → g ds F → (∀ v d H' G', Go none H G H' G' → Rep K G' v d → F d → Q v H') → r vs H Q
def mCB (g : List D → (D → Prop) → Prop) (mr : MA) : ME := fun δ F X => mr δ (fun ds => g ds F) X
theorem we_callB {K : Fg} {r : List V → Hp → VK → Prop} {g : List D → (D → Prop) → Prop} (hr : CD K r g) (w : WA K c W tr mr) : WE K c W (tCB r tr) (mCB g mr) := fun H G σ δ F X Q cr rs h q x => by
  refine w H G σ δ _ _ _ cr rs h (fun vs ds H' G' g1 r1 h1 => ?_) x
  exact hr H' G' vs ds F Q g1.sub r1 h1 fun v d H2 G2 g2 r2 f2 => q v d H2 G2 (g1.trans (g2.lift g1.deal)) r2 f2
theorem de_callB {id : String} {r : List V → Hp → VK → Prop} {g : List D → (D → Prop) → Prop} (hc : CallR X (.builtin id) r) (hr : CD X.K r g) (hg : Gl X x) (hm : X.mg x = none) (hv : bootBuiltins x = some (.builtin id)) (ha : DA X c W (e :: es) tr mr) (hn : x ≠ "__name__" := by decide) (hdb : (x == ("__debug__" : Str)) = false := by decide)
    (he : starEach (e :: es) X.env = (false, eval e X.env) :: starEach es X.env := by rfl) (hpl : (backTo pos (starEach es X.env)).any (·.1) = false := by rfl) : DE X c W (.Call (.Name x p) (e :: es) [] pos) (tCB r tr) (mCB g mr) :=
  ⟨pe_callB hc hg hm hv ha.p hn hdb he hpl, we_callB hr ha.w⟩
theorem de_callTy {T : String} {r : List V → Hp → VK → Prop} {g : List D → (D → Prop) → Prop} (hc : CallR X (.type T) r) (hr : CD X.K r g) (hg : Gl X x) (hm : X.mg x = none) (hv : bootBuiltins x = some (.type T)) (ha : DA X c W (e :: es) tr mr) (hn : x ≠ "__name__" := by decide) (hdb : (x == ("__debug__" : Str)) = false := by decide)
    (he : starEach (e :: es) X.env = (false, eval e X.env) :: starEach es X.env := by rfl) (hpl : (backTo pos (starEach es X.env)).any (·.1) = false := by rfl) : DE X c W (.Call (.Name x p) (e :: es) [] pos) (tCB r tr) (mCB g mr) :=
  ⟨pe_callTy hc hg hm hv ha.p hn hdb he hpl, we_callB hr ha.w⟩
end
def gLen (ds : List D) (F : D → Prop) : Prop := match ds with
  | [.str x] => x.length ≤ sizeLine ∧ F (.int x.length)
  | [.lst xs] => F (.int xs.length)
  | [.tup xs] => F (.int xs.length)
  | _ => False
theorem cd_len {K : Fg} : CD K (fun xs H Q => ∃ x n, xs = [x] ∧ LenV K x H n ∧ Q (.int n) H) gLen := fun H G vs ds F Q s r h q => by
  unfold gLen at h
  split at h
  · obtain ⟨v, e, r1⟩ := r.one
    rw [e, r1.str_of]
    exact ⟨_, _, rfl, ⟨h.1, rfl⟩, q _ _ H G (Go.refl s .no) (.int _) h.2⟩
  · obtain ⟨v, e, r1⟩ := r.one
    obtain ⟨a, xs, e1, h1, r2⟩ := r1.lst_of
    rw [e, e1]
    exact ⟨_, xs.length, rfl, .inl ⟨xs, SqL.of (s _ _ h1), rfl⟩, q _ _ H G (Go.refl s .no) (.int _) (by rw [r2.length]; exact h)⟩
  · obtain ⟨v, e, r1⟩ := r.one
    obtain ⟨a, xs, e1, h1, r2⟩ := r1.tup_of
    rw [e, e1]
    exact ⟨_, xs.length, rfl, .inr ⟨xs, same_t s h1, rfl⟩, q _ _ H G (Go.refl s .no) (.int _) (by rw [r2.length]; exact h)⟩
  · exact h.elim
/-- tuple(x), list(x) -/
def gTuple (ds : List D) (F : D → Prop) : Prop := match ds with
  | [.lst xs] => F (.tup xs)
  | [.tup xs] => F (.tup xs)
  | _ => False
theorem cd_tuple {K : Fg} : CD K (fun xs H Q => ∃ p ys, xs = [.ref p] ∧ ((SqL K H p ys ∧ ∀ l, H l = none → Q (.ref l) (upd H l (.tup ys))) ∨ (SqT K H p ys ∧ Q (.ref p) H))) gTuple := fun H G vs ds F Q s r h q => by
  unfold gTuple at h
  split at h
  · obtain ⟨v, e, r1⟩ := r.one
    obtain ⟨a, xs, e1, h1, r2⟩ := r1.lst_of
    rw [e, e1]
    refine ⟨a, xs, rfl, .inl ⟨SqL.of (s _ _ h1), fun l hl => ?_⟩⟩
    have g2 := Go.laid (o := .tup xs) s hl
    exact q _ _ _ _ g2 (.tup (SqT.of upd_same) (r2.mono g2.grow)) h
  · obtain ⟨v, e, r1⟩ := r.one
    obtain ⟨a, xs, e1, h1, r2⟩ := r1.tup_of
    rw [e, e1]
    exact ⟨a, xs, rfl, .inr ⟨same_t s h1, q _ _ H G (Go.refl s .no) (.tup h1 r2) h⟩⟩
  · exact h.elim
def gList (ds : List D) (F : D → Prop) : Prop := match ds with
  | [.lst xs] => F (.lst xs)
  | [.tup xs] => F (.lst xs)
  | _ => False
theorem cd_list {K : Fg} : CD K (fun xs H Q => ∃ p ys, xs = [.ref p] ∧ (SqL K H p ys ∨ SqT K H p ys) ∧ ∀ l, H l = none → Q (.ref l) (upd H l (.lst ys))) gList := fun H G vs ds F Q s r h q => by
  unfold gList at h
  split at h
  · obtain ⟨v, e, r1⟩ := r.one
    obtain ⟨a, xs, e1, h1, r2⟩ := r1.lst_of
    rw [e, e1]
    refine ⟨a, xs, rfl, .inl (SqL.of (s _ _ h1)), fun l hl => ?_⟩
    have g2 := Go.laid (o := .lst xs) s hl
    exact q _ _ _ _ g2 (.lst upd_same (r2.mono g2.grow)) h
  · obtain ⟨v, e, r1⟩ := r.one
    obtain ⟨a, xs, e1, h1, r2⟩ := r1.tup_of
    rw [e, e1]
    refine ⟨a, xs, rfl, .inr (same_t s h1), fun l hl => ?_⟩
    have g2 := Go.laid (o := .lst xs) s hl
    exact q _ _ _ _ g2 (.lst upd_same (r2.mono g2.grow)) h
  · exact h.elim
/-- all(..), any(..) of a list of bools -/
def blsD : List D → Option (List Bool)
  | [] => some []
  | .bl b :: ds => (blsD ds).map (b :: ·)
  | _ :: _ => none
theorem bls_of {K : Fg} {G : Hp} : ∀ {vs : List V} {ds : List D} {bs : List Bool}, RepL K G vs ds → blsD ds = some bs → vs = bs.map V.bl
  | _, _, _, .nil, e => by cases e; rfl
  | _, _, _, .cons (d := d) a r, e => by
    cases d with
    | bl b =>
      have e : (blsD _).map (b :: ·) = some _ := e
      cases q : blsD _ with
      | none => rw [q] at e; cases e
      | some cs =>
        rw [q] at e
        cases e
        rw [a.bl_of, bls_of r q]
        rfl
    | _ => cases e
def gAll (ds : List D) (F : D → Prop) : Prop := match ds with
  | [.lst xs] => ∃ bs, blsD xs = some bs ∧ F (.bl (bs.all id))
  | _ => False
def gAny (ds : List D) (F : D → Prop) : Prop := match ds with
  | [.lst xs] => ∃ bs, blsD xs = some bs ∧ F (.bl (bs.any id))
  | _ => False
theorem cd_all {K : Fg} : CD K (rAll K) gAll := fun H G vs ds F Q s r h q => by
  unfold gAll at h
  split at h
  · obtain ⟨v, e, r1⟩ := r.one
    obtain ⟨a, xs, e1, h1, r2⟩ := r1.lst_of
    obtain ⟨bs, e2, f⟩ := h
    rw [e, e1]
    exact ⟨a, bs, rfl, SqL.of (by rw [← bls_of r2 e2]; exact s _ _ h1), q _ _ H G (Go.refl s .no) (.bl _) f⟩
  · exact h.elim
theorem cd_any {K : Fg} : CD K (rAny K) gAny := fun H G vs ds F Q s r h q => by
  unfold gAny at h
  split at h
  · obtain ⟨v, e, r1⟩ := r.one
    obtain ⟨a, xs, e1, h1, r2⟩ := r1.lst_of
    obtain ⟨bs, e2, f⟩ := h
    rw [e, e1]
    exact ⟨a, bs, rfl, SqL.of (by rw [← bls_of r2 e2]; exact s _ _ h1), q _ _ H G (Go.refl s .no) (.bl _) f⟩
  · exact h.elim
def gAbs (ds : List D) (F : D → Prop) : Prop := match ds with
  | [.int i] => F (.int (if i < 0 then -i else i))
  | _ => False
theorem cd_abs {K : Fg} : CD K (fun xs H Q => ∃ i, xs = [.int i] ∧ Q (.int (if i < 0 then -i else i)) H) gAbs := fun H G vs ds F Q s r h q => by
  unfold gAbs at h
  split at h
  · obtain ⟨v, e, r1⟩ := r.one
    rw [e, r1.int_of]
    exact ⟨_, rfl, q _ _ H G (Go.refl s .no) (.int _) h⟩
  · exact h.elim
def gInt (ds : List D) (F : D → Prop) : Prop := match ds with
  | [.int i] => F (.int i)
  | [.bl b] => F (.int (if b then 1 else 0))
  | _ => False
theorem cd_int {K : Fg} : CD K (fun xs H Q => (∃ i, xs = [.int i] ∧ Q (.int i) H) ∨ ∃ k, xs = [.bl k] ∧ Q (.int (if k then 1 else 0)) H) gInt := fun H G vs ds F Q s r h q => by
  unfold gInt at h
  split at h
  · obtain ⟨v, e, r1⟩ := r.one
    rw [e, r1.int_of]
    exact .inl ⟨_, rfl, q _ _ H G (Go.refl s .no) (.int _) h⟩
  · obtain ⟨v, e, r1⟩ := r.one
    rw [e, r1.bl_of]
    exact .inr ⟨_, rfl, q _ _ H G (Go.refl s .no) (.int _) h⟩
  · exact h.elim
end DL

set_option Elab.async false
set_option linter.all false
set_option maxRecDepth 100000
set_option maxHeartbeats 4000000
namespace DL
open PySem L2

/-! ### == of data -/
mutual
def toPy : D → PyData
  | .non => .none
  | .bl b => .bool b
  | .int i => .int i
  | .str x => .str x
  | .lst xs => .list (toPys xs)
  | .tup xs => .tuple (toPys xs)
  | .obj _ _ => .none
  | .fx _ => .none
  | .scr _ => .none
def toPys : List D → List PyData
  | [] => []
  | x :: xs => toPy x :: toPys xs
end
mutual
def eqD : D → D → Bool
  | .non, .non => true
  | .bl a, .bl b => a == b
  | .bl a, .int j => (if a then 1 else 0) == j
  | .int i, .bl b => i == (if b then 1 else 0)
  | .int i, .int j => i == j
  | .str x, .str y => x == y
  | .lst xs, .lst ys => eqDs xs ys
  | .tup xs, .tup ys => eqDs xs ys
  | _, _ => false
def eqDs : List D → List D → Bool
  | [], [] => true
  | x :: xs, y :: ys => eqD x y && eqDs xs ys
  | _, _ => false
end
def plain : Nat → D → Bool
  | _, .non => true
  | _, .bl _ => true
  | _, .int _ => true
  | _, .str x => PyData.strOk x
  | n + 1, .lst xs => xs.all (plain n)
  | n + 1, .tup xs => xs.all (plain n)
  | _, _ => false
section
variable {K : Fg} {G H : Hp}
theorem dp_of (s : Same G H) : ∀ (n : Nat) {v : V} {d : D}, Rep K G v d → plain n d = true → Dp K H v (toPy d)
  | n, _, _, .non, _ => .non
  | n, _, _, .bl b, _ => .bl b
  | n, _, _, .int i, _ => .int i
  | n, _, _, .str x, _ => .str x
  | 0, _, _, .lst h r, p => by cases p
  | n + 1, _, _, .lst h r, p => by
    have all : ∀ {vs : List V} {ds : List D}, RepL K G vs ds → ds.all (plain n) = true → DpAll K H vs (toPys ds) := by
      intro vs ds r
      induction ds generalizing vs with
      | nil => intro _; cases r; exact .nil
      | cons d ds ih =>
        intro q
        rw [List.all_cons, Bool.and_eq_true] at q
        cases r with
        | cons a r => exact .cons (dp_of s n a q.1) (ih r q.2)
    exact .lst (SqL.of (s _ _ h)) (all r p)
  | 0, _, _, .tup h r, p => by cases p
  | n + 1, _, _, .tup h r, p => by
    have all : ∀ {vs : List V} {ds : List D}, RepL K G vs ds → ds.all (plain n) = true → DpAll K H vs (toPys ds) := by
      intro vs ds r
      induction ds generalizing vs with
      | nil => intro _; cases r; exact .nil
      | cons d ds ih =>
        intro q
        rw [List.all_cons, Bool.and_eq_true] at q
        cases r with
        | cons a r => exact .cons (dp_of s n a q.1) (ih r q.2)
    exact .tup (same_t s h) (all r p)
  | n, _, _, .obj _ _, p => by cases n <;> cases p
  | n, _, _, .fx _, p => by cases n <;> cases p
  | n, _, _, .scr _ _, p => by cases n <;> cases p
end
theorem lay_of : ∀ (n : Nat) (d : D), plain n d = true → PyData.canLay0 (toPy d) = true ∧ (toPy d).depth ≤ n
  | n, .non, _ => ⟨rfl, Nat.zero_le _⟩
  | n, .bl _, _ => ⟨rfl, Nat.zero_le _⟩
  | n, .int _, _ => ⟨rfl, Nat.zero_le _⟩
  | n, .str x, p => ⟨by cases n <;> exact p, Nat.zero_le _⟩
  | 0, .lst _, p => by cases p
  | 0, .tup _, p => by cases p
  | n + 1, .lst xs, p => by
    have all : ∀ ds : List D, ds.all (plain n) = true → PyData.canLayAll0 (toPys ds) = true ∧ PyData.depthAll (toPys ds) ≤ n := by
      intro ds
      induction ds with
      | nil => intro _; exact ⟨rfl, Nat.zero_le _⟩
      | cons d ds ih =>
        intro q
        rw [List.all_cons, Bool.and_eq_true] at q
        obtain ⟨a, b⟩ := lay_of n d q.1
        obtain ⟨c, e⟩ := ih q.2
        exact ⟨by show (PyData.canLay0 (toPy d) && PyData.canLayAll0 (toPys ds)) = true; rw [a, c]; rfl, Nat.max_le.mpr ⟨b, e⟩⟩
    obtain ⟨a, b⟩ := all xs p
    exact ⟨a, Nat.succ_le_succ b⟩
  | n + 1, .tup xs, p => by
    have all : ∀ ds : List D, ds.all (plain n) = true → PyData.canLayAll0 (toPys ds) = true ∧ PyData.depthAll (toPys ds) ≤ n := by
      intro ds
      induction ds with
      | nil => intro _; exact ⟨rfl, Nat.zero_le _⟩
      | cons d ds ih =>
        intro q
        rw [List.all_cons, Bool.and_eq_true] at q
        obtain ⟨a, b⟩ := lay_of n d q.1
        obtain ⟨c, e⟩ := ih q.2
        exact ⟨by show (PyData.canLay0 (toPy d) && PyData.canLayAll0 (toPys ds)) = true; rw [a, c]; rfl, Nat.max_le.mpr ⟨b, e⟩⟩
    obtain ⟨a, b⟩ := all xs p
    exact ⟨a, Nat.succ_le_succ b⟩
  | n, .obj _ _, p => by cases n <;> cases p
  | n, .fx _, p => by cases n <;> cases p
  | n, .scr _, p => by cases n <;> cases p
theorem shaped_of {d : D} (p : plain 20 d = true) : SeqAt.shaped (toPy d) = true := by
  obtain ⟨a, b⟩ := lay_of 20 d p
  show (PyData.canLay0 (toPy d) && decide ((toPy d).depth ≤ 64)) = true
  rw [a, decide_eq_true (by omega : (toPy d).depth ≤ 64)]
  rfl
theorem eqv_of : ∀ (n : Nat) (d e : D), plain n d = true → plain n e = true → PyData.eqv (toPy d) (toPy e) = eqD d e := by
  intro n
  induction n with
  | zero =>
    intro d e p q
    cases d <;> cases e <;> first | rfl | (cases p; done) | (cases q; done)
  | succ n ih =>
    have all : ∀ (ds es : List D), ds.all (plain n) = true → es.all (plain n) = true → PyData.eqvAll (toPys ds) (toPys es) = eqDs ds es := by
      intro ds
      induction ds with
      | nil => intro es _ _; cases es <;> rfl
      | cons d ds ih2 =>
        intro es p q
        cases es with
        | nil => rfl
        | cons e es =>
          rw [List.all_cons, Bool.and_eq_true] at p q
          show (PyData.eqv (toPy d) (toPy e) && PyData.eqvAll (toPys ds) (toPys es)) = (eqD d e && eqDs ds es)
          rw [ih d e p.1 q.1, ih2 es p.2 q.2]
    intro d e p q
    cases d <;> cases e <;> first | rfl | (cases p; done) | (cases q; done) | exact all _ _ p q
def gEq (d e : D) (F : D → Prop) : Prop := plain 20 d = true ∧ plain 20 e = true ∧ F (.bl (eqD d e))
def gNe (d e : D) (F : D → Prop) : Prop := plain 20 d = true ∧ plain 20 e = true ∧ F (.bl (!eqD d e))
theorem rd_eq {K : Fg} : RD K (rEqD K) gEq := fun H G x y d e F Q s rx ry ⟨p, q, f⟩ k =>
  ⟨_, _, dp_of s 20 rx p, dp_of s 20 ry q, shaped_of p, shaped_of q, k _ _ H G (Go.refl s .no) (by rw [eqv_of 20 d e p q]; exact .bl _) f⟩
theorem rd_ne {K : Fg} : RD K (rNeD K) gNe := fun H G x y d e F Q s rx ry ⟨p, q, f⟩ k =>
  ⟨_, _, dp_of s 20 rx p, dp_of s 20 ry q, shaped_of p, shaped_of q, k _ _ H G (Go.refl s .no) (by rw [eqv_of 20 d e p q]; exact .bl _) f⟩
/-! is None -/
def isNon : D → Bool
  | .non => true
  | _ => false
def gIsN (d e : D) (F : D → Prop) : Prop := match e with
  | .non => (∀ v, d ≠ .fx v) ∧ F (.bl (isNon d))
  | _ => False
def gNotN (d e : D) (F : D → Prop) : Prop := match e with
  | .non => (∀ v, d ≠ .fx v) ∧ F (.bl (!isNon d))
  | _ => False
theorem isNon_of {K : Fg} {G : Hp} {v : V} {d : D} (r : Rep K G v d) (h : ∀ v, d ≠ .fx v) : decide (v = .non) = isNon d := by
  cases r with
  | fx v => exact absurd rfl (h v)
  | non => rfl
  | bl _ => rfl
  | int _ => rfl
  | str _ => rfl
  | lst _ _ => rfl
  | tup _ _ => rfl
  | obj _ _ => rfl
  | scr _ _ => rfl
theorem rd_isN {K : Fg} : RD K (fun x y H Q => y = .non ∧ Q (.bl (decide (x = .non))) H) gIsN := fun H G x y d e F Q s rx ry h k => by
  unfold gIsN at h
  split at h
  · exact ⟨ry.non_of, k _ _ H G (Go.refl s .no) (by rw [isNon_of rx h.1]; exact .bl _) h.2⟩
  · exact h.elim
theorem rd_notN {K : Fg} : RD K (fun x y H Q => y = .non ∧ Q (.bl (!decide (x = .non))) H) gNotN := fun H G x y d e F Q s rx ry h k => by
  unfold gNotN at h
  split at h
  · exact ⟨ry.non_of, k _ _ H G (Go.refl s .no) (by rw [isNon_of rx h.1]; exact .bl _) h.2⟩
  · exact h.elim
/-! in -/
def flatD : D → Bool
  | .non => true
  | .bl _ => true
  | .int _ => true
  | .str _ => true
  | _ => false
theorem flat_of {K : Fg} {G : Hp} {v : V} {d : D} (r : Rep K G v d) (h : flatD d = true) : flatV v = true := by cases r <;> first | rfl | (cases h; done)
theorem flats_of {K : Fg} {G : Hp} : ∀ {vs : List V} {ds : List D}, RepL K G vs ds → ds.all flatD = true → vs.all flatV = true
  | _, _, .nil, _ => rfl
  | _, _, .cons a r, h => by
    rw [List.all_cons, Bool.and_eq_true] at h ⊢
    exact ⟨flat_of a h.1, flats_of r h.2⟩
theorem eqV_of {K : Fg} {G : Hp} {v u : V} {d e : D} (r : Rep K G v d) (q : Rep K G u e) (h : flatD d = true) (k : flatD e = true) : eqV v u = eqD d e := by
  cases r <;> first | (cases h; done) | (cases q <;> first | rfl | (cases k; done))
def inD (d : D) (ds : List D) : Bool := ds.any fun e => eqD e d
theorem inV_of {K : Fg} {G : Hp} {v : V} {d : D} (r : Rep K G v d) (h : flatD d = true) : ∀ {vs : List V} {ds : List D}, RepL K G vs ds → ds.all flatD = true → inV v vs = inD d ds
  | _, _, .nil, _ => rfl
  | _, _, .cons a q, k => by
    rw [List.all_cons, Bool.and_eq_true] at k
    show (eqV _ v || inV v _) = (eqD _ d || inD d _)
    rw [eqV_of a r k.1 h, inV_of r h q k.2]
def rInA (K : Fg) (neg : Bool) : R2 := fun x y H Q => rIn K neg x y H Q ∨ ∃ (c : Nat) (z : Str), x = .str ⟨#[c]⟩ ∧ y = .str z ∧ Q (.bl (if neg then !decide (c ∈ z.cps.toList) else decide (c ∈ z.cps.toList))) H
theorem op_inA {X : Cx} : OpR X (compareOp .In) (rInA X.K false) := op_in_seq.or op_in_sign
theorem op_notInA {X : Cx} : OpR X (compareOp .NotIn) (rInA X.K true) := op_notIn_seq.or op_notIn_sign
def gIn (neg : Bool) (d e : D) (F : D → Prop) : Prop := match e with
  | .lst ds => flatD d = true ∧ ds.all flatD = true ∧ F (.bl (if neg then !inD d ds else inD d ds))
  | .tup ds => flatD d = true ∧ ds.all flatD = true ∧ F (.bl (if neg then !inD d ds else inD d ds))
  | .str z => ∃ c : Nat, d = .str ⟨#[c]⟩ ∧ F (.bl (if neg then !decide (c ∈ z.cps.toList) else decide (c ∈ z.cps.toList)))
  | _ => False
theorem rd_in {K : Fg} {neg : Bool} : RD K (rInA K neg) (gIn neg) := fun H G x y d e F Q s rx ry h k => by
  unfold gIn at h
  split at h
  · obtain ⟨h1, h2, f⟩ := h
    obtain ⟨a, xs, e1, g1, r1⟩ := ry.lst_of
    exact .inl ⟨a, xs, e1, .inl (SqL.of (s _ _ g1)), flat_of rx h1, flats_of r1 h2, k _ _ H G (Go.refl s .no) (by rw [inV_of rx h1 r1 h2]; exact .bl _) f⟩
  · obtain ⟨h1, h2, f⟩ := h
    obtain ⟨a, xs, e1, g1, r1⟩ := ry.tup_of
    exact .inl ⟨a, xs, e1, .inr (same_t s g1), flat_of rx h1, flats_of r1 h2, k _ _ H G (Go.refl s .no) (by rw [inV_of rx h1 r1 h2]; exact .bl _) f⟩
  · obtain ⟨c, e1, f⟩ := h
    subst e1
    exact .inr ⟨c, _, rx.str_of, ry.str_of, k _ _ H G (Go.refl s .no) (.bl _) f⟩
  · exact h.elim
/-! xs[i], t[i], s[i] -/
def gIx (d e : D) (F : D → Prop) : Prop := match d, e with
  | .lst ds, .int i => ∃ r, atI ds i = some r ∧ F r
  | .tup ds, .int i => ∃ r, atI ds i = some r ∧ F r
  | .str z, .int i => z.length ≤ sizeLine ∧ ∃ c, atI z.cps.toList i = some c ∧ F (.str ⟨#[c]⟩)
  | _, _ => False
theorem RepL.atI {K : Fg} {G : Hp} {xs : List V} {ds : List D} (r : RepL K G xs ds) {i : Int} {d : D} (h : L2.atI ds i = some d) : ∃ v, L2.atI xs i = some v ∧ Rep K G v d := by
  unfold L2.atI at h ⊢
  rw [r.length]
  cases e : ixN ds.length i with
  | none => rw [e] at h; cases h
  | some j =>
    rw [e] at h
    exact r.get h
theorem rd_ix {K : Fg} : RD K (rIx K) gIx := fun H G x y d e F Q s rx ry h k => by
  unfold gIx at h
  split at h
  · rename_i ds i
    obtain ⟨r, h1, f⟩ := h
    obtain ⟨a, xs, e1, g1, r1⟩ := rx.lst_of
    obtain ⟨v, h2, r2⟩ := r1.atI h1
    exact .inl ⟨a, xs, i, v, e1, ry.int_of, SqL.of (s _ _ g1), h2, k _ _ H G (Go.refl s .no) r2 f⟩
  · rename_i ds i
    obtain ⟨r, h1, f⟩ := h
    obtain ⟨a, xs, e1, g1, r1⟩ := rx.tup_of
    obtain ⟨v, h2, r2⟩ := r1.atI h1
    exact .inr (.inl ⟨a, xs, i, v, e1, ry.int_of, same_t s g1, h2, k _ _ H G (Go.refl s .no) r2 f⟩)
  · rename_i z i
    obtain ⟨hz, c, h1, f⟩ := h
    exact .inr (.inr ⟨z, i, c, rx.str_of, ry.int_of, hz, h1, k _ _ H G (Go.refl s .no) (.str _) f⟩)
  · exact h.elim
section
variable {X : Cx} {c : Ct} {W : WX} {e a b : Expr} {es : List Expr} {pos p : Pos} {ma mb : ME} {ta tb : TE}
theorem de_ix (ha : DE X c W a ta ma) (hb : DE X c W b tb mb) (hs : PlainIx b) : DE X c W (.Subscript a b pos) (tOp (rIx X.K) ta tb) (mOp gIx ma mb) := ⟨pe_ix ix_seq ha.p hb.p hs, we_op rd_ix ha.w hb.w⟩
end
/-! slices -/
abbrev MO := List Sl → (Option Int → Prop) → XC → Prop
structure DO (X : Cx) (c : Ct) (W : WX) (e : Option Expr) (t : TO) (m : MO) : Prop where
  p : PO X e t
  w : ∀ H G σ δ (F : Option Int → Prop) (Y : XC) (Q : Option Int → Hp → Prop), Cr c H G → RS X.K c H G σ δ → m δ F Y → (∀ o H' G', Go c.dl H G H' G' → F o → Q o H') → XW X.K c H G σ Y W → t σ H Q
def moNone : MO := fun _ F _ => F none
def moSome (m : ME) : MO := fun δ F X => m δ (fun d => match d with
  | .int i => F (some i)
  | _ => False) X
def cutD {α : Type} (xs : List α) (lo hi : Option Int) : List α := (xs.drop (HT.sIx xs.length 0 lo)).take (HT.sIx xs.length xs.length hi - HT.sIx xs.length 0 lo)
def gSl (d : D) (lo hi : Option Int) (F : D → Prop) : Prop := match d with
  | .lst ds => F (.lst (cutD ds lo hi))
  | .tup ds => (¬ (HT.sIx ds.length 0 lo = 0 ∧ HT.sIx ds.length ds.length hi = ds.length) ∧ F (.tup (cutD ds lo hi))) ∨ False
  | .str z => z.length ≤ sizeLine ∧ F (.str (cutS z lo hi))
  | .scr ds => F (.lst (cutD ds lo hi))
  | _ => False
def mSl (ma : ME) (ml mh : MO) : ME := fun δ F X => ma δ (fun d => ml δ (fun lo => mh δ (fun hi => gSl d lo hi F) X) X) X
def rSlA (K : Fg) : V → Option Int → Option Int → Hp → VK → Prop := fun x lo hi H Q => rSlL K x lo hi H Q ∨ rSlT K x lo hi H Q ∨ rSlS x lo hi H Q
theorem sl_A {X : Cx} : SlR X (rSlA X.K) := sl_list.or (sl_tup.or sl_str)
theorem RepL.cut {K : Fg} {G : Hp} {xs : List V} {ds : List D} (r : RepL K G xs ds) (lo hi : Option Int) : RepL K G (cutV xs lo hi) (cutD ds lo hi) := by
  unfold cutV cutD
  rw [r.length]
  exact (r.drop _).take _
theorem r_sl {K : Fg} {H G : Hp} {x : V} {d : D} {lo hi : Option Int} {F : D → Prop} {Q : VK} (s : Same G H) (r : Rep K G x d) (h : gSl d lo hi F) (k : ∀ v d' H' G', Go none H G H' G' → Rep K G' v d' → F d' → Q v H') : rSlA K x lo hi H Q := by
  unfold gSl at h
  split at h
  · obtain ⟨a, xs, e1, g1, r1⟩ := r.lst_of
    refine .inl ⟨a, xs, e1, SqL.of (s _ _ g1), fun p hp => ?_⟩
    have g2 := Go.laid (o := .lst (cutV xs lo hi)) s hp
    exact k _ _ _ _ g2 (.lst upd_same ((r1.cut lo hi).mono g2.grow)) h
  · rcases h with h | h
    · obtain ⟨a, xs, e1, g1, r1⟩ := r.tup_of
      refine .inr (.inl ⟨a, xs, e1, same_t s g1, by rw [r1.length]; exact h.1, fun p hp => ?_⟩)
      have g2 := Go.laid (o := .tup (cutV xs lo hi)) s hp
      exact k _ _ _ _ g2 (.tup (SqT.of upd_same) ((r1.cut lo hi).mono g2.grow)) h.2
    · exact h.elim
  · exact .inr (.inr ⟨_, r.str_of, h.1, k _ _ H G (Go.refl s .no) (.str _) h.2⟩)
  · obtain ⟨a, xs, e1, g1, r1⟩ := r.scr_of
    refine .inl ⟨a, xs, e1, same_l s g1, fun p hp => ?_⟩
    have g2 := Go.laid (o := .lst (cutV xs lo hi)) s hp
    exact k _ _ _ _ g2 (.lst upd_same ((r1.cut lo hi).mono g2.grow)) h
  · exact h.elim
section
variable {X : Cx} {c : Ct} {W : WX} {e a b : Expr} {es : List Expr} {pos p p2 : Pos} {ma mb : ME} {ta tb : TE} {lo hi : Option Expr} {tl th : TO} {ml mh : MO}
theorem do_none : DO X c W none tNoPart moNone := ⟨po_none, fun H G σ δ F Y Q cr rs h q _ => q none H G cr.rfl' h⟩
theorem do_some (h : DE X c W e ta ma) : DO X c W (some e) (tPart ta) (moSome ma) := ⟨po_some h.p, fun H G σ δ F Y Q cr rs hm q x => by
  refine h.w H G σ δ _ _ _ cr rs hm (fun v d H' G' g r f => ?_) x
  split at f
  · exact ⟨_, r.int_of, q _ H' G' g f⟩
  · exact f.elim⟩
theorem de_sl (ha : DE X c W a ta ma) (hl : DO X c W lo tl ml) (hh : DO X c W hi th mh) : DE X c W (.Subscript a (.Slice lo hi none p2) pos) (tSl (rSlA X.K) ta tl th) (mSl ma ml mh) := by
  refine ⟨pe_slice sl_A ha.p hl.p hh.p, fun H G σ δ F Y Q cr rs hm q x => ?_⟩
  refine ha.w H G σ δ _ _ _ cr rs hm (fun v d H1 G1 g1 r1 h1 => ?_) x
  refine hl.w H1 G1 σ δ _ _ _ (cr.step g1) (rs.step cr g1) h1 (fun o H2 G2 g2 h2 => ?_) (x.step g1)
  have g12 := g1.trans g2
  refine hh.w H2 G2 σ δ _ _ _ (cr.step g12) (rs.step cr g12) h2 (fun o2 H3 G3 g3 h3 => ?_) (x.step g12)
  exact r_sl g3.sub ((r1.mono g2.grow).mono g3.grow) h3 fun v d' H' G' g4 r4 f => q v d' H' G' ((g12.trans g3).trans (g4.lift g3.deal)) r4 f
/-- x[::-1] of a list -/
def mRev (ma : ME) : ME := fun δ F X => ma δ (fun d => match d with
  | .lst ds => F (.lst ds.reverse)
  | _ => False) X
theorem de_rev {k : Nat} {p1 p3 : Pos} (ha : DE X c W a ta ma) : DE X c W (.Subscript a (.Slice none none (some (.UnaryOp .USub (.Constant (.int 1) k p1) p2)) p3) pos) (tRevL X.K ta) (mRev ma) := by
  refine ⟨pe_revL ha.p, fun H G σ δ F Y Q cr rs hm q x => ?_⟩
  refine ha.w H G σ δ _ _ _ cr rs hm (fun v d H1 G1 g1 r1 h1 => ?_) x
  split at h1
  · obtain ⟨b, xs, e1, g2, r2⟩ := r1.lst_of
    refine ⟨b, xs, e1, SqL.of (g1.sub _ _ g2), fun p hp => ?_⟩
    have g3 := Go.laid (o := .lst xs.reverse) g1.sub hp
    exact q _ _ _ _ (g1.trans (g3.lift g1.deal)) (.lst upd_same (r2.rev.mono g3.grow)) h1
  · exact h1.elim
end
/-! list * int -/
def gRep (d e : D) (F : D → Prop) : Prop := match d, e with
  | .int i, .int j => CMul i j ∧ F (.int (i * j))
  | .lst ds, .int k => -(2 ^ 63) ≤ k ∧ k < 2 ^ 63 ∧ ds.length * k.toNat ≤ sizeLine ∧ F (.lst (List.replicate k.toNat ds).flatten)
  | _, _ => False
def rMulA : R2 := fun x y H Q => rI CMul (fun i j => .int (i * j)) x y H Q ∨ rRep x y H Q
theorem op_mulA {X : Cx} : OpR X (binaryOp .Mult) rMulA := op_mul.or op_rep
theorem rd_mul {K : Fg} : RD K rMulA gRep := fun H G x y d e F Q s rx ry h k => by
  unfold gRep at h
  split at h
  · rename_i i j
    exact .inl ⟨i, j, rx.int_of, ry.int_of, h.1, k _ _ H G (Go.refl s .no) (.int _) h.2⟩
  · rename_i ds n
    obtain ⟨a, xs, e1, g1, r1⟩ := rx.lst_of
    refine .inr ⟨a, n, xs, e1, ry.int_of, s _ _ g1, h.1, h.2.1, by rw [r1.length]; exact h.2.2.1, fun p hp => ?_⟩
    have g2 := Go.laid (o := .lst (List.replicate n.toNat xs).flatten) s hp
    exact k _ _ _ _ g2 (.lst upd_same ((r1.rep _).mono g2.grow)) h.2.2.2
  · exact h.elim
end DL

set_option Elab.async false
set_option linter.all false
set_option maxRecDepth 100000
set_option maxHeartbeats 4000000
namespace DL
open PySem L2 PySem.Spec PyProof.Rows

/-! ### len(set(texts)) -/
def ddS (acc : List Str) : List Str → List Str
  | [] => acc
  | x :: xs => if x ∈ acc then ddS acc xs else ddS (acc ++ [x]) xs
theorem ddS_append (ys : List Str) (y : Str) : ∀ acc, ddS acc (ys ++ [y]) = if y ∈ ddS acc ys then ddS acc ys else ddS acc ys ++ [y] := by
  induction ys with
  | nil => intro acc; rfl
  | cons x xs ih =>
    intro acc
    show (if x ∈ acc then ddS acc (xs ++ [y]) else ddS (acc ++ [x]) (xs ++ [y])) = _
    by_cases h : x ∈ acc
    · rw [if_pos h, ih acc]
      show _ = if y ∈ (if x ∈ acc then ddS acc xs else ddS (acc ++ [x]) xs) then _ else _
      rw [if_pos h]
      show _ = if _ then (if x ∈ acc then ddS acc xs else ddS (acc ++ [x]) xs) else (if x ∈ acc then ddS acc xs else ddS (acc ++ [x]) xs) ++ [y]
      rw [if_pos h]
    · rw [if_neg h, ih (acc ++ [x])]
      show _ = if y ∈ (if x ∈ acc then ddS acc xs else ddS (acc ++ [x]) xs) then _ else _
      rw [if_neg h]
      show _ = if _ then (if x ∈ acc then ddS acc xs else ddS (acc ++ [x]) xs) else (if x ∈ acc then ddS acc xs else ddS (acc ++ [x]) xs) ++ [y]
      rw [if_neg h]
theorem ddS_len (xs : List Str) : ∀ acc, (ddS acc xs).length ≤ acc.length + xs.length := by
  induction xs with
  | nil => intro acc; exact Nat.le_refl _
  | cons x xs ih =>
    intro acc
    show (if x ∈ acc then ddS acc xs else ddS (acc ++ [x]) xs).length ≤ _
    rw [List.length_cons]
    split
    · have := ih acc
      omega
    · have := ih (acc ++ [x])
      rw [List.length_append, List.length_singleton] at this
      omega
def hasS (xs : List Str) (k : Str) : Bool := decide (k ∈ ddS [] xs)
section
variable {pg : Program} {wo : World} {Ar : Around} {Rs : Result → Shared → Prop} {It : Addr} {fp wr : List Addr} {Gn : Array GenState → Array GenState → Prop} {n : Nat} {Pi : Nat → Value → Prop} {St : Nat → Shared → Prop}
theorem set_loopT (Wk : WalksS pg wo Ar.in1 It fp wr Gn n Pi St) (S : Addr) (nf : S ∉ fp) (xs : List Str) (el : xs.length = n) (few : n + 1 < scanBound)
    (iv : ∀ i v, Pi i v → ∃ t, v = .str (xs.getD i Str.empty) t) : ∀ (d i : Nat) (z : Shared), n - i = d → i ≤ n → St i z → z.heap.SetOf (strKind pg wo) S (hasS (xs.take i)) (ddS [] (xs.take i)).length →
      (∀ z', Moved (S :: wr) Gn z z' → z'.heap.SetOf (strKind pg wo) S (hasS xs) (ddS [] xs).length → Rs (.ok (.ret .none)) z') → codeAny (model pg wo) Ar (.builtin "set.update.loop" ⟨[.ref S, .ref It], []⟩) Rs z := by
  have nw : S ∉ wr := fun h => nf (Wk.sub _ h)
  have up : ∀ b ∈ wr, b ∈ S :: wr := fun b hb => List.mem_cons_of_mem _ hb
  intro d
  induction d with
  | zero =>
    intro i z hd hi at_ has fin
    obtain rfl : i = n := by omega
    refine codeAny_builtin F.entry_set_update_loop ?_
    rw [Around.under_plainId F.plain_set_update_loop _]
    show wpAny _ Ar.in1 (pyNext (.ref It) >>= _) _ _ z
    refine wpAny_bind (Wk.done z _ _ at_ fun z' mv => ?_)
    show wpAny _ Ar.in1 (ret Value.none) _ _ z'
    refine wpAny_pure (fin z' (mv.mono up) ?_)
    rw [List.take_of_length_le (Nat.le_of_eq el)] at has
    obtain ⟨o, es, ep, t, ho, more⟩ := has
    exact ⟨o, es, ep, t, mv.heap S _ nw ho, more⟩
  | succ d ih =>
    intro i z hd hi at_ has fin
    have lt : i < n := by omega
    have ltx : i < xs.length := by omega
    have eg : xs.getD i Str.empty = xs[i] := by rw [List.getD_eq_getElem?_getD, List.getElem?_eq_getElem ltx]; rfl
    have et : xs.take (i + 1) = xs.take i ++ [xs[i]] := by rw [List.take_succ, List.getElem?_eq_getElem ltx]; rfl
    refine codeAny_builtin F.entry_set_update_loop ?_
    rw [Around.under_plainId F.plain_set_update_loop _]
    show wpAny _ Ar.in1 (pyNext (.ref It) >>= _) _ _ z
    refine wpAny_bind (Wk.item i z _ _ lt at_ fun v z' pv at' mv => ?_)
    obtain ⟨t, rfl⟩ := iv i v pv
    have has' : z'.heap.SetOf (strKind pg wo) S (hasS (xs.take i)) (ddS [] (xs.take i)).length := by
      obtain ⟨o, es, ep, tb, ho, more⟩ := has
      exact ⟨o, es, ep, tb, mv.heap S _ nw ho, more⟩
    rw [eg]
    show wpAny _ Ar.in1 (holding [Value.str xs[i] t] (setAdd S (.str xs[i] t)) >>= _) _ _ z'
    refine wpAny_bind (wpAny_holding ?_)
    unfold setAdd
    refine wpAny_holding ?_
    refine wpAny_bind ((strKind pg wo).pyHash (k := xs[i]) (strKind_is _ _ _ _) ?_)
    have room : (ddS [] (xs.take i)).length + 1 < scanBound := by
      have h1 := ddS_len (xs.take i) []
      have h2 : (xs.take i).length ≤ i := by rw [List.length_take]; exact Nat.min_le_left _ _
      have h3 : ([] : List Str).length = 0 := rfl
      omega
    refine wpAny_setAddHashed_of (knd := strKind pg wo) (s := { z' with toks := z'.toks + 1 }) (strKind_is _ _ _ _) rfl has' room fun h' sb has2 => ?_
    have next : h'.SetOf (strKind pg wo) S (hasS (xs.take (i + 1))) (ddS [] (xs.take (i + 1))).length := by
      refine SetOf_congr has2 (fun k => ?_) ?_
      · unfold hasS
        rw [et, ddS_append]
        by_cases h : xs[i] ∈ ddS [] (xs.take i)
        · rw [if_pos h]
          by_cases q : k = xs[i]
          · subst q
            simp [h]
          · simp [q]
        · rw [if_neg h]
          simp [List.mem_append]
      · rw [et, ddS_append]
        unfold hasS
        by_cases h : xs[i] ∈ ddS [] (xs.take i)
        · rw [if_pos h, if_pos (decide_eq_true h)]
        · rw [if_neg h, if_neg (by simpa using h), List.length_append, List.length_singleton]
    refine wpAny_pure ⟨plainId_quiet F.plain_set_update_loop _, ih (i + 1) _ (by omega) lt (Wk.frame _ z' _ _ at' (Nat.le_succ _) fun b hb o e => ?_) next fun z2 mv2 has3 => ?_⟩
    · rw [sb.2 b fun q : b = S => nf (by rw [← q]; exact hb)]
      exact e
    · refine fin z2 (Moved.trans Wk.gtrans ((mv.mono up).then_heap (Nat.le_succ _) fun b o hb e => ?_) mv2) has3
      rw [sb.2 b fun q : b = S => hb (by rw [q]; exact List.mem_cons_self)]
      exact e
end
section
variable {pg : Program} {wo : World} {Ar : Around} {Er : Value → Shared → Prop} {st : Shared}
/-- set(x) for any x that has an iterator of texts -/
theorem set_of_texts {l : Addr} {xs : List Str} {Q : Value → Shared → Prop} {T : String} {ol : Obj} (hh : Ar.handled = none) (few : xs.length + 1 < scanBound) (hol : st.heap.get? l = some ol) (hT : ol.cls = .type T)
    (n1 : isSubtype (.type T) (.type "set") = pure false) (n2 : isSubtype (.type T) (.type "frozenset") = pure false) (n3 : (Value.type T == Value.type "dict") = false)
    (itr : ∀ (led : Bool) (A2 : Around) (E2 : Value → Shared → Prop) (Q2 : Value → Shared → Prop), A2.handled = none →
      (∀ (hp : Heap) (It : Addr) (fp wr : List Addr) (Gn : Array GenState → Array GenState → Prop) (Pi : Nat → Value → Prop) (St : Nat → Shared → Prop),
        (∀ b o, (st.heap.push { cls := .type "set", dict := none, data := .set #[] 0 (.fresh 0 0 led) }).get? b = some o → hp.get? b = some o) → (∀ A3 : Around, A3.handled = none → WalksS pg wo A3 It fp wr Gn xs.length Pi St) → st.heap.objs.size ∉ fp →
        (∀ g1 g2, Gn g1 g2 → g2 = g1) → (∀ b ∈ wr, st.heap.objs.size < b) → (∀ i v, Pi i v → ∃ t, v = .str (xs.getD i Str.empty) t) → St 0 { st with heap := hp } → Q2 (.ref It) { st with heap := hp }) →
      wpAny (model pg wo) A2 (pyIter (.ref l)) Q2 E2 { st with heap := st.heap.push { cls := .type "set", dict := none, data := .set #[] 0 (.fresh 0 0 led) } })
    (h : ∀ (h' : Heap) (tk : Nat), h'.SetOf (strKind pg wo) st.heap.objs.size (hasS xs) (ddS [] xs).length → (∀ b o, b < st.heap.objs.size → st.heap.get? b = some o → h'.get? b = some o) → Q (.ref st.heap.objs.size) { st with heap := h', toks := tk }) :
    wpAny (model pg wo) Ar (call (.type "set") [.ref l]) Q Er st := by
  obtain ⟨c0, t0, m0⟩ := PySem.F.called_set.mro
  have m1 := PySem.F.called_set.made
  have m2 := PySem.F.called_set.sub
  refine wpAny_call (codeAny_of_tree ?_)
  show wpAny _ _ (callAny (.type "set") _) _ _ _
  refine wpAny_pure ⟨Code.quiet_builtin _ (by decide +kernel), codeAny_builtin PySem.F.entry_type_call ?_⟩
  rw [Around.under_plain (weight_type_call_type "set" [.ref l] []) rfl]
  have m3 := PySem.F.called_set.notType
  have m4 := PySem.F.called_set.canCreate
  have m5 := PySem.F.typeCall_set_1 (.ref l)
  repeat (any_goals (first | assumption | wp_step))
  refine codeAny_mono (code_set_new_1 (.ref l) (E := Er) (Q₁ := fun ob z => ∃ led : Bool, ob = .ref st.heap.objs.size ∧ z = { st with heap := st.heap.push { cls := .type "set", dict := none, data := .set #[] 0 (.fresh 0 0 led) } }) fun led => ⟨led, rfl, rfl⟩) fun r z hr => ?_
  cases r with
  | error e => exact hr
  | ok fl =>
    cases fl with
    | ret ob =>
      obtain ⟨led, rfl, rfl⟩ := hr
      have hS : (st.heap.push { cls := .type "set", dict := none, data := .set #[] 0 (.fresh 0 0 led) }).get? st.heap.objs.size = some { cls := .type "set", dict := none, data := .set #[] 0 (.fresh 0 0 led) } := Heap.get?_push_size _ rfl
      have tyS : Shared.TypeIs { st with heap := st.heap.push { cls := .type "set", dict := none, data := .set #[] 0 (.fresh 0 0 led) } } (.ref st.heap.objs.size) "set" := ⟨_, hS, rfl⟩
      have m6 := PySem.F.called_set.init.lookup
      have m7 := PySem.F.called_set.init.bind (.ref st.heap.objs.size)
      repeat (any_goals (first | assumption | wp_step))
      refine codeAny_mono (codeAny_call_builtin (R := wants (fun v z2 => v = .none ∧ ∃ h' tk, z2 = { st with heap := h', toks := tk } ∧ h'.SetOf (strKind pg wo) st.heap.objs.size (hasS xs) (ddS [] xs).length ∧
          (∀ b o, b < st.heap.objs.size → st.heap.get? b = some o → h'.get? b = some o)) Er) PySem.F.called_set.init.plain PySem.F.entry_set_init (check_set_init_1 tyS ?_)) fun r2 z2 hr2 => ?_
      · obtain ⟨oc, od, oda, osl⟩ := ol
        dsimp only at hT
        subst hT
        have hol2 : (st.heap.push { cls := .type "set", dict := none, data := .set #[] 0 (.fresh 0 0 led) }).get? l = some { cls := .type T, dict := od, data := oda, slots := osl } := Heap.get?_push_of_some _ hol
        unfold Builtin.«set.__init__» noKeywords Builtin.Frozenset.updateFrom
        generalize hPI : pyIter = PI
        wp_walk
        subst hPI
        refine itr led _ _ _ (by simp [hh]) fun hp It fp wr Gn Pi St kp Wk nf ge wb iv st0 => ?_
        refine wpAny_bind (wpAny_runValue ?_)
        refine set_loopT (Wk _ (by simp [hh])) st.heap.objs.size nf xs rfl few iv (xs.length - 0) 0 _ (by omega) (Nat.zero_le _) st0 ?_ ?_
        · exact SetOf_congr ((setObjOf_fresh (knd := strKind pg wo) led).setOf (kp _ _ hS) (by unfold scanBound; omega)) (fun _ => rfl) rfl
        · intro z' mv has
          obtain ⟨h', g', d', tk', os'⟩ := z'
          have eg : g' = st.gens := ge _ _ mv.gens
          have ed : d' = st.drawn := mv.drawn
          have eo : os' = st.os := mv.os
          subst eg ed eo
          show wpAny _ _ _ _ _ _
          refine wpAny_pure ?_
          show wpAny _ _ (ret Value.none) _ _ _
          refine wpAny_pure ⟨rfl, h', tk', rfl, has, fun b o hb e => mv.heap b o (fun q => ?_) (kp _ _ (Heap.get?_push_of_some _ e))⟩
          rcases List.mem_cons.mp q with q | q
          · exact Nat.ne_of_lt hb q
          · exact absurd (Nat.lt_trans hb (wb b q)) (Nat.lt_irrefl _)
      · cases r2 with
        | error e => exact hr2
        | ok f2 =>
          cases f2 with
          | ret v =>
            obtain ⟨rfl, h', tk, rfl, has, kp⟩ := hr2
            repeat (any_goals (first | assumption | wp_step))
            exact h _ _ has kp
          | _ => exact hr2.elim
    | _ => exact hr.elim
end
end DL

set_option Elab.async false
set_option linter.all false
set_option maxRecDepth 100000
set_option maxHeartbeats 4000000
namespace DL
open PySem L2 PySem.Spec PyProof.Rows

/-! ### len(set(x)) of texts -/
def strsD : List D → Option (List Str)
  | [] => some []
  | .str x :: ds => (strsD ds).map (x :: ·)
  | _ :: _ => none
theorem strs_of {K : Fg} {G : Hp} : ∀ {vs : List V} {ds : List D} {xs : List Str}, RepL K G vs ds → strsD ds = some xs → vs = xs.map V.str
  | _, _, _, .nil, e => by cases e; rfl
  | _, _, _, .cons (d := d) a r, e => by
    cases d with
    | str b =>
      have e : (strsD _).map (b :: ·) = some _ := e
      cases q : strsD _ with
      | none => rw [q] at e; cases e
      | some cs =>
        rw [q] at e
        cases e
        rw [a.str_of, strs_of r q]
        rfl
    | _ => cases e
def seqD : D → Option (List D)
  | .lst ds => some ds
  | .tup ds => some ds
  | _ => none
section
variable {X : Cx} {c : Ct} {W : WX} {e a b : Expr} {es : List Expr} {pos p p2 q : Pos} {x : Str} {ma mb : ME} {ta tb : TE} {mr : MA} {tr : TA}
def tLenSetT (K : Fg) (ta : TE) : TE := fun σ H Q => ta σ H fun x H1 => ∃ (l : Addr) (xs : List Str), x = .ref l ∧ (SqL K H1 l (xs.map V.str) ∨ SqT K H1 l (xs.map V.str)) ∧ xs.length + 1 < scanBound ∧ Q (.int (ddS [] xs).length) H1
theorem pe_lenSetT (hc : X.calm = true) (hg : Gl X "len") (hm : X.mg "len" = none) (hg2 : Gl X "set") (hm2 : X.mg "set" = none) (ha : PE X a ta)
    (na : starEach [a] X.env = (false, eval a X.env) :: starEach [] X.env := by rfl) : PE X (.Call (.Name "len" p) [.Call (.Name "set" p2) [a] [] q] [] pos) (tLenSetT X.K ta) := by
  refine ⟨fun pins s σ H Q I h => ?_⟩
  refine Call_ (ld_blt I hg hm boot_len ?_)
  refine PyProof.Rows.callWith_builtin1 (PyProof.Rows.args_cons ?_ rfl) rfl rfl
  refine Call_ (ld_blt I hg2 hm2 boot_set ?_)
  refine PyProof.Rows.callWith_type1 (PyProof.Rows.args_cons (thn (ha.run pins s σ H _ I h) fun v z ⟨y, H1, I1, r1, q1⟩ => PyProof.Rows.args_nil ?_) na) na rfl
  obtain ⟨l, xs, rfl, hq, few, q1⟩ := q1
  cases r1
  have hh := I1.ok.hd hc
  have fin : ∀ (h' : Heap) (tk : Nat), h'.SetOf (strKind X.prog X.w) z.heap.objs.size (hasS xs) (ddS [] xs).length → (∀ b o, b < z.heap.objs.size → z.heap.get? b = some o → h'.get? b = some o) →
      wpAny (model X.prog X.w) X.A (spliced (backTo pos (starEach [] X.env))) (fun vs s2 => wpAny (model X.prog X.w) X.A (call (.builtin "len") (Value.ref z.heap.objs.size :: vs)) (EP X pins σ Q) X.xe s2) X.xe { z with heap := h', toks := tk } := fun h' tk hS hk => by
    refine PyProof.Rows.args_nil ?_
    obtain ⟨o, es, ep, t, ho, hex, hd, _, _, _, hf, hn⟩ := hS
    have I2 : Inv X pins σ H1 { z with heap := h', toks := tk } := I1.kept fun b o e => hk b o (Heap.lt_size e) e
    have le := ddS_len xs []
    refine call_len_set ho hex hd hf (by rw [hn]; unfold scanBound at few; simp at le; omega) ⟨.int (ddS [] xs).length, H1, I2.tok _, ⟨_, by rw [hn]⟩, q1⟩
  have szS : ∀ led : Bool, (z.heap.push { cls := .type "set", dict := none, data := .set #[] 0 (.fresh 0 0 led) }).objs.size = z.heap.objs.size + 1 := fun led => Heap.size_push _ _
  rcases hq with hq | hq
  · obtain ⟨its, r, pl, hz⟩ := I1.list hq
    have pl' := pl.isList
    obtain ⟨ol, hol, hcl, _⟩ := id pl'
    refine set_of_texts hh few hol hcl PySem.F.sub_list_set PySem.F.sub_list_frozenset (by decide) (fun led A2 E2 Q2 hA k => ?_) fin
    have lt : l < z.heap.objs.size := Heap.lt_size hol
    have hl1 : (z.heap.push { cls := .type "set", dict := none, data := .set #[] 0 (.fresh 0 0 led) }).IsList l its.toArray := pl'.push _
    refine wpAny_pyIter_list (s := { z with heap := z.heap.push { cls := .type "set", dict := none, data := .set #[] 0 (.fresh 0 0 led) } }) hl1 ?_
    have sz : its.toArray.size = xs.length := by rw [List.size_toArray, ← r.length, List.length_map]
    have sa : StrsAre its xs := strsAre_of r
    have ne : l ≠ (z.heap.push { cls := .type "set", dict := none, data := .set #[] 0 (.fresh 0 0 led) }).objs.size := by rw [szS]; exact Nat.ne_of_lt (Nat.lt_succ_of_lt lt)
    refine k _ _ [(z.heap.push { cls := .type "set", dict := none, data := .set #[] 0 (.fresh 0 0 led) }).objs.size, l] [(z.heap.push { cls := .type "set", dict := none, data := .set #[] 0 (.fresh 0 0 led) }).objs.size] (fun a b => b = a) (fun i v => its.toArray[i]? = some v) (fun i z2 => z2.heap.IsListIter (z.heap.push { cls := .type "set", dict := none, data := .set #[] 0 (.fresh 0 0 led) }).objs.size l i ∧ z2.heap.IsList l its.toArray)
      (fun b o e => Heap.get?_push_of_some _ e) (fun A3 hA3 => ?_) ?_ (fun _ _ e => e) ?_ (fun i v hv => SS.strs_at sa i v (by simpa using hv)) ⟨⟨_, Heap.get?_push_size _ rfl, rfl, rfl⟩, hl1.push _⟩
    · rw [← sz]
      exact (Walks.list hA3 _ l ne its.toArray).toS
    · rw [szS]
      simp only [List.mem_cons, List.mem_singleton, List.not_mem_nil, or_false, not_or]
      exact ⟨Nat.ne_of_lt (Nat.lt_succ_self _), Nat.ne_of_gt lt⟩
    · intro b hb
      rw [szS] at hb
      simp only [List.mem_singleton] at hb
      rw [hb]
      exact Nat.lt_succ_self _
  · obtain ⟨its, r, pl, hz⟩ := I1.tuple hq
    obtain ⟨ol, hol, hcl, _⟩ := id pl
    refine set_of_texts hh few hol hcl PySem.F.sub_tuple_set PySem.F.sub_tuple_frozenset (by decide) (fun led A2 E2 Q2 hA k => ?_) fin
    have lt : l < z.heap.objs.size := Heap.lt_size hol
    have hl1 : (z.heap.push { cls := .type "set", dict := none, data := .set #[] 0 (.fresh 0 0 led) }).IsTuple l its.toArray := pl.push _
    refine wpAny_pyIter_tuple (s := { z with heap := z.heap.push { cls := .type "set", dict := none, data := .set #[] 0 (.fresh 0 0 led) } }) hl1 ?_
    have sz : its.toArray.size = xs.length := by rw [List.size_toArray, ← r.length, List.length_map]
    have sa : StrsAre its xs := strsAre_of r
    have ne : l ≠ (z.heap.push { cls := .type "set", dict := none, data := .set #[] 0 (.fresh 0 0 led) }).objs.size := by rw [szS]; exact Nat.ne_of_lt (Nat.lt_succ_of_lt lt)
    refine k _ _ [(z.heap.push { cls := .type "set", dict := none, data := .set #[] 0 (.fresh 0 0 led) }).objs.size, l] [(z.heap.push { cls := .type "set", dict := none, data := .set #[] 0 (.fresh 0 0 led) }).objs.size] (fun a b => b = a) (fun i v => its.toArray[i]? = some v) (fun i z2 => z2.heap.IsTupleIter (z.heap.push { cls := .type "set", dict := none, data := .set #[] 0 (.fresh 0 0 led) }).objs.size l i ∧ z2.heap.IsTuple l its.toArray)
      (fun b o e => Heap.get?_push_of_some _ e) (fun A3 hA3 => ?_) ?_ (fun _ _ e => e) ?_ (fun i v hv => SS.strs_at sa i v (by simpa using hv)) ⟨⟨_, Heap.get?_push_size _ rfl, rfl, rfl⟩, hl1.push _⟩
    · rw [← sz]
      exact (Walks.tuple hA3 _ l ne its.toArray).toS
    · rw [szS]
      simp only [List.mem_cons, List.mem_singleton, List.not_mem_nil, or_false, not_or]
      exact ⟨Nat.ne_of_lt (Nat.lt_succ_self _), Nat.ne_of_gt lt⟩
    · intro b hb
      rw [szS] at hb
      simp only [List.mem_singleton] at hb
      rw [hb]
      exact Nat.lt_succ_self _
def mLenSet (ma : ME) : ME := fun δ F X => ma δ (fun d => ∃ ds xs, seqD d = some ds ∧ strsD ds = some xs ∧ xs.length + 1 < scanBound ∧ F (.int (ddS [] xs).length)) X
theorem de_lenSet (hc : X.calm = true) (hg : Gl X "len") (hm : X.mg "len" = none) (hg2 : Gl X "set") (hm2 : X.mg "set" = none) (ha : DE X c W a ta ma)
    (na : starEach [a] X.env = (false, eval a X.env) :: starEach [] X.env := by rfl) : DE X c W (.Call (.Name "len" p) [.Call (.Name "set" p2) [a] [] q] [] pos) (tLenSetT X.K ta) (mLenSet ma) := by
  refine ⟨pe_lenSetT hc hg hm hg2 hm2 ha.p na, fun H G σ δ F Y Q cr rs h k x => ?_⟩
  refine ha.w H G σ δ _ _ _ cr rs h (fun v d H' G' g r f => ?_) x
  obtain ⟨ds, xs, e1, e2, few, f⟩ := f
  cases d with
  | lst ds' =>
    cases e1
    obtain ⟨a, vs, e3, g1, r1⟩ := r.lst_of
    exact ⟨a, xs, e3, .inl (SqL.of (by rw [← strs_of r1 e2]; exact g.sub _ _ g1)), few, k _ _ H' G' g (.int _) f⟩
  | tup ds' =>
    cases e1
    obtain ⟨a, vs, e3, g1, r1⟩ := r.tup_of
    exact ⟨a, xs, e3, .inr (by rw [← strs_of r1 e2]; exact same_t g.sub g1), few, k _ _ H' G' g (.int _) f⟩
  | _ => cases e1

/-! ### isinstance -/
/-- what a class must say, that isinstance asks its instances rightly -/
structure IsC (K : Fg) (C : Addr) : Prop where
  cl : Cls K C
  ha : PySem.W.findIn K (.ref C) "__class__" = some (some (.builtin "object.__class__"))
  hn : PySem.W.specialIn K (.builtin "object.__class__") "__get__" = some (some (.builtin "getset_descriptor.__get__"))
  ht : PySem.W.takesIn K (.builtin "object.__class__") = some true
  hm : PySem.W.mroIn K C (.type "object") = some true
def TyD (K : Fg) (d : D) (t : Value) : Prop := match d with
  | .non => t = .type "NoneType"
  | .bl _ => t = .type "bool"
  | .int _ => t = .type "int"
  | .str _ => t = .type "str"
  | .lst _ => t = .type "list"
  | .tup _ => t = .type "tuple"
  | .obj C _ => t = .ref C ∧ IsC K C
  | .fx _ => False
  | .scr _ => False
theorem tyx_of {K : Fg} {G H : Hp} (s : Same G H) {v : V} {d : D} {t : Value} (r : Rep K G v d) (h : TyD K d t) : TyX K H v t := by
  cases r with
  | non => cases h; exact .base .non
  | bl b => cases h; exact .base (.bl b)
  | int i => cases h; exact .base (.int i)
  | str y => cases h; exact .base (.str y)
  | lst h1 _ => cases h; exact .base (.lst (s _ _ h1))
  | tup h1 _ =>
    cases h
    rcases h1 with (h1 | ⟨o, h1⟩) | ⟨o, its, n, k, c, _⟩
    · exact .base (.tup (s _ _ h1))
    · exact .fTuple (s _ _ h1)
    · exact .kTuple k c
  | obj h1 _ =>
    obtain ⟨rfl, q⟩ := h
    exact .base (.ins (s _ _ h1) q.cl q.ha q.hn q.ht q.hm)
  | fx _ => exact h.elim
  | scr _ _ => exact h.elim
def gIsi (K : Fg) (ds : List D) (F : D → Prop) : Prop := match ds with
  | [d, .fx c] => ∃ t u b, ClsV c u ∧ TyD K d t ∧ PySem.W.kitOne K t u = some b ∧ F (.bl b)
  | _ => False
theorem cd_isi {K : Fg} : CD K (rIsi K) (gIsi K) := fun H G vs ds F Q s r h q => by
  unfold gIsi at h
  split at h
  · obtain ⟨t, u, b, c1, c2, c3, f⟩ := h
    obtain ⟨v, w, e1, r1, r2⟩ := r.two
    rw [e1, r2.fx_of]
    exact ⟨v, _, t, u, b, rfl, c1, tyx_of s r1 c2, c3, q _ _ H G (Go.refl s .no) (.bl _) f⟩
  · exact h.elim
def mIsiT (K : Fg) (ma : ME) (mr : MA) : ME := fun δ F X => ma δ (fun d => mr δ (fun es => ∃ cs us t b, es = cs.map D.fx ∧ es.length ≤ sizeLine ∧ Paired ClsV cs us ∧ TyD K d t ∧ PySem.W.kitAny K t us = some b ∧ F (.bl b)) X) X
theorem fxs_of {K : Fg} {G : Hp} : ∀ {vs cs : List V}, RepL K G vs (cs.map D.fx) → vs = cs
  | _, [], .nil => rfl
  | _, _ :: _, .cons a r => by rw [a.fx_of, fxs_of r]
theorem de_isiT {k : Nat} {pt : Pos} (hg : Gl X "isinstance") (hm : X.mg "isinstance" = none) (ha : DE X c W a ta ma) (hr : DA X c W es tr mr)
    (h2 : starEach [.Tuple es k pt] X.env = (false, eval (.Tuple es k pt) X.env) :: starEach [] X.env := by rfl)
    (h1 : starEach [a, .Tuple es k pt] X.env = (false, eval a X.env) :: starEach [.Tuple es k pt] X.env := by rfl) (hpl : (backTo pos (starEach [.Tuple es k pt] X.env)).any (·.1) = false := by rfl) :
    DE X c W (.Call (.Name "isinstance" p) [a, .Tuple es k pt] [] pos) (tCB (rIsiT X.K) (tCons ta (tCons (tTup tr) tNil))) (mIsiT X.K ma mr) := by
  refine ⟨pe_callB call_isiT hg hm (by decide +kernel) (pa_cons ha.p (pa_cons (pe_tup hr.p) pa_nil h2) h1) (by decide) (by decide) h1 hpl, fun H G σ δ F Y Q cr rs h q x => ?_⟩
  refine ha.w H G σ δ _ _ _ cr rs h (fun v d H1 G1 g1 r1 h1 => ?_) x
  refine hr.w H1 G1 σ δ _ _ _ (cr.step g1) (rs.step cr g1) h1 (fun vs ds H2 G2 g2 r2 h2 => ?_) (x.step g1)
  obtain ⟨cs, us, t, b, e1, hz, c1, c2, c3, f⟩ := h2
  refine ⟨r2.len_le hz, fun tp htp => ?_⟩
  subst e1
  have ev := fxs_of r2
  subst ev
  have g3 := Go.laid (o := .tup vs) g2.sub htp
  exact ⟨v, tp, vs, t, us, b, rfl, upd_same, c1, tyx_of g3.sub ((r1.mono g2.grow).mono g3.grow) c2, c3, q _ _ _ _ ((g1.trans g2).trans (g3.lift g2.deal)) (.bl _) f⟩
end

/-! ### methods of texts -/
section
variable {X : Cx} {c : Ct} {W : WX} {o e a b : Expr} {es : List Expr} {pos p p2 apos cpos : Pos} {name : Str} {mo ma mb : ME} {to ta tb : TE} {mr : MA} {tr : TA}
/-- a method of a text, by data -/
def MD (K : Fg) (r : V → List V → Hp → VK → Prop) (g : Str → List D → (D → Prop) → Prop) : Prop := ∀ H G z vs ds (F : D → Prop) (Q : VK), Same G H → RepL K G vs ds → g z ds F → (∀ v d H' G', Go none H G H' G' → Rep K G' v d → F d → Q v H') → r (.str z) vs H Q
def mMS (g : Str → List D → (D → Prop) → Prop) (mo : ME) (mr : MA) : ME := fun δ F X => mo δ (fun d => match d with
  | .str z => mr δ (fun ds => g z ds F) X
  | _ => False) X
theorem de_ms {id : String} {r : V → List V → Hp → VK → Prop} {g : Str → List D → (D → Prop) → Prop} (slot : Slot "str" name id) (hty : typeOf (.builtin id) = pure (.type "method_descriptor")) (hm : MtR X id r) (hr : MD X.K r g) (ho : DE X c W o to mo) (ha : DA X c W (e :: es) tr mr)
    (hbase : attributeBase o name X.env (eval o X.env) = eval o X.env := by rfl)
    (hfew : ((backTo cpos (starEach (e :: es) X.env)).all (fun x => !x.1) && (backToKw cpos (keywordEach [] X.env)).all (fun x => x.1.isSome)
      && decide ((e :: es).length + ([] : List Keyword).length + (if ([] : List Keyword).isEmpty then 0 else 1) < 30)) = true := by rfl)
    (hline : (apos.endLine == cpos.line) = true := by rfl) (hs : starEach (e :: es) X.env = (false, eval e X.env) :: starEach es X.env := by rfl) (hplain : (backTo cpos (starEach es X.env)).any (·.1) = false := by rfl) :
    DE X c W (.Call (.Attribute o name apos) (e :: es) [] cpos) (tBM X.K "str" r to tr) (mMS g mo mr) := by
  refine ⟨pe_bm PySem.F.plainAttrs_str slot hty hm ho.p ha.p hbase hfew hline hs hplain, fun H G σ δ F Y Q cr rs h q x => ?_⟩
  refine ho.w H G σ δ _ _ _ cr rs h (fun v d H1 G1 g1 r1 h1 => ?_) x
  split at h1
  · rw [r1.str_of]
    refine ⟨rfl, ?_⟩
    refine ha.w H1 G1 σ δ _ _ _ (cr.step g1) (rs.step cr g1) h1 (fun vs ds H2 G2 g2 r2 h2 => ?_) (x.step g1)
    exact hr H2 G2 _ vs ds F Q g2.sub r2 h2 fun v d H' G' g3 r3 f => q v d H' G' ((g1.trans g2).trans (g3.lift g2.deal)) r3 f
  · exact h1.elim
def gStrip (z : Str) (ds : List D) (F : D → Prop) : Prop := match ds with
  | [.str b] => z.length ≤ sizeLine ∧ F (.str (Txt.stripChars z b))
  | _ => False
theorem md_strip {K : Fg} : MD K (fun x xs H Q => ∃ a b, x = .str a ∧ xs = [.str b] ∧ a.length ≤ sizeLine ∧ Q (.str (Txt.stripChars a b)) H) gStrip := fun H G z vs ds F Q s r h q => by
  unfold gStrip at h
  split at h
  · obtain ⟨v, e, r1⟩ := r.one
    rw [e, r1.str_of]
    exact ⟨z, _, rfl, rfl, h.1, q _ _ H G (Go.refl s .no) (.str _) h.2⟩
  · exact h.elim
def gJoin (z : Str) (ds : List D) (F : D → Prop) : Prop := match ds with
  | [d] => ∃ es ys, seqD d = some es ∧ strsD es = some ys ∧ (ys.map (·.length)).sum + ys.length * z.length ≤ 16777216 ∧ F (.str (Txt.join z ys))
  | _ => False
theorem md_join {K : Fg} : MD K (fun x xs H Q => ∃ a p, ∃ ys : List Str, x = .str a ∧ xs = [.ref p] ∧ (SqL K H p (ys.map V.str) ∨ SqT K H p (ys.map V.str)) ∧
    (ys.map (·.length)).sum + ys.length * a.length ≤ 16777216 ∧ Q (.str (Txt.join a ys)) H) gJoin := fun H G z vs ds F Q s r h q => by
  unfold gJoin at h
  split at h
  · rename_i d
    obtain ⟨es, ys, e1, e2, hz, f⟩ := h
    obtain ⟨v, e, r1⟩ := r.one
    subst e
    cases d with
    | lst ds' =>
      cases e1
      obtain ⟨a, vs, e3, g1, r2⟩ := r1.lst_of
      subst e3
      exact ⟨z, a, ys, rfl, rfl, .inl (SqL.of (by rw [← strs_of r2 e2]; exact s _ _ g1)), hz, q _ _ H G (Go.refl s .no) (.str _) f⟩
    | tup ds' =>
      cases e1
      obtain ⟨a, vs, e3, g1, r2⟩ := r1.tup_of
      subst e3
      exact ⟨z, a, ys, rfl, rfl, .inr (by rw [← strs_of r2 e2]; exact same_t s g1), hz, q _ _ H G (Go.refl s .no) (.str _) f⟩
    | _ => cases e1
  · exact h.elim
end
end DL

set_option Elab.async false
set_option linter.all false
set_option maxRecDepth 100000
set_option maxHeartbeats 4000000
namespace DL
open PySem L2 PySem.Spec PyProof.Rows

theorem RS.put {K : Fg} {c : Ct} {H G : Hp} {σ : L2.St} {δ : List Sl} (r : RS K c H G σ δ) {x : Option V} {s : Sl} (i : Nat) (q : SlotOk K c H G x s) (no : ∀ es, s ≠ .own es) : RS K c H G (σ.set i x) (δ.set i s) where
  len := by rw [List.length_set, List.length_set]; exact r.len
  at_ := fun j t e => by
    by_cases h : i = j
    · subst h
      have hl : i < δ.length := by
        have := (List.getElem?_eq_some_iff.mp e).1
        rwa [List.length_set] at this
      rw [List.getElem?_set_self hl] at e
      cases e
      exact ⟨x, by rw [List.getElem?_set_self (by rw [r.len]; exact hl)], q⟩
    · rw [List.getElem?_set_ne h] at e ⊢
      exact r.at_ j t e
  sep := fun j k p ds es n e1 e2 h => by
    have nn : ∀ {j : Nat} {ds : List D}, (δ.set i s)[j]? = some (.own ds) → i ≠ j := fun {j ds} e z => by
      subst z
      have hl : i < δ.length := by
        have := (List.getElem?_eq_some_iff.mp e).1
        rwa [List.length_set] at this
      rw [List.getElem?_set_self hl] at e
      exact no ds (Option.some.inj e)
    have q1 := nn e1
    have q2 := nn e2
    rw [List.getElem?_set_ne q1] at e1 h
    rw [List.getElem?_set_ne q2] at e2 ⊢
    exact r.sep j k p ds es n e1 e2 h

/-! ### exceptions: made and raised -/
def spX1 (C : Addr) (f : Str) : Sp := fun vs H Q _ => ∃ (a : Addr) (v : V), vs = [.ref a, v] ∧ H a = some (exo a C none) ∧ ∀ dx, H dx = none → dx ≠ a → Q .non (upd (upd H dx (exd dx [(f, v)])) a (exo a C (some dx)))
section
variable {P : Program} {w : World} {K : Fg} {mg : Str → Option Value} {base : Heap} {x qual : Str} {params : Arguments} {body : List Stmt} {scope : Scope} {f C : Addr} {fd : FuncData} {N ps : List Str} {fl : Str}
theorem fn_x1 (F : FunD K x qual params body scope [] [] f fd) (S : FnScope N ps scope) (hl : ps.length = 2) (hN : N.length = 2) (T : OexC K C) (hno : PySem.W.findIn K (.ref C) fl = some none)
    (hb : ∀ (cdv : Value) (A : Around) (outer : List Env) (s : Shared) (H : Hp) (E : XK), PSs (cxOf (L2.CX P w) P w K mg base N qual scope f cdv A outer s H E) body (tOst K fl (tVar 0) (tVar 1))) : FnOk P w K mg base (L2.CX P w) 1 f fd ps (spX1 C fl) := by
  refine F.ok (k := 0) S (fun vs H Q E h => ?_) (fun cdv A outer s H vs Q E hr h => ⟨_, hb cdv A outer s H E, ?_⟩)
  · obtain ⟨a, v, rfl, _⟩ := h
    rw [hl]
    rfl
  · obtain ⟨a, v, rfl, h1, h2⟩ := h
    have e : L2.start N [V.ref a, v] = [some (.ref a), some v] := by
      unfold L2.start
      rw [hN]
      rfl
    rw [e]
    exact ⟨v, rfl, .ref a, rfl, a, C, rfl, T, hno, .inl ⟨h1, fun dx n ne => h2 dx n ne⟩⟩
end
section
variable {X : Cx} {c : Ct} {W : WX} {e a b : Expr} {es : List Expr} {pos p pos' : Pos} {x : Str} {ma mb me : ME} {ta tb te : TE} {mr : MA} {tr : TA} {C fI : Addr} {k : Nat} {fd : FuncData} {ps : List Str} {fl : Str}
def msRaise1 (C : Addr) (fl : Str) (mr : MA) : MS := fun δ k => mr δ (fun ds => match ds with
  | [d] => k.rs (C, [(fl, d)]) δ
  | _ => False) (fun x => k.rs x δ)
theorem ds_raise1 (hc : X.calm = true) (tk : Takes X W) (T : OexC X.K C) (iC : PySem.W.findIn X.K (.ref C) "__init__" = some (some (.ref fI))) (tI : PySem.W.typeIn X.K (.ref fI) = some (.type "function"))
    (F1 : FnOk X.prog X.w X.K X.mg X.base (L2.CX X.prog X.w) k fI fd ps (spX1 C fl)) (hr : Room (k + 1) X.A) (hb : Binds X.K fd ps []) (hg : Gl X x) (hm : X.mg x = some (.ref C)) (ha : DA X c W (e :: es) tr mr)
    (hdb : (x == ("__debug__" : Str)) = false := by decide) (he : starEach (e :: es) X.env = (false, eval e X.env) :: starEach es X.env := by rfl) (hpl : (backTo pos (starEach es X.env)).any (·.1) = false := by rfl) :
    DS X c W (.Raise (some (.Call (.Name x p) (e :: es) [] pos)) none pos') (fun _ σ H => tMkO C (spX1 C fl) [] tr σ H fun cls d H' => W cls d σ H') (msRaise1 C fl mr) := by
  refine ⟨ps_raise hc tk (pmk_oex T iC tI F1 hr hb .nil passL hg hm ha.p hdb he hpl), fun H G σ δ k Y cr rs h en => ?_⟩
  refine ha.w H G σ δ _ _ _ cr rs h (fun vs ds H1 G1 g1 r1 h1 => ?_) (en.xw cr rs)
  split at h1
  · rename_i d
    obtain ⟨v, e1, r2⟩ := r1.one
    subst e1
    refine ⟨(by show 1 ≤ 1000; decide), fun ea hea => ⟨ea, v, rfl, upd_same, fun dx ndx ne => ⟨rfl, dx, [(fl, v)], upd_same, by rw [upd_ne ne, upd_same], ?_, ?_⟩⟩⟩
    · rw [upd_ne ne] at ndx
      exact ndx
    · have ndx1 : H1 dx = none := by
        rw [upd_ne ne] at ndx
        exact ndx
      have g2 : Go none H1 G1 (upd (del (upd (upd (upd H1 ea (exo ea C none)) dx (exd dx [(fl, v)])) ea (exo ea C (some dx))) ea) dx (.xd [(fl, v)])) (upd G1 dx (.xd [(fl, v)])) := {
        keep := fun b o hb _ => by
          have n1 : b ≠ dx := ne_of_none hb ndx1
          have n2 : b ≠ ea := ne_of_none hb hea
          rw [upd_ne n1, del_ne n2, upd_ne n2, upd_ne n1, upd_ne n2]
          exact hb
        grow := fun b o hb => by rw [upd_ne (ne_of_none (g1.sub _ _ hb) ndx1)]; exact hb
        sub := fun b o hb => by
          by_cases n1 : b = dx
          · subst n1
            rw [upd_same] at hb ⊢
            exact hb
          · rw [upd_ne n1] at hb
            have hb1 := g1.sub _ _ hb
            have n2 : b ≠ ea := ne_of_none hb1 hea
            rw [upd_ne n1, del_ne n2, upd_ne n2, upd_ne n1, upd_ne n2]
            exact hb1
        new := fun b o hb => by
          by_cases n1 : b = dx
          · subst n1
            exact .inr ndx1
          · rw [upd_ne n1] at hb
            exact .inl hb
        deal := .no }
      have g3 := g1.trans (g2.lift g1.deal)
      refine en.rs C [(fl, d)] (some dx) σ δ _ _ (cr.step g3) (rs.step cr g3) g3.grow (.inr ⟨dx, [(fl, v)], rfl, upd_same, .cons (r2.mono g2.grow) .nil⟩) h1
  · exact h1.elim

/-! ### try: .. except C as e: .. -/
def msTry (K : Fg) (i : Nat) (C : Addr) (cv : Value) (mb : MS) (ms : Addr → Option Addr → MS) : MS := fun δ k => mb δ { k with rs := fun xd δ' =>
  (xd.1 = C ∧ ∀ (a : Addr) (d : Option Addr), ms a d (δ'.set i (.exn a C d xd.2)) { k with nx := fun δ2 => k.nx (δ2.set i .un), bk := fun δ2 => k.bk (δ2.set i .un), ct := fun δ2 => k.ct (δ2.set i .un), rs := fun _ _ => False }) ∨
    (PySem.W.exmOne K (.ref xd.1) cv = some false ∧ k.rs xd δ') }
open Classical in
noncomputable def tsOnly (C : Addr) (ts : Addr → Option Addr → TS) : Addr → Value → Option Addr → TS := fun a cls d => if cls = .ref C then ts a d else tNever
theorem ds_try (i : Nat) {n : Str} {np pos2 : Pos} {body suite : List Stmt} {b0 : Stmt} {tb : WX → TS} {ts : Addr → Option Addr → TS} {mb : MS} {ms : Addr → Option Addr → MS} {cv : Value}
    (hs : X.stack = X.env :: X.outer) (hf : X.env.frame = some X.env.locals) (hN : X.N.Nodup) (hi : X.N[i]? = some n) (hln : X.env.kindOf n = some .local) (hc : Names X x cv) (tk : Takes X W)
    (hC : PySem.W.exmOne X.K (.ref C) cv = some true)
    (hb : ∀ (W2 : WX) (pn : List (Addr × Obj)) (xe : Value → Shared → Prop), Takes (X.tr pn xe) W2 → DSs (X.tr pn xe) c W2 body (tb W2) mb)
    (hsu : ∀ (a : Addr) (oe : Obj) (d : Option Addr) (pn : List (Addr × Obj)), Zc (.ref C) d oe → (∃ vs, oe.data = .fields vs) → DSs (X.suite a ((a, oe) :: pn)) c W0 (b0 :: suite) (ts a d) (ms a d)) :
    DS X c W (.Try body [.ExceptHandler (some (.Name x np)) (some n) (b0 :: suite) pos'] [] [] pos) (fun Y σ H => tb (wAs X.K cv i (tsOnly C ts) W Y) Y σ H) (msTry X.K i C cv mb ms) := by
  refine ⟨ps_try_as hs hf hN hi hln hc tk (fun W2 pn xe t _ => (hb W2 pn xe t).p) (fun a oe cls d pn hz hd => ?_), fun H G σ δ k Y cr rs h en => ?_⟩
  · by_cases e : cls = .ref C
    · subst e
      have q : tsOnly C ts a (.ref C) d = ts a d := if_pos rfl
      rw [q]
      exact (hsu a oe d pn hz hd).p
    · have q : tsOnly C ts a cls d = tNever := if_neg e
      rw [q]
      exact pss_never
  · have wb : ∀ W2 : WX, WS X.K c W2 (tb W2) mb := fun W2 => (hb W2 X.pn (fun _ _ => True) (fun _ _ _ => True.intro)).w
    refine wb _ H G σ δ _ Y cr rs h ⟨en.nx, en.rt, en.bk, en.ct, fun C' fs d σ' δ' H' G' a1 a2 a3 a4 a5 => ?_⟩
    rcases a5 with ⟨e1, q⟩ | ⟨e1, q⟩
    · have e1 : C' = C := e1
      subst e1
      refine ⟨true, hC, fun _ a na => ?_, (fun z => nomatch z)⟩
      have q2 : tsOnly C' ts a (.ref C') d = ts a d := if_pos rfl
      rw [q2]
      have w2 : WS X.K c W0 (ts a d) (ms a d) := (hsu a ⟨.ref C', d, .fields #[], #[]⟩ d [] ⟨rfl, rfl⟩ ⟨_, rfl⟩).w
      refine w2 H' G' _ _ _ _ a1 (a2.put i (x := some (.ref a)) (s := .exn a C' d fs) ⟨rfl, a4⟩ fun _ z => nomatch z) (q a d) ⟨?_, ?_, ?_, ?_, fun _ _ _ _ _ _ _ _ _ _ _ z => z.elim⟩
      · exact fun σ2 δ2 H2 G2 b1 b2 b3 b4 => en.nx _ _ H2 G2 b1 (b2.forget i none) (a3.trans b3) b4
      · exact fun v d2 H2 G2 b1 b2 b3 b4 => en.rt v d2 H2 G2 b1 b2 (a3.trans b3) b4
      · exact fun σ2 δ2 H2 G2 b1 b2 b3 b4 => en.bk _ _ H2 G2 b1 (b2.forget i none) (a3.trans b3) b4
      · exact fun σ2 δ2 H2 G2 b1 b2 b3 b4 => en.ct _ _ H2 G2 b1 (b2.forget i none) (a3.trans b3) b4
    · exact ⟨false, e1, (fun z => nomatch z), fun _ => en.rs C' fs d σ' δ' H' G' a1 a2 a3 a4 q⟩
/-- e.f of the caught exception -/
def mExf (a : Addr) (d : Option Addr) (i : Nat) (n : Str) : ME := fun δ F _ => match δ[i]? with
  | some (.exn a' _ d' fs) => a' = a ∧ d' = d ∧ ∃ v, fs.lookup n = some v ∧ F v
  | _ => False
theorem de_exf (i : Nat) {xa : Addr} {oe : Obj} {d : Option Addr} {pn : List (Addr × Obj)} {n : Str} (T : XfC X.K C) (hno : PySem.W.findIn X.K (.ref C) n = some none) (hz : Zc (.ref C) d oe) (hf : ∃ vs, oe.data = .fields vs)
    (he : PE (X.suite xa ((xa, oe) :: pn)) e (tVar i)) (hb : attributeBase e n X.env (eval e X.env) = eval e X.env := by rfl) :
    DE (X.suite xa ((xa, oe) :: pn)) c W (.Attribute e n pos) (tXf xa (.ref C) d C n (tVar i)) (mExf xa d i n) := by
  refine ⟨pe_xf T hno hz hf he hb, fun H G σ δ F Y Q cr rs h q _ => ?_⟩
  unfold mExf at h
  split at h
  · rename_i a' C' d' fs e1
    obtain ⟨rfl, rfl, v, hl, f⟩ := h
    obtain ⟨y, h1, h2, h3⟩ := rs.at_ _ _ e1
    subst h2
    rcases h3 with ⟨rfl, _⟩ | ⟨dd, fv, rfl, hd, r⟩
    · cases hl
    · obtain ⟨u, hu, ru⟩ := r.look hl
      exact ⟨_, h1, rfl, rfl, dd, fv, u, rfl, cr.sub _ _ hd, hu, q u v H G cr.rfl' ru f⟩
  · exact h.elim
/-- isinstance(e, T) of the caught exception -/
def rIsX (K : Fg) (C a : Addr) (d : Option Addr) : List V → Hp → VK → Prop := fun xs H Q => ∃ (cc : V) (cv : Value) (b : Bool), xs = [.ref a, cc] ∧ ClsV cc cv ∧ PySem.W.kitOne K (.ref C) cv = some b ∧ (d = none ∨ ∃ dd fs, d = some dd ∧ H dd = some (.xd fs)) ∧ Q (.bl b) H
theorem call_isX {xa : Addr} {oe : Obj} {d : Option Addr} {pn : List (Addr × Obj)} (T : ExcC X.K C) (hz : Zc (.ref C) d oe) (hf : ∃ vs, oe.data = .fields vs) : CallR (X.suite xa ((xa, oe) :: pn)) (.builtin "isinstance") (rIsX X.K C xa d) := by
  intro pins s σ H xs us Q I r h
  obtain ⟨cc, cv, b, rfl, hcv, e, hd, q⟩ := h
  cases r with
  | cons rx rr =>
    cases rr with
    | cons rt rr =>
      cases rr
      cases rx
      have ec := hcv.eq rt
      subst ec
      obtain ⟨hget, _⟩ := I.pin (xa, oe) (List.mem_append.mpr (.inl List.mem_cons_self))
      obtain ⟨vs, hv⟩ := hf
      have hcls : (PySem.W.clsIn X.K C).isSome = true := by
        have hd' := T.hd
        unfold PySem.W.hasDictIn at hd'
        cases z : PySem.W.clsIn X.K C with
        | none => rw [z] at hd'; cases hd'
        | some cd => rfl
      rcases hd with hd | ⟨dd, fs, hd, hx⟩
      · have J : PySem.W.InstAt s.heap xa oe C none := ⟨hget, hz.1, by unfold PySem.W.notCls; rw [hv] <;> rfl, by rw [hz.2, hd]; exact trivial⟩
        exact PySem.W.kia_one (PySem.W.kitx_exc (od := none) hcls T.hg T.hk T.hs T.ha T.hn T.ht T.hm) I.kIn J e (fun z => nomatch z) fun tk => ⟨.bl b, H, I.kept (t' := tk) fun _ _ z => z, rfl, q⟩
      · have hx' : ObjOk X.prog X.w H s.heap dd (.xd fs) := I.hok dd _ hx
        obtain ⟨mA, ⟨od, es, ep, ho, _⟩, _⟩ := hx'
        have J : PySem.W.InstAt s.heap xa oe C (some od) := ⟨hget, hz.1, by unfold PySem.W.notCls; rw [hv] <;> rfl, by rw [hz.2, hd]; exact ho⟩
        exact PySem.W.kia_one (PySem.W.kitx_exc (od := some od) hcls T.hg T.hk T.hs T.ha T.hn T.ht T.hm) I.kIn J e (fun z => nomatch z) fun tk => ⟨.bl b, H, I.kept (t' := tk) fun _ _ z => z, rfl, q⟩
def mIsX (K : Fg) (C a : Addr) (d : Option Addr) (i : Nat) (mb : ME) : ME := fun δ F X => (match δ[i]? with
  | some (.exn a' _ d' _) => a' = a ∧ d' = d
  | _ => False) ∧ mb δ (fun e => match e with
  | .fx cc => ∃ cv b, ClsV cc cv ∧ PySem.W.kitOne K (.ref C) cv = some b ∧ F (.bl b)
  | _ => False) X
theorem de_isX (i : Nat) {xa : Addr} {oe : Obj} {d : Option Addr} {pn : List (Addr × Obj)} {z : Str} {zp : Pos} (T : ExcC X.K C) (hz : Zc (.ref C) d oe) (hf : ∃ vs, oe.data = .fields vs) (hg : Gl X "isinstance") (hm : X.mg "isinstance" = none)
    (he : PE (X.suite xa ((xa, oe) :: pn)) (.Name z zp) (tVar i)) (hb : DE (X.suite xa ((xa, oe) :: pn)) c W b tb mb)
    (h2 : starEach [b] X.env = (false, eval b X.env) :: starEach [] X.env := by rfl) (h1 : starEach [.Name z zp, b] X.env = (false, eval (.Name z zp) X.env) :: starEach [b] X.env := by rfl) (hpl : (backTo pos (starEach [b] X.env)).any (·.1) = false := by rfl) :
    DE (X.suite xa ((xa, oe) :: pn)) c W (.Call (.Name "isinstance" p) [.Name z zp, b] [] pos) (tCB (rIsX X.K C xa d) (tCons (tVar i) (tCons tb tNil))) (mIsX X.K C xa d i mb) := by
  refine ⟨pe_callB (X := X.suite xa ((xa, oe) :: pn)) (call_isX T hz hf) hg hm (by decide +kernel) (pa_cons he (pa_cons hb.p pa_nil h2) h1) (by decide) (by decide) h1 hpl, fun H G σ δ F Y Q cr rs h q x => ?_⟩
  obtain ⟨hi, h⟩ := h
  split at hi
  · rename_i a' C' d' fs e1
    obtain ⟨rfl, rfl⟩ := hi
    obtain ⟨y, h1, h2, h3⟩ := rs.at_ _ _ e1
    subst h2
    refine ⟨_, h1, ?_⟩
    refine hb.w H G σ δ _ _ _ cr rs h (fun v e H' G' g r f => ?_) x
    split at f
    · obtain ⟨cv, b, c1, c2, f⟩ := f
      refine ⟨v, cv, b, rfl, r.fx_of ▸ c1, c2, ?_, q _ _ H' G' g (.bl _) f⟩
      rcases h3 with ⟨_, hd⟩ | ⟨dd, fv, hd, hx, _⟩
      · exact .inl hd
      · exact .inr ⟨dd, fv, hd, g.sub _ _ (g.grow _ _ hx)⟩
    · exact f.elim
  · exact hi.elim
end
end DL

set_option Elab.async false
set_option linter.all false
set_option maxRecDepth 100000
set_option maxHeartbeats 4000000
namespace DL
open PySem L2 PySem.Spec PyProof.Rows

/-! ### fields -/
section
variable {X : Cx} {c : Ct} {W : WX} {o e a b : Expr} {es : List Expr} {pos p pos' : Pos} {x f : Str} {ma mb me : ME} {ta tb te : TE} {mr : MA} {tr : TA} {C fI : Addr} {k n : Nat} {fd : FuncData} {ps : List Str}
def mFld (K : Fg) (f : Str) (ma : ME) : ME := fun δ F X => ma δ (fun d => match d with
  | .obj C fs => Cls K C ∧ NoAttr K C f ∧ ∃ v, fs.lookup f = some v ∧ F v
  | _ => False) X
theorem de_fld (ha : DE X c W e ta ma) (hb : attributeBase e f X.env (eval e X.env) = eval e X.env := by rfl) : DE X c W (.Attribute e f pos) (tFld X.K ta f) (mFld X.K f ma) := by
  refine ⟨pe_fld ha.p hb, fun H G σ δ F Y Q cr rs h q x => ?_⟩
  refine ha.w H G σ δ _ _ _ cr rs h (fun v d H1 G1 g1 r1 h1 => ?_) x
  split at h1
  · obtain ⟨c1, c2, u, hl, f⟩ := h1
    obtain ⟨a, dx, fs, e1, g2, r2⟩ := r1.obj_of
    obtain ⟨y, hy, ry⟩ := r2.look hl
    exact ⟨a, _, dx, fs, y, e1, g1.sub _ _ g2, c1, c2, hy, q y u H1 G1 g1 ry f⟩
  · exact h1.elim
def putD (f : Str) (d : D) : List (Str × D) → List (Str × D)
  | [] => [(f, d)]
  | (g, x) :: r => if g = f then (g, d) :: r else (g, x) :: putD f d r
theorem RepF.put {K : Fg} {G : Hp} {v : V} {d : D} (q : Rep K G v d) : ∀ {fs : List (Str × V)} {ds : List (Str × D)}, RepF K G fs ds → RepF K G (putF f v fs) (putD f d ds)
  | _, _, .nil => .cons q .nil
  | _, _, .cons (f := g) a r => by
    show RepF K G (if g = f then _ else _) (if g = f then _ else _)
    split
    · exact .cons q r
    · exact .cons a (RepF.put q r)
/-- self.f = e, in an __init__ (self in the first slot) -/
def noSelf : List Sl → Bool
  | [] => true
  | .self _ _ :: _ => false
  | .un :: r => noSelf r
  | .dat _ :: r => noSelf r
  | .own _ :: r => noSelf r
  | .deal :: r => noSelf r
  | .exn _ _ _ _ :: r => noSelf r
theorem noSelf_at : ∀ {δ : List Sl} {i : Nat} {C : Addr} {fs : List (Str × D)}, noSelf δ = true → δ[i]? = some (Sl.self C fs) → False
  | [], _, _, _, _, e => by simp at e
  | s :: r, 0, _, _, h, e => by
    simp at e
    subst e
    cases h
  | s :: r, i + 1, _, _, h, e => by
    refine noSelf_at (δ := r) (i := i) ?_ (by simpa using e)
    cases s <;> first | exact h | cases h
def msSelf (K : Fg) (f : Str) (me : ME) : MS := fun δ k => me δ (fun d => match δ with
  | .self C fs :: rest => Cls K C ∧ NoAttr K C f ∧ fs.length < 800 ∧ noSelf rest = true ∧ k.nx (.self C (putD f d fs) :: rest)
  | _ => False) (fun x => k.rs x δ)
theorem RepF.length {K : Fg} {G : Hp} : ∀ {fs : List (Str × V)} {ds : List (Str × D)}, RepF K G fs ds → fs.length = ds.length
  | _, _, .nil => rfl
  | _, _, .cons _ r => congrArg Nat.succ (RepF.length r)
theorem ds_self {z : Str} {zp : Pos} (hz : PE X (.Name z zp) (tVar 0)) (he : DE X c W e te me) (hs : swapsWith e (some (.Attribute (.Name z zp) f pos')) pos.line X.env = pure false := by rfl) :
    DS X c W (.Assign [.Attribute (.Name z zp) f pos'] e pos) (sFld X.K (tVar 0) te f) (msSelf X.K f me) := by
  refine ⟨ps_fld hz he.p hs, fun H G σ δ k Y cr rs h en => ?_⟩
  refine he.w H G σ δ _ _ _ cr rs h (fun v d H1 G1 g1 r1 h1 => ?_) (en.xw cr rs)
  split at h1
  · rename_i C fs rest
    obtain ⟨c1, c2, few, nos, h1⟩ := h1
    have e1 : (Sl.self C fs :: rest)[0]? = some (Sl.self C fs) := rfl
    have rs1 := rs.step cr g1
    have cr1 := cr.step g1
    obtain ⟨y, h2, xa, dx, fv, h3, h4, h5, h6, h7, r⟩ := rs1.at_ _ _ e1
    subst h3
    have hl : fv.length < 800 := by rw [r.length]; exact few
    have ne : ∀ {b : Addr} {u : HO}, G1 b = some u → b ≠ xa := fun {b u} q => ne_of_none q h6
    refine ⟨_, h2, xa, C, dx, fv, rfl, h5, c1, c2, by omega, ?_⟩
    have cr2 : Cr c (upd H1 xa (.ins C dx (putF f v fv))) G1 := {
      keep := fun b u hb n m => by
        have nb : b ≠ xa := fun q => m (by rw [q]; exact h4)
        rw [upd_ne nb]
        exact cr1.keep b u hb n m
      grow := cr1.grow
      sub := fun b u hb => by rw [upd_ne (ne hb)]; exact cr1.sub _ _ hb
      new := cr1.new
      dlok := fun p' l' e' => by
        obtain ⟨⟨ns, m, q1, q2, q3⟩, g2, g3⟩ := cr1.dlok p' l' e'
        exact ⟨⟨ns, m, by rw [upd_ne (ne_of q1 h5 fun z => nomatch z)]; exact q1, by rw [upd_ne (ne_of q2 h5 fun z => nomatch z)]; exact q2, q3⟩, g2, g3⟩
      he := cr1.he
      sfo := fun b hb => by
        rw [h4] at hb
        cases hb
        exact ⟨C, dx, _, upd_same⟩ }
    refine en.nx σ _ _ G1 cr2 ?_ g1.grow h1
    have eσ : σ = σ.set 0 (some (.ref xa)) := by
      cases σ with
      | nil => cases h2
      | cons s0 sr =>
        have : s0 = some (V.ref xa) := Option.some.inj h2
        rw [this]
        rfl
    have rs2 : RS X.K c (upd H1 xa (.ins C dx (putF f v fv))) G1 (σ.set 0 (some (.ref xa))) (((Sl.self C fs :: rest).set 0 .un).set 0 (.self C (putD f d fs))) := by
      have base : RS X.K c (upd H1 xa (.ins C dx (putF f v fv))) G1 σ ((Sl.self C fs :: rest).set 0 .un) := by
        refine ⟨by rw [List.length_set]; exact rs1.len, fun i s hi => ?_, fun i j p ds es n e2 e3 h => ?_⟩
        · by_cases h0 : 0 = i
          · subst h0
            have hl0 : 0 < (Sl.self C fs :: rest).length := Nat.succ_pos _
            rw [List.getElem?_set_self hl0] at hi
            cases hi
            exact ⟨_, h2, trivial⟩
          · rw [List.getElem?_set_ne h0] at hi
            obtain ⟨y, q1, q2⟩ := rs1.at_ i s hi
            refine ⟨y, q1, ?_⟩
            cases s with
            | un => trivial
            | dat d' => exact q2
            | own ds =>
              obtain ⟨p', xs, q3, q4, q5, q6, q7⟩ := q2
              exact ⟨p', xs, q3, by rw [upd_ne (ne_of q4 h5 fun z => nomatch z)]; exact q4, q5, q6, q7⟩
            | deal => exact q2
            | exn a' C' d' fs' => exact q2
            | self C' fs' =>
              exfalso
              cases i with
              | zero => exact h0 rfl
              | succ i => exact noSelf_at (δ := rest) (i := i) nos (by simpa using hi)
        · have n0 : ∀ {j : Nat} {ds : List D}, ((Sl.self C fs :: rest).set 0 .un)[j]? = some (.own ds) → 0 ≠ j := fun {j ds} e z => by
            subst z
            have hl0 : 0 < (Sl.self C fs :: rest).length := Nat.succ_pos _
            rw [List.getElem?_set_self hl0] at e
            cases e
          have q1 := n0 e2
          have q2 := n0 e3
          rw [List.getElem?_set_ne q1] at e2
          rw [List.getElem?_set_ne q2] at e3
          exact rs1.sep i j p ds es n e2 e3 h
      refine base.put 0 (x := some (.ref xa)) (s := .self C (putD f d fs)) ⟨xa, dx, _, rfl, h4, upd_same, h6, ?_, RepF.put r1 r⟩ fun _ z => nomatch z
      have := length_putF f v fv
      omega
    rw [List.set_set] at rs2
    rw [eσ]
    exact rs2
  · exact h1.elim
end
end DL

set_option Elab.async false
set_option linter.all false
set_option maxRecDepth 100000
set_option maxHeartbeats 4000000
namespace DL
open PySem L2 PySem.Spec PyProof.Rows

/-! ### __init__ -/
abbrev FI := List D → (List (Str × D) → Prop) → XC → Prop
/-- the instance at x is being made: all else stays -/
structure GoS (x : Addr) (H G H' G' : Hp) : Prop where
  keep : ∀ a o, H a = some o → a ≠ x → H' a = some o
  grow : Same G G'
  sub : Same G' H'
  new : ∀ a o, G' a = some o → G a = some o ∨ H a = none
def spI (K : Fg) (n : Nat) (C : Addr) (ff : FI) : Sp := fun vs H Q E => ∃ (G : Hp) (ds : List D) (x dx : Addr) (vs' : List V) (F : List (Str × D) → Prop) (X : XC), vs = .ref x :: vs' ∧ ds.length = n ∧ H x = some (.ins C dx []) ∧ G x = none ∧ Same G H ∧ RepL K G vs' ds ∧ ff ds F X ∧
  (∀ fv fs H' G' dx', GoS x H G H' G' → H' x = some (.ins C dx' fv) → G' x = none → RepF K G' fv fs → F fs → Q .non H') ∧ (∀ C fs d H' G', GoS x H G H' G' → ExcIs K G' d fs → X (C, fs) → E (.ref C) d H')
def selfIs (C : Addr) (G : List (Str × D) → Prop) (δ : List Sl) : Prop := match δ with
  | .self C' fs :: _ => C' = C ∧ G fs
  | _ => False
section
variable {P : Program} {w : World} {K : Fg} {mg : Str → Option Value} {base : Heap} {x qual : Str} {params : Arguments} {body : List Stmt} {scope : Scope} {dvs : List V} {kws : List (Str × V)} {f C : Addr} {fd : FuncData} {N ps : List Str} {n k : Nat} {ff : FI}
theorem fn_okI {t : TS} {ms : MS} (F : FunD K x qual params body scope dvs kws f fd) (S : FnScope N ps scope) (hl : ps.length = n + 1) (hN : ps.length ≤ N.length)
    (hb : ∀ (c : Ct) (cdv : Value) (A : Around) (outer : List Env) (s : Shared) (H : Hp) (E : XK), Room k (A.deeper (envOfC qual scope s.heap.objs.size f cdv)) → DSs (cxOf (L2.CX P w) P w K mg base N qual scope f cdv A outer s H E) c (WF E) body t ms)
    (hm : ∀ ds G X, ds.length = n → ff ds G X → ms (Sl.self C [] :: (ds.map Sl.dat ++ List.replicate (N.length - (n + 1)) .un)) { nx := selfIs C G, rt := fun _ => False, rs := fun x _ => X x }) : FnOk P w K mg base (L2.CX P w) (k + 1) f fd ps (spI K n C ff) := by
  refine F.ok S (fun vs H Q E h => ?_) (fun cdv A outer s H vs Q E hr h => ?_)
  · obtain ⟨G, ds, y, dx, vs', F0, X0, rfl, hn, _, _, _, r, _⟩ := h
    rw [List.length_cons, r.length, hl]
    omega
  · obtain ⟨G, ds, y, dx, vs', F0, X0, rfl, hn, h1, h2, sm, r, hf, hq, hx⟩ := h
    obtain ⟨p, w'⟩ := hb ⟨none, some y, H, G⟩ cdv A outer s H E hr
    refine ⟨t, p, ?_⟩
    have cr : Cr ⟨none, some y, H, G⟩ H G := ⟨fun _ _ q _ _ => q, Same.refl _, sm, fun _ _ q => .inl q, .no, (fun _ _ e => nomatch e), fun a e => ⟨C, dx, [], (Option.some.inj (show some y = some a from e)) ▸ h1⟩⟩
    have lv := r.length
    have eN : L2.start N (V.ref y :: vs') = some (V.ref y) :: (vs'.map some ++ List.replicate (N.length - (n + 1)) none) := by
      unfold L2.start
      rw [List.length_cons, lv, hn]
      rfl
    have rs : RS K ⟨none, some y, H, G⟩ H G (L2.start N (V.ref y :: vs')) (Sl.self C [] :: (ds.map Sl.dat ++ List.replicate (N.length - (n + 1)) .un)) := by
      rw [eN]
      have at_ : ∀ (i : Nat) (s : Sl), (Sl.self C [] :: (ds.map Sl.dat ++ List.replicate (N.length - (n + 1)) .un))[i]? = some s → ∃ z, (some (V.ref y) :: (vs'.map some ++ List.replicate (N.length - (n + 1)) none))[i]? = some z ∧ SlotOk K ⟨none, some y, H, G⟩ H G z s ∧ ∀ es, s ≠ .own es := by
        intro i s e
        cases i with
        | zero =>
          cases e
          exact ⟨_, rfl, ⟨y, dx, [], rfl, rfl, h1, h2, Nat.zero_le _, .nil⟩, fun _ z => nomatch z⟩
        | succ i => exact dat_at _ i s r e
      refine ⟨by simp; omega, fun i s e => let ⟨z, a, b, _⟩ := at_ i s e; ⟨z, a, b⟩, fun i j p ds es ne h1 _ _ => ?_⟩
      obtain ⟨_, _, _, z⟩ := at_ i _ h1
      exact absurd rfl (z ds)
    have gos : ∀ {H' G' : Hp}, Cr ⟨none, some y, H, G⟩ H' G' → GoS y H G H' G' := fun {H' G'} a => ⟨fun b o q ne => a.keep b o q .non fun z => ne (Option.some.inj z).symm, a.grow, a.sub, a.new⟩
    refine w' H G _ _ _ _ cr rs (hm ds F0 X0 hn hf) ⟨fun σ δ H' G' a b z q => ?_, fun _ _ _ _ _ _ _ q => q.elim, fun _ _ _ _ _ _ _ q => q.elim, fun _ _ _ _ _ _ _ q => q.elim, fun C' fs d σ δ H' G' a b z e q => hx C' fs d H' G' (gos a) e q⟩
    have q : selfIs C F0 δ := q
    cases δ with
    | nil => exact q.elim
    | cons sl rest =>
      cases sl with
      | self C' fs =>
        obtain ⟨rfl, q3⟩ := (show C' = C ∧ F0 fs from q)
        obtain ⟨u, u1, a', dx', fv, u2, u3, u4, u5, u6, u7⟩ := b.at_ 0 _ rfl
        have u3 : some y = some a' := u3
        cases u3
        exact hq fv fs H' G' dx' (gos a) u4 u5 u7 q3
      | _ => exact q.elim
end
section
variable {X : Cx} {c : Ct} {W : WX} {e a b : Expr} {es : List Expr} {pos p pos' : Pos} {x f : Str} {ma mb me : ME} {ta tb te : TE} {mr : MA} {tr : TA} {C fI : Addr} {k n : Nat} {fd : FuncData} {ps : List Str} {ds : List Value} {dvs : List V} {dd : List D} {ff : FI}
def mMake (C : Addr) (ff : FI) (dd : List D) (n : Nat) (mr : MA) : ME := fun δ F X => mr δ (fun ds => (ds ++ dd).length = n ∧ ff (ds ++ dd) (fun fs => F (.obj C fs)) X) X
theorem de_make (M : Mk X.K C fI) (F : FnOk X.prog X.w X.K X.mg X.base (L2.CX X.prog X.w) k fI fd ps (spI X.K n C ff)) (hr : Room (k + 1) X.A) (hg : Gl X x) (hm : X.mg x = some (.ref C)) (hb : Binds X.K fd ps ds) (hd : Vals dvs ds) (hdd : ∀ G, RepL X.K G dvs dd) (tk : Takes X W) (hW : ∀ cls d σ σ' H, W cls d σ H → W cls d σ' H)
    (ha : DA X c W (e :: es) tr mr) (hdb : (x == ("__debug__" : Str)) = false := by decide) (he : starEach (e :: es) X.env = (false, eval e X.env) :: starEach es X.env := by rfl) (hpl : (backTo pos (starEach es X.env)).any (·.1) = false := by rfl) :
    DE X c W (.Call (.Name x p) (e :: es) [] pos) (tMake C (spI X.K n C ff) dvs (fun cls d H => ∀ σ, W cls d σ H) tr) (mMake C ff dd n mr) := by
  refine ⟨pe_make M F hr hg hm hb hd (passes_call tk fun cls d σ H h => h σ) ha.p hdb he hpl, fun H G σ δ F Y Q cr rs h q xx => ?_⟩
  refine ha.w H G σ δ _ _ _ cr rs h (fun vs ds H1 G1 g1 r1 h1 => ?_) xx
  intro y dx ny ndx ne
  have hx : ∀ {b : Addr} {o : HO}, H1 b = some o → upd (upd H1 dx (.own y)) y (.ins C dx []) b = some o := fun {b o} hb => by
    rw [upd_ne (ne_of_none hb ny), upd_ne (ne_of_none hb ndx)]
    exact hb
  have nG : G1 y = none := by
    cases z : G1 y with
    | none => rfl
    | some o =>
      rw [g1.sub _ _ z] at ny
      cases ny
  have back : ∀ {b : Addr}, upd (upd H1 dx (.own y)) y (.ins C dx []) b = none → H1 b = none := fun {b} hb => by
    cases z : H1 b with
    | none => rfl
    | some o =>
      rw [hx z] at hb
      cases hb
  refine ⟨G1, ds ++ dd, y, dx, vs ++ dvs, _, _, rfl, h1.1, upd_same, nG, fun b o hb => hx (g1.sub _ _ hb), r1.append (hdd G1), h1.2, ?_, ?_⟩
  · intro fv fs H2 G2 dx' gs hy ny2 rf f
    have g2 : Go none H1 G1 H2 (upd G2 y (.ins C dx' fv)) := {
      keep := fun b o hb _ => gs.keep b o (hx hb) (ne_of_none hb ny)
      grow := fun b o hb => by rw [upd_ne (ne_of_none (g1.sub _ _ hb) ny)]; exact gs.grow _ _ hb
      sub := fun b o hb => by
        by_cases q1 : b = y
        · subst q1
          rw [upd_same] at hb
          cases hb
          exact hy
        · rw [upd_ne q1] at hb
          exact gs.sub _ _ hb
      new := fun b o hb => by
        by_cases q1 : b = y
        · subst q1
          exact .inr ny
        · rw [upd_ne q1] at hb
          rcases gs.new _ _ hb with z | z
          · exact .inl z
          · exact .inr (back z)
      deal := .no }
    refine ⟨rfl, q (.ref y) (.obj C fs) H2 _ (g1.trans (g2.lift g1.deal)) (.obj upd_same (rf.mono fun b o hb => ?_)) f⟩
    rw [upd_ne (ne_of_none hb ny2)]
    exact hb
  · intro C' fs d H2 G2 gs ex f σ'
    have g2 : Go none H1 G1 H2 (fun b => if b = y then none else G2 b) := {
      keep := fun b o hb _ => gs.keep b o (hx hb) (ne_of_none hb ny)
      grow := fun b o hb => by
        show (if b = y then none else G2 b) = some o
        rw [if_neg (ne_of_none (g1.sub _ _ hb) ny)]
        exact gs.grow _ _ hb
      sub := fun b o hb => by
        have hb : (if b = y then none else G2 b) = some o := hb
        split at hb
        · cases hb
        · exact gs.sub _ _ hb
      new := fun b o hb => by
        have hb : (if b = y then none else G2 b) = some o := hb
        split at hb
        · cases hb
        · rcases gs.new _ _ hb with z | z
          · exact .inl z
          · exact .inr (back z)
      deal := .no }
    have g2' : Go none H1 G1 H2 G2 ∨ True := .inr trivial
    refine hW _ _ σ σ' _ (xx C' fs d H2 (fun b => if b = y ∧ False then none else G2 b) ?_ ?_ f)
    · have eG : (fun b => if b = y ∧ False then none else G2 b) = G2 := by
        funext b
        simp
      rw [eG]
      refine g1.trans (Go.lift g1.deal ⟨fun b o hb _ => gs.keep b o (hx hb) (ne_of_none hb ny), gs.grow, gs.sub, fun b o hb => ?_, .no⟩)
      rcases gs.new _ _ hb with z | z
      · exact .inl z
      · exact .inr (back z)
    · have eG : (fun b => if b = y ∧ False then none else G2 b) = G2 := by
        funext b
        simp
      rw [eG]
      exact ex
end

/-! ### one's own list -/
section
variable {X : Cx} {c : Ct} {W : WX} {e a b : Expr} {es : List Expr} {pos p pos' : Pos} {x f : Str} {ma mb me : ME} {ta tb te : TE} {mr : MA} {tr : TA} {K : Fg}
/-- a new list, not yet known to any other -/
def WO (K : Fg) (c : Ct) (W : WX) (t : TE) (m : MA) : Prop := ∀ H G σ δ (F : List D → Prop) (X : XC) (Q : VK), Cr c H G → RS K c H G σ δ → m δ F X →
  (∀ p xs ds H' G', Go c.dl H G H' G' → H' p = some (.lst xs) → G' p = none → H p = none → RepL K G' xs ds → F ds → Q (.ref p) H') → XW K c H G σ X W → t σ H Q
structure OE (X : Cx) (c : Ct) (W : WX) (e : Expr) (t : TE) (m : MA) : Prop where
  p : PE X e t
  w : WO X.K c W t m
theorem nfree {H G H' G' : Hp} {dl : Dl} {p : Addr} (g : Go dl H G H' G') (h : H' p = none) : G' p = none := by
  cases z : G' p with
  | none => rfl
  | some o =>
    rw [g.sub _ _ z] at h
    cases h
/-- a fresh cell ahead was fresh before -/
theorem Go.back {dl : Dl} {H G H' G' : Hp} {p : Addr} (g : Go dl H G H' G') (d : DlOk dl H G) (h : H' p = none) : H p = none := by
  cases z : H p with
  | none => rfl
  | some o =>
    by_cases nd : NotDl dl p
    · rw [g.keep _ _ z nd] at h
      cases h
    · exfalso
      apply nd
      intro p' l' e
      obtain ⟨⟨_, _, q1, q2, _⟩, _⟩ := g.deal p' l' e
      exact ⟨fun y => (by rw [y, q1] at h; cases h), fun y => (by rw [y, q2] at h; cases h)⟩
theorem oe_lst (h : DA X c W es tr mr) : OE X c W (.List es pos) (tLst tr) (fun δ F X => mr δ (fun ds => ds.length ≤ sizeLine ∧ F ds) X) := by
  refine ⟨pe_lst h.p, fun H G σ δ F Y Q cr rs hm q x => ?_⟩
  refine h.w H G σ δ _ _ _ cr rs hm (fun vs ds H1 G1 g1 r1 h1 => ⟨r1.len_le h1.1, fun p hp => ?_⟩) x
  exact q p vs ds _ G1 (g1.trans ((Go.mine g1.sub hp).lift g1.deal)) upd_same (nfree g1 hp) (g1.back cr.dlok hp) r1 h1.2
def msOwn (i : Nat) (mo : MA) : MS := fun δ k => mo δ (fun ds => k.nx (δ.set i (.own ds))) (fun x => k.rs x δ)
theorem RS.own {H G : Hp} {σ : L2.St} {δ : List Sl} (r : RS K c H G σ δ) {p : Addr} {xs : List V} {ds : List D} (i : Nat) (h1 : H p = some (.lst xs)) (h2 : G p = none) (h3 : c.He p = none) (rl : RepL K G xs ds)
    (fr : ∀ (j : Nat) (es : List D), δ[j]? = some (.own es) → σ[j]? ≠ some (some (.ref p))) : RS K c H G (σ.set i (some (.ref p))) (δ.set i (.own ds)) where
  len := by rw [List.length_set, List.length_set]; exact r.len
  at_ := fun j t e => by
    by_cases h : i = j
    · subst h
      have hl : i < δ.length := by
        have := (List.getElem?_eq_some_iff.mp e).1
        rwa [List.length_set] at this
      rw [List.getElem?_set_self hl] at e
      cases e
      exact ⟨_, by rw [List.getElem?_set_self (by rw [r.len]; exact hl)], p, xs, rfl, h1, h2, h3, rl⟩
    · rw [List.getElem?_set_ne h] at e ⊢
      exact r.at_ j t e
  sep := fun j k q ds' es n e1 e2 h => by
    by_cases hj : i = j
    · subst hj
      have hl : i < σ.length := by
        have := (List.getElem?_eq_some_iff.mp h).1
        rwa [List.length_set] at this
      rw [List.getElem?_set_self hl] at h
      cases h
      rw [List.getElem?_set_ne n] at e2 ⊢
      exact fr k es e2
    · rw [List.getElem?_set_ne hj] at e1 h
      by_cases hk : i = k
      · subst hk
        intro z
        have hl : i < σ.length := by
          have := (List.getElem?_eq_some_iff.mp z).1
          rwa [List.length_set] at this
        rw [List.getElem?_set_self hl] at z
        cases z
        exact fr j ds' e1 h
      · rw [List.getElem?_set_ne hk] at e2 ⊢
        exact r.sep j k q ds' es n e1 e2 h
theorem He_none {H G H' G' : Hp} (cr : Cr c H G) {p : Addr} (h : H p = none) : c.He p = none := by
  cases z : c.He p with
  | none => rfl
  | some o =>
    by_cases nd : NotDl c.dl p
    · by_cases m : c.sf = some p
      · obtain ⟨C, dx, fv, e⟩ := cr.sfo p m
        rw [h] at e
        cases e
      · rw [cr.keep _ _ z nd m] at h
        cases h
    · exfalso
      apply nd
      intro p' l' e
      obtain ⟨⟨_, _, q1, q2, _⟩, _⟩ := cr.dlok p' l' e
      exact ⟨fun y => (by rw [y, q1] at h; cases h), fun y => (by rw [y, q2] at h; cases h)⟩
theorem ws_own {i : Nat} {t : TE} {mo : MA} (w : WO K c W t mo) : WS K c W (tAsg t (gName i)) (msOwn i mo) := fun H G σ δ k Y cr rs h en =>
  w H G σ δ _ _ _ cr rs h (fun p xs ds H' G' g h1 h2 h3 r f => by
    refine en.nx _ _ H' G' (cr.step g) ((rs.step cr g).own i h1 h2 (He_none (H' := H) (G' := G) cr h3) r fun j es e z => ?_) g.grow f
    obtain ⟨y, q1, p', xs', q2, q3, _⟩ := rs.at_ _ _ e
    subst q2
    rw [q1] at z
    cases z
    rw [h3] at q3
    cases q3) (en.xw cr rs)
theorem ds_own (i : Nat) {mo : MA} (hN : X.N.Nodup) (hi : X.N[i]? = some x) (hx : Loc X.env.scope x) (he : OE X c W e te mo) (hs : swapsWith e (some (.Name x pos')) pos.line X.env = pure false := by rfl) (hf : X.fn x = true ∨ X.env.scope.names.lookup x = some .local := by first | exact .inl rfl | exact .inr rfl | assumption) :
    DS X c W (.Assign [.Name x pos'] e pos) (tAsg te (gName i)) (msOwn i mo) := ⟨ps_set hN hi hx he.p hs hf, ws_own he.w⟩
end
end DL

set_option Elab.async false
set_option linter.all false
set_option maxRecDepth 100000
set_option maxHeartbeats 4000000
namespace DL
open PySem L2 PySem.Spec PyProof.Rows

/-! ### the deal -/
theorem dpAll_ints {K : Fg} {H : Hp} : ∀ ns : List Int, DpAll K H (ns.map V.int) (ns.map PyData.int)
  | [] => .nil
  | n :: r => .cons (.int n) (dpAll_ints r)
theorem shaped_ints (ns : List Int) : SeqAt.shaped (.list (ns.map PyData.int)) = true := by
  have h1 : PyData.canLayAll0 (ns.map PyData.int) = true := by
    induction ns with
    | nil => rfl
    | cons n r ih => exact ih
  have h2 : PyData.depthAll (ns.map PyData.int) = 0 := by
    induction ns with
    | nil => rfl
    | cons n r ih => show max 0 (PyData.depthAll (r.map PyData.int)) = 0; rw [ih h1]; rfl
  show (PyData.canLayAll0 (ns.map PyData.int) && decide (PyData.depthAll (ns.map PyData.int) + 1 ≤ 64)) = true
  rw [h1, h2]
  rfl
theorem eqv_ints (ns : List Int) : PyData.eqv (.list (ns.map PyData.int)) (.list []) = ns.isEmpty := by cases ns <;> rfl
def gDraw : FF := fun ds F _ => ∃ m : Int, ds = [.int m] ∧ 0 < m ∧ m < 1073741824 ∧ ∀ r : Int, 0 ≤ r → r < m → F (.int r)
section
variable {P : Program} {w : World} {K : Fg} {mg : Str → Option Value} {base : Heap} {x qual : Str} {params : Arguments} {body : List Stmt} {scope : Scope} {f : Addr} {fd : FuncData} {N ps : List Str}
abbrev rNeI (K : Fg) : R2 := rNeD K
abbrev tD0 (K : Fg) : TE := tOp (rIxL K) (tVar 0) (tC (.int 0))
abbrev tD1 (K : Fg) : TE := tOp (rIxL K) (tVar 0) (tC (.int 1))
abbrev tTest0 (K : Fg) : TT := tTest (tOp (rNeD K) (tD0 K) (tLst tNil))
abbrev tDrawW (K : Fg) : TS := tWhile (tAnd (tTest0 K) (tTest (tOp rEq (tOp (rIxL K) (tD0 K) (tUn (rU fun i => .int (-i)) (tC (.int 1)))) (tC (.int 0))))) (tDrop (tBM0 K "list" rPop (tD0 K)))
abbrev rMul' : R2 := rI CMul fun i j => .int (i * j)
abbrev rAdd' : R2 := rI0 fun i j => .int (i + j)
abbrev rMod' : R2 := rI (fun _ j => 0 < j) fun i j => .int (i % j)
abbrev rFd' : R2 := rI CDiv fun i j => .int (i / j)
abbrev rInt' : List V → Hp → VK → Prop := fun xs H Q => (∃ i, xs = [.int i] ∧ Q (.int i) H) ∨ ∃ k, xs = [.bl k] ∧ Q (.int (if k then 1 else 0)) H
abbrev tDrawIf (K : Fg) : TS := tIfS (tTest0 K) (tSeq (tAsg (tBM0 K "list" rPop (tD0 K)) (gName 2)) (tSeq (tDrop (tBM K "list" rAppend (tD0 K) (tCons (tOp rFd' (tVar 2) (tVar 1)) tNil))) (tRet (tOp rMod' (tCB rInt' (tCons (tVar 2) tNil)) (tVar 1))))) tNext
abbrev tDraw (K : Fg) : TS := tSeq (tDrawW K) (tSeq (tDrawIf K) (tSeq (tAsg (tOp rMod' (tCB rInt' (tCons (tOp rAdd' (tOp rMul' (tD1 K) (tC (.int 48271))) (tC (.int 11))) tNil)) (tC (.int 2147483647))) (gSub (tVar 0) (tC (.int 1)) rSetL))
  (tRet (tOp rMod' (tCB rInt' (tCons (tOp rFd' (tD1 K) (tC (.int 8))) tNil)) (tVar 1)))))
theorem at0 {p l : Addr} {m : Int} : atI [V.ref l, V.int m] 0 = some (.ref l) := rfl
theorem at1 {p l : Addr} {m : Int} : atI [V.ref l, V.int m] 1 = some (.int m) := rfl
structure DA2 (H H' : Hp) (p l : Addr) (ns : List Int) (k : Int) : Prop where
  keep : ∀ b o, H b = some o → b ≠ p → b ≠ l → H' b = some o
  hp : H' p = some (.lst [.ref l, .int k])
  hl : H' l = some (.lst (ns.map V.int))
  few : ns.length ≤ 1000
  k0 : 0 ≤ k
  k1 : k < 2147483647
  pos : ∀ n ∈ ns, 0 ≤ n
theorem DA2.laid {H H' : Hp} {p l q : Addr} {ns : List Int} {k : Int} {o : HO} (d : DA2 H H' p l ns k) (h : H' q = none) : DA2 H (upd H' q o) p l ns k :=
  ⟨fun b u hb n1 n2 => by rw [upd_ne (ne_of_none (d.keep b u hb n1 n2) h)]; exact d.keep b u hb n1 n2, by rw [upd_ne (ne_of_none d.hp h)]; exact d.hp, by rw [upd_ne (ne_of_none d.hl h)]; exact d.hl, d.few, d.k0, d.k1, d.pos⟩
theorem DA2.ne {H H' : Hp} {p l : Addr} {ns : List Int} {k : Int} (d : DA2 H H' p l ns k) : p ≠ l := DealAt.ne ⟨ns, k, d.hp, d.hl, d.few, d.k0, d.k1, d.pos⟩
theorem DA2.setl {H H' : Hp} {p l : Addr} {ns ms : List Int} {k : Int} (d : DA2 H H' p l ns k) (few : ms.length ≤ 1000) (pos : ∀ n ∈ ms, 0 ≤ n) : DA2 H (upd H' l (.lst (ms.map V.int))) p l ms k :=
  ⟨fun b u hb n1 n2 => by rw [upd_ne n2]; exact d.keep b u hb n1 n2, by rw [upd_ne d.ne]; exact d.hp, upd_same, few, d.k0, d.k1, pos⟩
theorem DA2.setp {H H' : Hp} {p l : Addr} {ns : List Int} {k k' : Int} (d : DA2 H H' p l ns k) (h0 : 0 ≤ k') (h1 : k' < 2147483647) : DA2 H (upd H' p (.lst [.ref l, .int k'])) p l ns k' :=
  ⟨fun b u hb n1 n2 => by rw [upd_ne n1]; exact d.keep b u hb n1 n2, upd_same, by rw [upd_ne d.ne.symm]; exact d.hl, d.few, h0, h1, d.pos⟩
/-- deal[0] != [] -/
theorem test0 {H H' : Hp} {p l : Addr} {ns : List Int} {k : Int} {σ : L2.St} {Q : Bool → Hp → Prop} (hσ : σ[0]? = some (some (.ref p))) (d : DA2 H H' p l ns k) (q : ∀ H2, DA2 H H2 p l ns k → Q (!ns.isEmpty) H2) : tTest0 K σ H' Q := by
  refine ⟨_, hσ, p, _, 0, _, rfl, rfl, SqL.of d.hp, at0 (p := p), Nat.zero_le _, fun q' hq' => ?_⟩
  have d2 := d.laid (o := .lst []) hq'
  exact ⟨.list (ns.map PyData.int), .list [], .lst (SqL.of d2.hl) (dpAll_ints ns), .lst (SqL.of upd_same) .nil, shaped_ints ns, by decide, _, by rw [eqv_ints], q _ d2⟩
theorem map_last {ns : List Int} {n : Int} : (ns ++ [n]).map V.int = ns.map V.int ++ [V.int n] := by rw [List.map_append]; rfl
theorem draw_reads {vs : List V} {H : Hp} {Q : VK} {E : XK} (h : spD K 1 true gDraw vs H Q E) : tDraw K { nx := fun _ H' => Q .non H', rt := Q } (L2.start ["_law_deal_here", "_law_many", "_law_rest"] vs) H := by
  obtain ⟨G, ds, dl, vs', F, X, hn, ⟨p, l, rfl, rfl⟩, sm, dk, r, ⟨m, rfl, m0, m1, hf⟩, hq, _⟩ := h
  obtain ⟨v, rfl, rv⟩ := r.one
  have ev := rv.int_of
  subst ev
  obtain ⟨⟨ns0, k0, b1, b2, b3, b4, b5, b6⟩, g1, g2⟩ := dk p l rfl
  have fin : ∀ (r : Int) (ns : List Int) (k : Int) (H' : Hp), DA2 H H' p l ns k → 0 ≤ r → r < m → Q (.int r) H' := fun r ns k H' d h1 h2 => hq _ _ H' G {
    keep := fun b o hb nd => by
      obtain ⟨a1, a2⟩ := nd p l rfl
      exact d.keep b o hb a1 a2
    grow := Same.refl _
    sub := fun b o hb => d.keep b o (sm _ _ hb) (ne_of_none hb g1) (ne_of_none hb g2)
    new := fun b o hb => .inl hb
    deal := fun p' l' e' => by
      cases e'
      exact ⟨⟨ns, k, d.hp, d.hl, d.few, d.k0, d.k1, d.pos⟩, g1, g2⟩ } (.int r) (hf r h1 h2)
  have es : L2.start ["_law_deal_here", "_law_many", "_law_rest"] [V.ref p, V.int m] = [some (.ref p), some (.int m), none] := rfl
  rw [es]
  have D0 : DA2 H H p l ns0 k0 := ⟨fun b o hb _ _ => hb, b1, b2, b3, b4, b5, b6⟩
  refine ⟨fun n σ H' => σ = [some (.ref p), some (.int m), none] ∧ ∃ ns k, ns.length = n ∧ DA2 H H' p l ns k, ⟨_, rfl, ns0, k0, rfl, D0⟩, ?_⟩
  rintro n σ H1 ⟨rfl, ns, k, hlen, D1⟩
  -- behind the loop
  have after : ∀ (ns : List Int) (k : Int) (H2 : Hp), DA2 H H2 p l ns k → (tSeq (tDrawIf K) (tSeq (tAsg (tOp rMod' (tCB rInt' (tCons (tOp rAdd' (tOp rMul' (tD1 K) (tC (.int 48271))) (tC (.int 11))) tNil)) (tC (.int 2147483647))) (gSub (tVar 0) (tC (.int 1)) rSetL))
      (tRet (tOp rMod' (tCB rInt' (tCons (tOp rFd' (tD1 K) (tC (.int 8))) tNil)) (tVar 1))))) { nx := fun _ H' => Q .non H', rt := Q } [some (.ref p), some (.int m), none] H2 := by
    intro ns k H2 d
    refine test0 rfl d fun H3 d3 => ?_
    have d3' := d3
    rcases List.eq_nil_or_concat ns with rfl | ⟨ms, z, rfl⟩
    · -- the mixed number
      show tNext _ _ _
      have hd1 : ∀ {H4 : Hp} {Q4 : VK} {k4 : Int}, DA2 H H4 p l [] k4 → Q4 (.int k4) H4 → tD1 K [some (.ref p), some (.int m), none] H4 Q4 := fun {H4 Q4 k4} d4 q4 => ⟨_, rfl, p, _, 1, _, rfl, rfl, SqL.of d4.hp, at1 (p := p), q4⟩
      refine hd1 d3 ⟨_, _, rfl, rfl, .inl ⟨by have := d3.k0; omega, by have := d3.k1; omega⟩, _, _, rfl, rfl, .inl ⟨_, rfl, _, _, rfl, rfl, (by decide : (0 : Int) < 2147483647), ?_⟩⟩
      refine ⟨_, rfl, p, _, 1, 1, rfl, rfl, d3.hp, rfl, ?_⟩
      have d4 := d3.setp (k' := (k * 48271 + 11) % 2147483647) (Int.emod_nonneg _ (by decide)) (Int.emod_lt_of_pos _ (by decide))
      refine hd1 d4 ⟨_, _, rfl, rfl, ⟨by decide, by decide⟩, .inl ⟨_, rfl, _, rfl, _, _, rfl, rfl, m0, ?_⟩⟩
      exact fin _ _ _ _ d4 (Int.emod_nonneg _ (by omega)) (Int.emod_lt_of_pos _ m0)
    · have e1 : (!(ms ++ [z]).isEmpty) = true := by cases ms <;> rfl
      rw [List.concat_eq_append] at d3
      have q1 : (!(ms.concat z).isEmpty) = true := by rw [List.concat_eq_append]; exact e1
      rw [q1]
      refine iteT ?_
      have hlast : ((ms ++ [z]).map V.int)[((ms ++ [z]).map V.int).length - 1]? = some (.int z) := by
        rw [map_last, List.length_append, List.length_singleton, Nat.add_sub_cancel, List.getElem?_append_right (Nat.le_refl _), Nat.sub_self]
        rfl
      have hdrop : ((ms ++ [z]).map V.int).dropLast = ms.map V.int := by rw [map_last, List.dropLast_concat]
      have hz : 0 ≤ z := d3.pos z (List.mem_append_right _ (List.mem_singleton.mpr rfl))
      have few : ms.length + 1 ≤ 1000 := by
        have := d3.few
        rw [List.length_append, List.length_singleton] at this
        exact this
      refine ⟨_, rfl, p, _, 0, _, rfl, rfl, SqL.of d3.hp, at0 (p := p), .inl ⟨rfl, _, SqL.of d3.hl⟩, l, _, _, rfl, rfl, d3.hl, hlast, ?_⟩
      rw [hdrop]
      have d4 := d3.setl (ms := ms) (by omega) fun n hn => d3.pos n (List.mem_append_left _ hn)
      show (tSeq (tDrop (tBM K "list" rAppend (tD0 K) (tCons (tOp rFd' (tVar 2) (tVar 1)) tNil))) (tRet (tOp rMod' (tCB rInt' (tCons (tVar 2) tNil)) (tVar 1)))) _ [some (.ref p), some (.int m), some (.int z)] _
      refine ⟨_, rfl, p, _, 0, _, rfl, rfl, SqL.of d4.hp, at0 (p := p), .inl ⟨rfl, _, SqL.of d4.hl⟩, _, rfl, _, rfl, z, m, rfl, rfl, ⟨m0, m1⟩, l, _, _, rfl, rfl, d4.hl, ?_, ?_⟩
      · rw [List.length_map]
        exact Nat.lt_of_le_of_lt (Nat.le_trans (Nat.le_succ _) few) (by decide)
      rw [← map_last]
      have d5 := d4.setl (ms := ms ++ [z / m]) (by rw [List.length_append, List.length_singleton]; exact few) fun n hn => by
        rcases List.mem_append.mp hn with hn | hn
        · exact d3.pos n (List.mem_append_left _ hn)
        · rw [List.mem_singleton.mp hn]
          exact Int.ediv_nonneg hz (by omega)
      refine ⟨_, rfl, .inl ⟨_, rfl, _, rfl, _, _, rfl, rfl, m0, ?_⟩⟩
      exact fin _ _ _ _ d5 (Int.emod_nonneg _ (by omega)) (Int.emod_lt_of_pos _ m0)
  refine test0 rfl D1 fun H2 d2 => ?_
  rcases List.eq_nil_or_concat ns with rfl | ⟨ms, z, e⟩
  · exact after [] k H2 d2
  · rw [List.concat_eq_append] at e
    subst e
    have e1 : (!(ms ++ [z]).isEmpty) = true := by cases ms <;> rfl
    rw [e1]
    refine iteT ?_
    have hlast : atI ((ms ++ [z]).map V.int) (-1) = some (.int z) := by rw [map_last]; exact atI_last _ _
    have hlast2 : ((ms ++ [z]).map V.int)[((ms ++ [z]).map V.int).length - 1]? = some (.int z) := by
      rw [map_last, List.length_append, List.length_singleton, Nat.add_sub_cancel, List.getElem?_append_right (Nat.le_refl _), Nat.sub_self]
      rfl
    have hdrop : ((ms ++ [z]).map V.int).dropLast = ms.map V.int := by rw [map_last, List.dropLast_concat]
    refine ⟨_, rfl, p, _, 0, _, rfl, rfl, SqL.of d2.hp, at0 (p := p), 1, rfl, l, _, _, _, rfl, rfl, SqL.of d2.hl, hlast, rfl, decide (V.int z = V.int 0), rfl, ?_⟩
    by_cases hz : V.int z = V.int 0
    · rw [decide_eq_true hz]
      refine iteT ⟨fun σ' H' => σ' = [some (.ref p), some (.int m), none] ∧ ∃ k, DA2 H H' p l ms k, fun σ' H' ⟨a, k', b⟩ => ⟨ms.length, by rw [← hlen, List.length_append, List.length_singleton]; omega, a, ms, k', rfl, b⟩, ?_⟩
      refine ⟨_, rfl, p, _, 0, _, rfl, rfl, SqL.of d2.hp, at0 (p := p), .inl ⟨rfl, _, SqL.of d2.hl⟩, l, _, _, rfl, rfl, d2.hl, hlast2, ?_⟩
      rw [hdrop]
      refine ⟨rfl, k, d2.setl (ms := ms) ?_ fun n hn => d2.pos n (List.mem_append_left _ hn)⟩
      have := d2.few
      rw [List.length_append, List.length_singleton] at this
      omega
    · rw [decide_eq_false hz]
      exact iteF (after _ k H2 d2)
end
end DL

set_option Elab.async false
set_option linter.all false
set_option maxRecDepth 100000
set_option maxHeartbeats 4000000
namespace DL
open PySem L2 PySem.Spec PyProof.Rows

/-! ### what the head looks up, as booleans -/
theorem b2 {a b : Bool} (h : (a && b) = true) : a = true ∧ b = true := Bool.and_eq_true_iff.mp h
def oexT (K : Fg) (C : Addr) : Bool := match K.lookup C with
  | some ⟨.type "type", _, .cls cd, sl⟩ => (match cd.mro, sl.toList with
    | .ref C' :: bm, [_, _, _, _, some (.builtin n), _] => C' == C && n == "ValueError.__new__" && !cd.hasDel && cd.hasDict && PySem.HandSPX.refsVE bm
    | _, _ => false)
  | _ => false
theorem oexT_ok {K : Fg} {C : Addr} (q : oexT K C = true) : ∃ nm qn N bs bm sn sub ab col dd k0 k1 k2 k3 k5, K.lookup C = some (excClassObj nm qn C N bs bm true sn sub ab col dd k0 k1 k2 k3 k5 "ValueError.__new__") ∧ PySem.HandSPX.refsVE bm = true := by
  unfold oexT at q
  split at q
  · rename_i dd cd sl ho
    split at q
    · rename_i C' bm k0 k1 k2 k3 n k5 hm hs
      simp only [Bool.and_eq_true, beq_iff_eq, Bool.not_eq_true'] at q
      obtain ⟨⟨⟨⟨rfl, rfl⟩, hdel⟩, hh⟩, ht⟩ := q
      obtain ⟨nm, bs, mro, ns, qn, hd, sn, sub, ab, col, del⟩ := cd
      dsimp only at hm hdel hh
      subst hm hdel hh
      have hsl : sl = #[k0, k1, k2, k3, some (.builtin "ValueError.__new__"), k5] := by
        obtain ⟨l⟩ := sl
        simp only at hs
        rw [hs]
      subst hsl
      exact ⟨nm, qn, ns, bs, bm, sn, sub, ab, col, dd, k0, k1, k2, k3, k5, ho, ht⟩
    · cases q
  · cases q
def eqOV (a b : Option (Option Value)) : Bool := decide (a = b)
def oexB (K : Fg) (C : Addr) : Bool := oexT K C && (eqOV (PySem.W.findIn K (.ref C) "__setattr__") (some (some (.builtin "object.__setattr__"))) && (decide (PySem.W.subIn K (.ref C) (.type "BaseException") = some true) && (decide (PySem.W.typeIn K (.ref C) = some (.type "type")) && PySem.W.keepIn K (.ref C))))
theorem oexB_ok {K : Fg} {C : Addr} (h : oexB K C = true) : OexC K C := by
  obtain ⟨h1, h⟩ := b2 h
  obtain ⟨h2, h⟩ := b2 h
  obtain ⟨h3, h⟩ := b2 h
  obtain ⟨h4, h5⟩ := b2 h
  exact ⟨oexT_ok h1, of_decide_eq_true h2, of_decide_eq_true h3, of_decide_eq_true h4, h5⟩
def cobB (K : Fg) (C : Addr) : Bool := eqOV (PySem.W.findIn K (.ref C) "__class__") (some (some (.builtin "object.__class__"))) && (eqOV (PySem.W.specialIn K (.builtin "object.__class__") "__get__") (some (some (.builtin "getset_descriptor.__get__"))) && (decide (PySem.W.takesIn K (.builtin "object.__class__") = some true) && decide (PySem.W.mroIn K C (.type "object") = some true)))
def clsB (K : Fg) (C : Addr) : Bool := PySem.W.plainGet K C Str.empty && (PySem.W.hasDictIn K C && (PySem.W.plainOver K C && eqOV (PySem.W.findIn K (.ref C) "__setattr__") (some (some (.builtin "object.__setattr__")))))
theorem clsB_ok {K : Fg} {C : Addr} (h : clsB K C = true) : Cls K C := by
  obtain ⟨c1, c⟩ := b2 h
  obtain ⟨c2, c⟩ := b2 c
  obtain ⟨c3, c4⟩ := b2 c
  exact ⟨c1, c2, c3, of_decide_eq_true c4⟩
theorem isC_ok {K : Fg} {C : Addr} (h : (clsB K C && cobB K C) = true) : IsC K C := by
  obtain ⟨h0, h⟩ := b2 h
  obtain ⟨h1, h⟩ := b2 h
  obtain ⟨h2, h⟩ := b2 h
  obtain ⟨h3, h4⟩ := b2 h
  exact ⟨clsB_ok h0, of_decide_eq_true h1, of_decide_eq_true h2, of_decide_eq_true h3, of_decide_eq_true h4⟩
theorem excC_ok {K : Fg} {C : Addr} (h : (xfB K C && cobB K C) = true) : ExcC K C := by
  obtain ⟨h0, h⟩ := b2 h
  obtain ⟨h1, h⟩ := b2 h
  obtain ⟨h2, h⟩ := b2 h
  obtain ⟨h3, h4⟩ := b2 h
  obtain ⟨x1, x2, x3, x4⟩ := xfB_ok h0
  exact ⟨x1, x2, x3, x4, of_decide_eq_true h1, of_decide_eq_true h2, of_decide_eq_true h3, of_decide_eq_true h4⟩
def initB (K : Fg) (C f : Addr) : Bool := eqOV (PySem.W.findIn K (.ref C) "__init__") (some (some (.ref f))) && decide (PySem.W.typeIn K (.ref f) = some (.type "function"))
theorem initB_ok {K : Fg} {C f : Addr} (h : initB K C f = true) : PySem.W.findIn K (.ref C) "__init__" = some (some (.ref f)) ∧ PySem.W.typeIn K (.ref f) = some (.type "function") := by
  obtain ⟨h1, h2⟩ := b2 h
  exact ⟨of_decide_eq_true h1, of_decide_eq_true h2⟩
def nofB (K : Fg) (C : Addr) (f : Str) : Bool := eqOV (PySem.W.findIn K (.ref C) f) (some none)
theorem nofB_ok {K : Fg} {C : Addr} {f : Str} (h : nofB K C f = true) : PySem.W.findIn K (.ref C) f = some none := of_decide_eq_true h
def kitB (K : Fg) (t : Value) (us : List Value) (b : Bool) : Bool := decide (PySem.W.kitAny K t us = some b)
theorem kitB_ok {K : Fg} {t : Value} {us : List Value} {b : Bool} (h : kitB K t us b = true) : PySem.W.kitAny K t us = some b := of_decide_eq_true h
theorem kit1_ok {K : Fg} {t u : Value} {b : Bool} (h : decide (PySem.W.kitOne K t u = some b) = true) : PySem.W.kitOne K t u = some b := of_decide_eq_true h
/-- a tuple in a def's defaults -/
def tupAtB (K : Fg) (a : Addr) (vs : List He.Dv) : Bool := match K.lookup a with
  | some ⟨.type c, _, .seq its _, _⟩ => decide (c = "tuple") && (decide (its.size ≤ sizeLine) && He.relAll (vs.map (He.Dv.v K)) its.toList)
  | _ => false
theorem tupAtB_ok {K : Fg} {a : Addr} {vs : List He.Dv} (h : tupAtB K a vs = true) (H : Hp) : SqT K H a (vs.map (He.Dv.v K)) := by
  unfold tupAtB at h
  split at h
  · rename_i c od its n sl e
    obtain ⟨h1, h⟩ := b2 h
    obtain ⟨h2, h3⟩ := b2 h
    have e1 := of_decide_eq_true h1
    subst e1
    exact .inr ⟨_, its, n, e, rfl, rfl, of_decide_eq_true h2, He.relAll_ok h3⟩
  · cases h
end DL

set_option Elab.async false
set_option linter.all false
set_option maxRecDepth 100000
set_option maxHeartbeats 4000000
namespace DL
open PySem L2 PySem.Spec PyProof.Rows

/-! ### a def that others call -/
structure Fn (P : Program) (w : World) (K : Fg) (mg : Str → Option Value) (base : Heap) (x : Str) (k n : Nat) (wd : Bool) (ff : FF) : Prop where
  ok : ∃ (f : Addr) (fd : FuncData) (ps : List Str), FnOk P w K mg base (L2.CX P w) k f fd ps (spD K n wd ff) ∧ mg x = some (.ref f) ∧ PySem.W.keepIn K (.ref f) = true ∧ Binds K fd ps []
section
variable {X : Cx} {c : Ct} {W : WX} {e a b : Expr} {es : List Expr} {pos p : Pos} {x : Str} {k n : Nat} {ff : FF} {mr : MA} {tr : TA}
theorem takes0 : Takes X W0 := fun u s' ⟨a, B, sI, pins, σ, H, cls, d, e, I, nb, up, sky, na, os, ag, w⟩ => w.elim
theorem de_f (C : Fn X.prog X.w X.K X.mg X.base x k n false ff) (hr : Room k X.A) (hg : Gl X x) (tk : Takes X W)
    (ha : DA X c W (e :: es) tr mr) (hdb : (x == ("__debug__" : Str)) = false := by decide) (he : starEach (e :: es) X.env = (false, eval e X.env) :: starEach es X.env := by rfl) (hpl : (backTo pos (starEach es X.env)).any (·.1) = false := by rfl) :
    DE X c W (.Call (.Name x p) (e :: es) [] pos) (tCallSD (spD X.K n false ff) [] (fun σ cls d H => W cls d σ H) tr) (mCall ff [] n mr) := by
  obtain ⟨f, fd, ps, F, hm, hk, hb⟩ := C.ok
  exact de_call F hr hg hm hk hb .nil (fun _ => .nil) tk ha hdb he hpl
theorem de_fL (i : Nat) {z : Str} {zp : Pos} (C : Fn X.prog X.w X.K X.mg X.base x k n true ff) (hr : Room k X.A) (hg : Gl X x) (tk : Takes X W)
    (hz : PE X (.Name z zp) (tVar i)) (ha : DA X c W es tr mr) (hdb : (x == ("__debug__" : Str)) = false := by decide) (he : starEach (.Name z zp :: es) X.env = (false, eval (.Name z zp) X.env) :: starEach es X.env := by rfl) (hpl : (backTo pos (starEach es X.env)).any (·.1) = false := by rfl) :
    DE X c W (.Call (.Name x p) (.Name z zp :: es) [] pos) (tCallSD (spD X.K n true ff) [] (fun σ cls d H => W cls d σ H) (tCons (tVar i) tr)) (mCallL i ff [] n mr) := by
  obtain ⟨f, fd, ps, F, hm, hk, hb⟩ := C.ok
  exact de_callL i F hr hg hm hk hb .nil (fun _ => .nil) tk hz ha hdb he hpl
end
/-- fewer levels are enough -/
theorem room_le {A : Around} {j k : Nat} (h : Room k A) (l : j ≤ k) : Room j A := by
  first | exact h.mono l | exact Room.le h l | exact h.le l
/-! ### comparing ints -/
abbrev gLe : D → D → (D → Prop) → Prop := gI0 fun i j => .bl (decide (i ≤ j))
abbrev gLt : D → D → (D → Prop) → Prop := gI0 fun i j => .bl (decide (i < j))
theorem rd_le {K : Fg} : RD K (rI0 fun i j => .bl (decide (i ≤ j))) gLe := rd_I0 fun i j G => .bl _
theorem rd_lt {K : Fg} : RD K (rI0 fun i j => .bl (decide (i < j))) gLt := rd_I0 fun i j G => .bl _

theorem de_ty {X : Cx} {c : Ct} {W : WX} {x : Str} {pos : Pos} (T : String) (hg : Gl X x) (hm : X.mg x = none) (hv : bootBuiltins x = some (.type T)) (hn : x ≠ "__name__" := by decide) (hd : (x == ("__debug__" : Str)) = false := by decide) : DE X c W (.Name x pos) (tC (.ty T)) (mC (.fx (.ty T))) :=
  de_bltn hg hm hv rfl hn hd
/-! ### == of two texts, of two ints -/
def gEqS (d e : D) (F : D → Prop) : Prop := match d, e with
  | .str a, .str b => F (.bl (decide (a = b)))
  | .int a, .int b => F (.bl (decide (a = b)))
  | _, _ => False
def gNeS (d e : D) (F : D → Prop) : Prop := match d, e with
  | .str a, .str b => F (.bl (!decide (a = b)))
  | .int a, .int b => F (.bl (!decide (a = b)))
  | _, _ => False
theorem dec_s {a b : Str} : decide (V.str a = V.str b) = decide (a = b) := decide_eq_decide.mpr ⟨fun h => V.str.inj h, fun h => h ▸ rfl⟩
theorem dec_i {a b : Int} : decide (V.int a = V.int b) = decide (a = b) := decide_eq_decide.mpr ⟨fun h => V.int.inj h, fun h => h ▸ rfl⟩
theorem rd_eqS {K : Fg} : RD K rEq gEqS := fun H G x y d e F Q s rx ry h k => by
  unfold gEqS at h
  split at h
  · rw [rx.str_of, ry.str_of]
    exact ⟨rfl, k _ _ H G (Go.refl s .no) (by rw [dec_s]; exact .bl _) h⟩
  · rw [rx.int_of, ry.int_of]
    exact ⟨rfl, k _ _ H G (Go.refl s .no) (by rw [dec_i]; exact .bl _) h⟩
  · exact h.elim
theorem rd_neS {K : Fg} : RD K rNe gNeS := fun H G x y d e F Q s rx ry h k => by
  unfold gNeS at h
  split at h
  · rw [rx.str_of, ry.str_of]
    exact ⟨rfl, k _ _ H G (Go.refl s .no) (by rw [dec_s]; exact .bl _) h⟩
  · rw [rx.int_of, ry.int_of]
    exact ⟨rfl, k _ _ H G (Go.refl s .no) (by rw [dec_i]; exact .bl _) h⟩
  · exact h.elim
/-! ### walking a list or a tuple -/
def iSeq (K : Fg) (te : TE) : TI := fun σ H R => te σ H fun x H' => ∃ q, x = .ref q ∧ (((∃ ys, SqL K H' q ys) ∧ R (Itl K q) H') ∨ ((∃ ys, SqT K H' q ys) ∧ R (Itt K q) H'))
theorem pi_seq {X : Cx} {tg l : Expr} {te : TE} (hl : PE X l te) : PI X tg l (iSeq X.K te) :=
  ⟨fun pins s σ H R I h => thn (hl.run pins s σ H _ I h) fun v t1 post => by
    obtain ⟨x, H1, I1, r1, q, e, z⟩ := post
    subst e
    cases r1
    rcases z with ⟨⟨ys, hs⟩, k⟩ | ⟨⟨ys, hs⟩, k⟩
    · obtain ⟨its, rv, pl, hz⟩ := I1.list hs
      refine wpAny_pyIter_list (pl.isList) ?_
      refine ⟨t1.heap.objs.size, [t1.heap.objs.size], _, _, H1, rfl, I1.kept (t' := t1.toks) (fun b o => Heap.get?_push_of_some _), turn_list q _, ⟨_, Heap.get?_push_size _ rfl, rfl, rfl⟩, ?_, k⟩
      intro b hb
      rw [List.mem_singleton.mp hb]
      exact I1.fpOk (Nat.le_refl _) (I1.hok.fresh (Nat.le_refl _))
    · obtain ⟨its, rv, pl, hz⟩ := I1.tuple hs
      refine wpAny_pyIter_tuple (show t1.heap.IsTuple q (its.toArray) from pl) ?_
      refine ⟨t1.heap.objs.size, [t1.heap.objs.size], _, _, H1, rfl, I1.kept (t' := t1.toks) (fun b o => Heap.get?_push_of_some _), turn_tuple q _, ⟨_, Heap.get?_push_size _ rfl, rfl, rfl⟩, ?_, k⟩
      intro b hb
      rw [List.mem_singleton.mp hb]
      exact I1.fpOk (Nat.le_refl _) (I1.hok.fresh (Nat.le_refl _))⟩
def miS (ma : ME) : MA := fun δ F X => ma δ (fun d => ∃ ds, seqD d = some ds ∧ F ds) X
section
variable {X : Cx} {c : Ct} {W : WX} {e tg : Expr} {ma : ME} {ta : TE}
theorem di_seq (h : DE X c W e ta ma) : DI X c W tg e (iSeq X.K ta) (miS ma) := by
  obtain ⟨p, w⟩ := h
  refine ⟨pi_seq p, fun H G σ δ F X R cr rs h q x => ?_⟩
  refine w H G σ δ _ _ _ cr rs h (fun v d H' G' g r f => ?_) x
  obtain ⟨ds, e1, f⟩ := f
  cases d with
  | lst l =>
    cases e1
    obtain ⟨a, xs, e1, h1, r1⟩ := r.lst_of
    exact ⟨a, e1, .inl ⟨⟨xs, SqL.of (g.sub _ _ h1)⟩, q _ _ H' G' g (walk_l h1 r1) f⟩⟩
  | tup l =>
    cases e1
    obtain ⟨a, xs, e1, h1, r1⟩ := r.tup_of
    exact ⟨a, e1, .inr ⟨⟨xs, same_t g.sub h1⟩, q _ _ H' G' g (walk_t h1 r1) f⟩⟩
  | _ => cases e1
end
theorem slot_strip : Slot "str" "strip" "str.strip" := .of (owner := "str") (n := "strip")
  (by rw [typeLookup_type, builtinLookup_eq_fast]; kernel_rfl) (by decide +kernel)
  (by decide +kernel) (by decide +kernel) (by first | exact .inl (by decide +kernel) | exact .inr (by decide +kernel))
  (by rw [isSubtype_type]; kernel_rfl)
theorem type_strip : typeOf (.builtin "str.strip") = pure (.type "method_descriptor") := by
  show builtinType _ = _
  rw [builtinType_eq_fast]
  kernel_rfl

/-! ### the rule for a def, whose reading knows the way out -/
section
variable {P : Program} {w : World} {K : Fg} {mg : Str → Option Value} {base : Heap} {x qual : Str} {params : Arguments} {body : List Stmt} {scope : Scope} {dvs : List V} {kws : List (Str × V)} {f : Addr} {fd : FuncData} {N ps : List Str} {n k : Nat} {wd : Bool} {ff : FF}
theorem fn_okE (F : FunD K x qual params body scope dvs kws f fd) (S : FnScope N ps scope) (hl : ps.length = n + dn wd) (hN : ps.length ≤ N.length)
    (hb : ∀ (c : Ct) (cdv : Value) (A : Around) (outer : List Env) (s : Shared) (H : Hp) (E : XK), Room k (A.deeper (PyProof.Rows.envOfC qual scope s.heap.objs.size f cdv)) → ∃ t ms, DSs (cxOf (L2.CX P w) P w K mg base N qual scope f cdv A outer s H E) c (WF E) body t ms ∧
      ∀ ds G X, ds.length = n → ff ds G X → ms (start0 wd ds (N.length - (n + dn wd))) { nx := fun _ => G .non, rt := G, rs := fun x _ => X x }) : FnOk P w K mg base (L2.CX P w) (k + 1) f fd ps (spD K n wd ff) := by
  refine F.ok S (fun vs H Q E h => (spD_len h).trans hl.symm) (fun cdv A outer s H vs Q E hr h => ?_)
  obtain ⟨G, ds, dl, vs', G0, X0, hn, hw, sm, dk, r, hf, hq, hx⟩ := h
  obtain ⟨t, ms, ⟨p, w'⟩, hm⟩ := hb ⟨dl, none, H, G⟩ cdv A outer s H E hr
  refine ⟨t, p, ?_⟩
  have cr : Cr ⟨dl, none, H, G⟩ H G := ⟨fun _ _ q _ _ => q, Same.refl _, sm, fun _ _ q => .inl q, dk, fun p' l' e => by
    obtain ⟨⟨_, _, q1, q2, _⟩, _⟩ := dk p' l' e
    exact ⟨fun z => (by rw [show H p' = none from z] at q1; cases q1), fun z => (by rw [show H l' = none from z] at q2; cases q2)⟩, fun _ e => nomatch e⟩
  refine w' H G _ _ _ _ cr (rs_start hn hw r (by omega)) (hm ds G0 X0 hn hf) ⟨fun σ δ H' G' a b z q => hq .non .non H' G' (a.go rfl) .non q, fun v d H' G' a b z q => hq v d H' G' (a.go rfl) b q, fun _ _ _ _ _ _ _ q => q.elim, fun _ _ _ _ _ _ _ q => q.elim,
    fun C fs d σ δ H' G' a b z e q => hx C fs d H' G' (a.go rfl) e q⟩
end
end DL

set_option Elab.async false
set_option linter.all false
set_option maxRecDepth 100000
set_option maxHeartbeats 4000000
namespace DL
open PySem L2 PySem.Spec PyProof.Rows
/-! ### what a comprehension makes -/
theorem lcD_gen {mg : MG} {mt : MT} {me : ME} {δ : List Sl} {g : D → List Sl} {p : D → Bool} {f : D → D} {F : List D → Prop} : ∀ (ds acc : List D),
    (∀ d ∈ ds, (∀ F' : List Sl → Prop, F' (g d) → mg d δ F') ∧ (∀ F' : Bool → Prop, F' (p d) → mt (g d) F' (fun _ => False)) ∧ (p d = true → ∀ F' : D → Prop, F' (f d) → me (g d) F' (fun _ => False))) →
    F (acc ++ (ds.filter p).map f) → lcD mg mt me δ F ds acc
  | [], acc, _, h => by
    rw [List.filter_nil, List.map_nil, List.append_nil] at h
    exact h
  | d :: ds, acc, hs, h => by
    obtain ⟨h1, h2, h3⟩ := hs d (List.mem_cons_self ..)
    refine h1 _ (h2 _ ?_)
    cases e : p d with
    | true =>
      rw [List.filter_cons_of_pos e, List.map_cons] at h
      show (if true = true then _ else _)
      rw [if_pos rfl]
      exact h3 e _ (lcD_gen ds _ (fun d' m => hs d' (List.mem_cons_of_mem _ m)) (by rw [List.append_assoc]; exact h))
    | false =>
      rw [List.filter_cons_of_neg (by rw [e]; decide)] at h
      show (if false = true then _ else _)
      rw [if_neg (by decide)]
      exact lcD_gen ds _ (fun d' m => hs d' (List.mem_cons_of_mem _ m)) h
/-- one name, no test -/
theorem lcD_map {i : Nat} {me : ME} {δ : List Sl} {f : D → D} {F : List D → Prop} (ds : List D) (hs : ∀ d ∈ ds, ∀ F' : D → Prop, F' (f d) → me (δ.set i (.dat d)) F' (fun _ => False)) (h : F (ds.map f)) : lcD (mgName i) mYes me δ F ds [] :=
  lcD_gen (g := fun d => δ.set i (.dat d)) (p := fun _ => true) (f := f) ds [] (fun d m => ⟨fun _ q => q, fun _ q => q, fun _ => hs d m⟩) (by rw [List.filter_eq_self.mpr fun _ _ => rfl, List.nil_append]; exact h)
/-- one name, a test -/
theorem lcD_if {i : Nat} {mt : MT} {me : ME} {δ : List Sl} {p : D → Bool} {f : D → D} {F : List D → Prop} (ds : List D) (ht : ∀ d ∈ ds, ∀ F' : Bool → Prop, F' (p d) → mt (δ.set i (.dat d)) F' (fun _ => False))
    (hs : ∀ d ∈ ds, p d = true → ∀ F' : D → Prop, F' (f d) → me (δ.set i (.dat d)) F' (fun _ => False)) (h : F ((ds.filter p).map f)) : lcD (mgName i) mt me δ F ds [] :=
  lcD_gen (g := fun d => δ.set i (.dat d)) (p := p) (f := f) ds [] (fun d m => ⟨fun _ q => q, ht d m, hs d m⟩) h
theorem bls_map {α : Type} {f : α → Bool} : ∀ ds : List α, blsD (ds.map fun d => .bl (f d)) = some (ds.map f)
  | [] => rfl
  | d :: ds => by
    show (blsD (ds.map fun d => D.bl (f d))).map (f d :: ·) = _
    rw [bls_map ds]
    rfl
theorem all_map {α : Type} {f : α → Bool} (ds : List α) : (ds.map f).all id = ds.all f := by rw [List.all_map]; rfl

section
variable {X : Cx} {c : Ct} {W : WX} {elt iter tg : Expr} {ifs : List Expr} {scope : Scope} {own : List (Str × Nat)} {pos : Pos} {ti : TI} {mi : MA} {is : List Nat} {tgg : Shared → Hp → Addr → List (Str × Addr) → List Addr → TG} {mg : Shared → Hp → Addr → List (Str × Addr) → List Addr → MG}
  {tt : Shared → Hp → Addr → List (Str × Addr) → List Addr → TT} {mt : Shared → Hp → Addr → List (Str × Addr) → List Addr → MT} {te : Shared → Hp → Addr → List (Str × Addr) → List Addr → TE} {me : Shared → Hp → Addr → List (Str × Addr) → List Addr → ME}
abbrev z5 {α : Type} (f : Shared → Hp → Addr → List (Str × Addr) → List Addr → α) : α := f {} (fun _ => none) 0 [] []
theorem de_lcF (hc : X.calm = true) (hN : X.N.Nodup) (hi : DIC X c W tg iter ti mi) (ok : BlkOk X.N X.env.scope scope own) (hv : ∀ i ∈ is, i ∈ own.map (·.2))
    (hg : ∀ (s : Shared) (H : Hp) (C : Addr) (cl : List (Str × Addr)) (fp : List Addr), DG (Blk X scope s H C cl fp) tg (tgg s H C cl fp) is (mg s H C cl fp))
    (ht : ∀ (s : Shared) (H : Hp) (C : Addr) (cl : List (Str × Addr)) (fp : List Addr), DTs (Blk X scope s H C cl fp) c W0 ifs (tt s H C cl fp) (mt s H C cl fp))
    (he : ∀ (s : Shared) (H : Hp) (C : Addr) (cl : List (Str × Addr)) (fp : List Addr), DE (Blk X scope s H C cl fp) c W0 elt (te s H C cl fp) (me s H C cl fp))
    (hs : ∀ x, foldedSetIterable iter X.env x = pure x := by intro _; rfl)
    (q1 : ∀ s H C cl fp, tgg s H C cl fp = z5 tgg := by intros; rfl) (q2 : ∀ s H C cl fp, mg s H C cl fp = z5 mg := by intros; rfl) (q3 : ∀ s H C cl fp, tt s H C cl fp = z5 tt := by intros; rfl)
    (q4 : ∀ s H C cl fp, mt s H C cl fp = z5 mt := by intros; rfl) (q5 : ∀ s H C cl fp, te s H C cl fp = z5 te := by intros; rfl) (q6 : ∀ s H C cl fp, me s H C cl fp = z5 me := by intros; rfl) :
    DE X c W (.ListComp elt [⟨tg, iter, ifs, 0⟩] scope pos) (tLc ti (z5 tgg) (z5 tt) (z5 te) (own.map (·.2))) (mLc mi (z5 mg) (z5 mt) (z5 me) (own.map (·.2))) :=
  de_lc hc hN hi ok hv (fun s H C cl fp => by rw [← q1 s H C cl fp, ← q2 s H C cl fp]; exact hg s H C cl fp) (fun s H C cl fp => by rw [← q3 s H C cl fp, ← q4 s H C cl fp]; exact ht s H C cl fp)
    (fun s H C cl fp => by rw [← q5 s H C cl fp, ← q6 s H C cl fp]; exact he s H C cl fp) hs
end

section
variable {P : Program} {w : World} {K : Fg} {mg : Str → Option Value} {base : Heap} {x qual : Str} {params : Arguments} {body : List Stmt} {scope : Scope} {dvs : List V} {kws : List (Str × V)} {f C : Addr} {fd : FuncData} {N ps : List Str} {n k : Nat} {ff : FI}
theorem fn_okIE (F : FunD K x qual params body scope dvs kws f fd) (S : FnScope N ps scope) (hl : ps.length = n + 1) (hN : ps.length ≤ N.length)
    (hb : ∀ (c : Ct) (cdv : Value) (A : Around) (outer : List Env) (s : Shared) (H : Hp) (E : XK), Room k (A.deeper (envOfC qual scope s.heap.objs.size f cdv)) → ∃ t ms, DSs (cxOf (L2.CX P w) P w K mg base N qual scope f cdv A outer s H E) c (WF E) body t ms ∧
      ∀ ds G X, ds.length = n → ff ds G X → ms (Sl.self C [] :: (ds.map Sl.dat ++ List.replicate (N.length - (n + 1)) .un)) { nx := selfIs C G, rt := fun _ => False, rs := fun x _ => X x }) : FnOk P w K mg base (L2.CX P w) (k + 1) f fd ps (spI K n C ff) := by
  refine F.ok S (fun vs H Q E h => ?_) (fun cdv A outer s H vs Q E hr h => ?_)
  · obtain ⟨G, ds, y, dx, vs', F0, X0, rfl, hn, _, _, _, r, _⟩ := h
    rw [List.length_cons, r.length, hl]
    omega
  · obtain ⟨G, ds, y, dx, vs', F0, X0, rfl, hn, h1, h2, sm, r, hf, hq, hx⟩ := h
    obtain ⟨t, ms, ⟨p, w'⟩, hm⟩ := hb ⟨none, some y, H, G⟩ cdv A outer s H E hr
    refine ⟨t, p, ?_⟩
    have cr : Cr ⟨none, some y, H, G⟩ H G := ⟨fun _ _ q _ _ => q, Same.refl _, sm, fun _ _ q => .inl q, .no, (fun _ _ e => nomatch e), fun a e => ⟨C, dx, [], (Option.some.inj (show some y = some a from e)) ▸ h1⟩⟩
    have lv := r.length
    have eN : L2.start N (V.ref y :: vs') = some (V.ref y) :: (vs'.map some ++ List.replicate (N.length - (n + 1)) none) := by
      unfold L2.start
      rw [List.length_cons, lv, hn]
      rfl
    have rs : RS K ⟨none, some y, H, G⟩ H G (L2.start N (V.ref y :: vs')) (Sl.self C [] :: (ds.map Sl.dat ++ List.replicate (N.length - (n + 1)) .un)) := by
      rw [eN]
      have at_ : ∀ (i : Nat) (s : Sl), (Sl.self C [] :: (ds.map Sl.dat ++ List.replicate (N.length - (n + 1)) .un))[i]? = some s → ∃ z, (some (V.ref y) :: (vs'.map some ++ List.replicate (N.length - (n + 1)) none))[i]? = some z ∧ SlotOk K ⟨none, some y, H, G⟩ H G z s ∧ ∀ es, s ≠ .own es := by
        intro i s e
        cases i with
        | zero =>
          cases e
          exact ⟨_, rfl, ⟨y, dx, [], rfl, rfl, h1, h2, Nat.zero_le _, .nil⟩, fun _ z => nomatch z⟩
        | succ i => exact dat_at _ i s r e
      refine ⟨by simp; omega, fun i s e => let ⟨z, a, b, _⟩ := at_ i s e; ⟨z, a, b⟩, fun i j p ds es ne h1 _ _ => ?_⟩
      obtain ⟨_, _, _, z⟩ := at_ i _ h1
      exact absurd rfl (z ds)
    have gos : ∀ {H' G' : Hp}, Cr ⟨none, some y, H, G⟩ H' G' → GoS y H G H' G' := fun {H' G'} a => ⟨fun b o q ne => a.keep b o q .non fun z => ne (Option.some.inj z).symm, a.grow, a.sub, a.new⟩
    refine w' H G _ _ _ _ cr rs (hm ds F0 X0 hn hf) ⟨fun σ δ H' G' a b z q => ?_, fun _ _ _ _ _ _ _ q => q.elim, fun _ _ _ _ _ _ _ q => q.elim, fun _ _ _ _ _ _ _ q => q.elim, fun C' fs d σ δ H' G' a b z e q => hx C' fs d H' G' (gos a) e q⟩
    have q : selfIs C F0 δ := q
    cases δ with
    | nil => exact q.elim
    | cons sl rest =>
      cases sl with
      | self C' fs =>
        obtain ⟨rfl, q3⟩ := (show C' = C ∧ F0 fs from q)
        obtain ⟨u, u1, a', dx', fv, u2, u3, u4, u5, u6, u7⟩ := b.at_ 0 _ rfl
        have u3 : some y = some a' := u3
        cases u3
        exact hq fv fs H' G' dx' (gos a) u4 u5 u7 q3
      | _ => exact q.elim
end
/-- a class that others make: its __init__ -/
structure Mkr (P : Program) (w : World) (K : Fg) (mg : Str → Option Value) (base : Heap) (x : Str) (C : Addr) (k n : Nat) (ff : FI) : Prop where
  ok : ∃ (fI : Addr) (fd : FuncData) (ps : List Str), Mk K C fI ∧ FnOk P w K mg base (L2.CX P w) k fI fd ps (spI K n C ff) ∧ mg x = some (.ref C) ∧ Binds K fd ps []
end DL

set_option Elab.async false
set_option linter.all false
set_option maxRecDepth 100000
set_option maxHeartbeats 4000000
namespace DL
open PySem L2 PySem.Spec PyProof.Rows
theorem slot_pop : Slot "list" "pop" "list.pop" := .of (owner := "list") (n := "pop")
  (by rw [typeLookup_type, builtinLookup_eq_fast]; kernel_rfl) (by decide +kernel)
  (by decide +kernel) (by decide +kernel) (by first | exact .inl (by decide +kernel) | exact .inr (by decide +kernel))
  (by rw [isSubtype_type]; kernel_rfl)
theorem type_pop : typeOf (.builtin "list.pop") = pure (.type "method_descriptor") := by
  show builtinType _ = _
  rw [builtinType_eq_fast]
  kernel_rfl
theorem slot_append : Slot "list" "append" "list.append" := .of (owner := "list") (n := "append")
  (by rw [typeLookup_type, builtinLookup_eq_fast]; kernel_rfl) (by decide +kernel)
  (by decide +kernel) (by decide +kernel) (by first | exact .inl (by decide +kernel) | exact .inr (by decide +kernel))
  (by rw [isSubtype_type]; kernel_rfl)
theorem type_append : typeOf (.builtin "list.append") = pure (.type "method_descriptor") := by
  show builtinType _ = _
  rw [builtinType_eq_fast]
  kernel_rfl

/-! ### the signs of a text, walked -/
def sigD (z : Str) : List D := z.cps.toList.map fun c => D.str ⟨#[c]⟩
theorem walk_s {K : Fg} {G : Hp} {z : Str} : IsWalk K G (Its z) (sigD z) := fun i H G' s s' => by
  refine ⟨fun d e => ?_, fun e => ?_⟩
  · unfold sigD at e
    rw [List.getElem?_map, Array.getElem?_toList] at e
    cases hc : z.cps[i]? with
    | none => rw [hc] at e; cases e
    | some c =>
      rw [hc] at e
      cases e
      have hi : i < z.cps.size := by
        obtain ⟨h, _⟩ := Array.getElem?_eq_some_iff.mp hc
        exact h
      refine ⟨hi, fun x H' ⟨e1, c2, e2, e3⟩ => ?_⟩
      rw [hc] at e2
      cases e2
      subst e1 e3
      exact ⟨G', Go.refl s' .no, .str _⟩
  · unfold sigD at e
    rw [List.length_map, Array.length_toList] at e
    exact Nat.le_of_eq e.symm
def miZ (ma : ME) : MA := fun δ F X => ma δ (fun d => match d with
  | .str z => F (sigD z)
  | _ => False) X
section
variable {X : Cx} {c : Ct} {W : WX} {e tg : Expr} {ma : ME} {ta : TE}
theorem di_str (h : DE X c W e ta ma) : DI X c W tg e (iStr ta) (miZ ma) := by
  obtain ⟨p, w⟩ := h
  refine ⟨pi_str p, fun H G σ δ F X R cr rs h q x => ?_⟩
  refine w H G σ δ _ _ _ cr rs h (fun v d H' G' g r f => ?_) x
  split at f
  · exact ⟨_, r.str_of, q _ _ H' G' g walk_s f⟩
  · exact f.elim
end
end DL

set_option Elab.async false
set_option linter.all false
set_option maxRecDepth 100000
set_option maxHeartbeats 4000000
namespace DL
open PySem L2 PySem.Spec PyProof.Rows
/-! ### a list of anything against [] -/
def rEqE (K : Fg) : R2 := fun x y H Q => ∃ a b xs, x = .ref a ∧ y = .ref b ∧ xs ≠ [] ∧ SqL K H a xs ∧ SqL K H b [] ∧ Q (.bl false) H
def rNeE (K : Fg) : R2 := fun x y H Q => ∃ a b xs, x = .ref a ∧ y = .ref b ∧ xs ≠ [] ∧ SqL K H a xs ∧ SqL K H b [] ∧ Q (.bl true) H
section
variable {X : Cx}
theorem sizes_ne {xs : List V} {us ws : List Value} (n : xs ≠ []) (r1 : Vals xs us) (r2 : Vals [] ws) : (us.toArray.size != ws.toArray.size) = true := by
  cases r2
  cases r1 with
  | nil => exact absurd rfl n
  | cons _ _ => simp
theorem op_eqE (hu : X.A.units < cLine) : OpR X (compareOp .Eq) (rEqE X.K) := by
  intro pins s σ H x y v u Q I rx ry h
  obtain ⟨a, b, xs, rfl, rfl, n, ha, hb, q⟩ := h
  cases (show v = Value.ref a from rx)
  cases (show u = Value.ref b from ry)
  obtain ⟨us, r1, p1, _⟩ := I.list ha
  obtain ⟨ws, r2, p2, _⟩ := I.list hb
  exact PySem.SeqAt.eq_list_lengthsAt p1.isList p2.isList (sizes_ne n r1 r2) hu ⟨.bl false, H, I, rfl, q⟩
theorem op_neE (hu : X.A.units < cLine) : OpR X (compareOp .NotEq) (rNeE X.K) := by
  intro pins s σ H x y v u Q I rx ry h
  obtain ⟨a, b, xs, rfl, rfl, n, ha, hb, q⟩ := h
  cases (show v = Value.ref a from rx)
  cases (show u = Value.ref b from ry)
  obtain ⟨us, r1, p1, _⟩ := I.list ha
  obtain ⟨ws, r2, p2, _⟩ := I.list hb
  exact PySem.SeqAt.RcNeAt.lists_lengths p1.isList p2.isList (sizes_ne n r1 r2) hu X.prog X.w _ _ ⟨.bl true, H, I, rfl, q⟩
def rEqL (K : Fg) : R2 := fun x y H Q => rEqD K x y H Q ∨ rEqE K x y H Q
def rNeL (K : Fg) : R2 := fun x y H Q => rNeD K x y H Q ∨ rNeE K x y H Q
theorem op_eqL (hu : X.A.units + 64 < cLine) : OpR X (compareOp .Eq) (rEqL X.K) := (op_eqD hu).or (op_eqE (by omega))
theorem op_neL (hu : X.A.units + 64 < cLine) : OpR X (compareOp .NotEq) (rNeL X.K) := (op_neD hu).or (op_neE (by omega))
end
def gEqL (d e : D) (F : D → Prop) : Prop := match d, e with
  | .lst xs, .lst [] => F (.bl xs.isEmpty)
  | _, _ => False
def gNeL (d e : D) (F : D → Prop) : Prop := match d, e with
  | .lst xs, .lst [] => F (.bl (!xs.isEmpty))
  | _, _ => False
theorem rd_eqL {K : Fg} : RD K (rEqL K) gEqL := fun H G x y d e F Q s rx ry h k => by
  unfold gEqL at h
  split at h
  · rename_i xs
    obtain ⟨a, vs, e1, g1, r1⟩ := rx.lst_of
    obtain ⟨b, ws, e2, g2, r2⟩ := ry.lst_of
    cases r2
    cases r1 with
    | nil => exact .inl ⟨.list [], .list [], by rw [e1]; exact .lst (SqL.of (s _ _ g1)) .nil, by rw [e2]; exact .lst (SqL.of (s _ _ g2)) .nil, rfl, rfl, k _ _ H G (Go.refl s .no) (.bl _) h⟩
    | cons c1 c2 => exact .inr ⟨a, b, _, e1, e2, List.cons_ne_nil _ _, SqL.of (s _ _ g1), SqL.of (s _ _ g2), k _ _ H G (Go.refl s .no) (.bl _) h⟩
  · exact h.elim
theorem rd_neL {K : Fg} : RD K (rNeL K) gNeL := fun H G x y d e F Q s rx ry h k => by
  unfold gNeL at h
  split at h
  · rename_i xs
    obtain ⟨a, vs, e1, g1, r1⟩ := rx.lst_of
    obtain ⟨b, ws, e2, g2, r2⟩ := ry.lst_of
    cases r2
    cases r1 with
    | nil => exact .inl ⟨.list [], .list [], by rw [e1]; exact .lst (SqL.of (s _ _ g1)) .nil, by rw [e2]; exact .lst (SqL.of (s _ _ g2)) .nil, rfl, rfl, k _ _ H G (Go.refl s .no) (.bl _) h⟩
    | cons c1 c2 => exact .inr ⟨a, b, _, e1, e2, List.cons_ne_nil _ _, SqL.of (s _ _ g1), SqL.of (s _ _ g2), k _ _ H G (Go.refl s .no) (.bl _) h⟩
  · exact h.elim
end DL

set_option Elab.async false
set_option linter.all false
set_option maxRecDepth 100000
set_option maxHeartbeats 4000000
namespace DL
open PySem L2 PySem.Spec PyProof.Rows
/-! ### what is never reached -/
section
variable {X : Cx} {c : Ct} {W : WX} {st : Stmt} {e a b : Expr} {es : List Expr} {pos p p2 q : Pos} {ma : ME} {ta : TE} {mr : MA} {tr : TA}
theorem ds_never : DS X c W st (fun _ _ _ => False) (fun _ _ => False) := ⟨⟨fun _ _ _ _ _ _ h => h.elim⟩, fun _ _ _ _ _ _ _ _ h _ => h.elim⟩
theorem de_never : DE X c W e (fun _ _ _ => False) (fun _ _ _ => False) := ⟨⟨fun _ _ _ _ _ _ h => h.elim⟩, fun _ _ _ _ _ _ _ _ _ h _ _ => h.elim⟩
/-! ### sorted(set(x)) of an empty list -/
def gSort0 (d : D) (F : D → Prop) : Prop := match d with
  | .lst [] => F (.lst [])
  | _ => False
theorem de_sortSet0 (hc : X.calm = true) (hu : X.A.units + 64 < cLine) (hg : Gl X "sorted") (hm : X.mg "sorted" = none) (hg2 : Gl X "set") (hm2 : X.mg "set" = none) (ha : DE X c W a ta ma)
    (h2 : starEach [a] X.env = (false, eval a X.env) :: starEach [] X.env := by rfl)
    (h1 : starEach [.Call (.Name "set" p2) [a] [] q] X.env = (false, eval (.Call (.Name "set" p2) [a] [] q) X.env) :: starEach [] X.env := by rfl) :
    DE X c W (.Call (.Name "sorted" p) [.Call (.Name "set" p2) [a] [] q] [] pos) (tCB (rSortedT X.K X.prog X.w) (tCons (tCB (rSetOfT X.K X.prog X.w) (tCons ta tNil)) tNil)) (fun δ F Y => ma δ (fun d => gSort0 d F) Y) := by
  refine ⟨pe_callB (cr_sortedT hc) hg hm (by decide +kernel) (pa_cons (pe_callTy (cr_setOfT hc hu) hg2 hm2 (by decide +kernel) (pa_cons ha.p pa_nil h2) (by decide) (by decide) h2 (by rfl)) pa_nil h1) (by decide) (by decide) h1 (by rfl), fun H G σ δ F Y Q cr rs h k x => ?_⟩
  refine ha.w H G σ δ _ _ _ cr rs h (fun v d H1 G1 g1 r1 f => ?_) x
  unfold gSort0 at f
  split at f
  · obtain ⟨l, xs, rfl, h3, r2⟩ := r1.lst_of
    cases r2
    refine ⟨l, [], rfl, SqL.of (g1.sub _ _ h3), (fun _ z => by cases z), by decide, fun s L hs hL _ => ?_⟩
    have e : L = [] := List.eq_nil_iff_forall_not_mem.mpr fun z hz => by cases hL z hz
    subst e
    refine ⟨s, [], 1, 0, rfl, upd_same, (fun _ z => by cases z), by decide, (fun _ z => by cases z), fun L' t hp _ _ _ ht => ?_⟩
    have e : L' = [] := List.perm_nil.mp hp
    subst e
    have g2 := Go.mine (o := SetTO X.prog X.w s []) g1.sub hs
    have g3 := Go.laid (o := .lst []) g2.sub ht
    exact k (.ref t) (.lst []) _ _ ((g1.trans (g2.lift g1.deal)).trans (g3.lift (g2.lift g1.deal).deal)) (.lst upd_same .nil) f
  · exact f.elim
end

/-! ### two loops in one list, the outer one over nothing -/
section
variable {X : Cx} {c : Ct} {W : WX} {elt iter tg iter1 tg1 : Expr} {scope : Scope} {own : List (Str × Nat)} {pos : Pos} {ti : TI} {mi : MA}
theorem de_lc2E (hc : X.calm = true) (hN : X.N.Nodup) (hi : DIC X c W tg iter ti mi) (ok : BlkOk X.N X.env.scope scope own) (hs : ∀ x, foldedSetIterable iter X.env x = pure x := by intro _; rfl) (hs1 : ∀ env x, foldedSetIterable iter1 env x = pure x := by intro _ _; rfl) :
    DE X c W (.ListComp elt [⟨tg, iter, [], 0⟩, ⟨tg1, iter1, [], 0⟩] scope pos) (tLc2 ti (fun _ _ _ _ => False) tYes (fun _ _ _ => False) (fun _ _ _ _ => False) tYes (fun _ _ _ => False) (own.map (·.2)) []) (fun δ F Y => mi δ (fun ds => ds = [] ∧ F (.lst [])) Y) := by
  refine ⟨pe_lc2 hc hN hi.p ok (fun _ z => by cases z) (fun _ _ _ _ _ => ⟨fun _ _ _ _ _ _ _ _ _ h => h.elim⟩) (fun _ _ _ _ _ => pts_nil) (fun _ _ _ _ _ => ⟨fun _ _ _ _ _ _ h => h.elim⟩) (fun _ _ _ _ _ => ⟨fun _ _ _ _ _ _ _ _ _ h => h.elim⟩) (fun _ _ _ _ _ => pts_nil) (fun _ _ _ _ _ => ⟨fun _ _ _ _ _ _ h => h.elim⟩) hs hs1, fun H G σ δ F Y Q cr rs h q x => ?_⟩
  refine hi.w H G σ δ _ _ _ cr rs h (fun J ds H1 G1 g1 wk f => ?_) x
  obtain ⟨rfl, f⟩ := f
  intro D hD
  refine ⟨fun i m H' => i = 0 ∧ H' = upd H1 D (.lst []), ⟨0, rfl, rfl⟩, ?_⟩
  rintro i m H2 ⟨rfl, rfl⟩
  have g2 := Go.laid (o := .lst []) g1.sub hD
  have g3 := g2.lift g1.deal
  exact .inl ⟨(wk 0 _ _ g3).2 rfl, q (.ref D) (.lst []) _ _ (g1.trans g3) (.lst upd_same .nil) f⟩
end

section
variable {X : Cx} {c : Ct} {W : WX} {ss : List Stmt} {es : List Expr} {elt iter tg : Expr} {ifs : List Expr} {scope : Scope} {own : List (Str × Nat)} {pos : Pos} {ti : TI} {mi : MA} {is : List Nat} {tgg : Shared → Hp → Addr → List (Str × Addr) → List Addr → TG} {mg : Shared → Hp → Addr → List (Str × Addr) → List Addr → MG}
  {tt : Shared → Hp → Addr → List (Str × Addr) → List Addr → TT} {mt : Shared → Hp → Addr → List (Str × Addr) → List Addr → MT} {te : Shared → Hp → Addr → List (Str × Addr) → List Addr → TE} {me : Shared → Hp → Addr → List (Str × Addr) → List Addr → ME}
theorem dss_never : DSs X c W ss (fun _ _ _ => False) (fun _ _ => False) := ⟨⟨fun _ _ _ _ _ _ h => h.elim⟩, fun _ _ _ _ _ _ _ _ h _ => h.elim⟩
theorem dts_never : DTs X c W es (fun _ _ _ => False) (fun _ _ _ => False) := ⟨⟨fun _ _ _ _ _ _ h => h.elim⟩, fun _ _ _ _ _ _ _ _ _ h _ _ => h.elim⟩
theorem ds_setLcF (i : Nat) {y : Str} {py spos : Pos} (hc : X.calm = true) (hN : X.N.Nodup) (hy : X.N[i]? = some y) (hyl : X.env.scope.names.lookup y = some .local)
    (hsw : swapsWith (.ListComp elt [⟨tg, iter, ifs, 0⟩] scope pos) (some (.Name y py)) spos.line X.env = pure true) (hi : DIC X c W tg iter ti mi) (ok : BlkOk X.N X.env.scope scope own) (hv : ∀ i ∈ is, i ∈ own.map (·.2))
    (hg : ∀ (s : Shared) (H : Hp) (C : Addr) (cl : List (Str × Addr)) (fp : List Addr), DG (Blk X scope s H C cl fp) tg (tgg s H C cl fp) is (mg s H C cl fp))
    (ht : ∀ (s : Shared) (H : Hp) (C : Addr) (cl : List (Str × Addr)) (fp : List Addr), DTs (Blk X scope s H C cl fp) c W0 ifs (tt s H C cl fp) (mt s H C cl fp))
    (he : ∀ (s : Shared) (H : Hp) (C : Addr) (cl : List (Str × Addr)) (fp : List Addr), DE (Blk X scope s H C cl fp) c W0 elt (te s H C cl fp) (me s H C cl fp))
    (hs : ∀ x, foldedSetIterable iter X.env x = pure x := by intro _; rfl)
    (q1 : ∀ s H C cl fp, tgg s H C cl fp = z5 tgg := by intros; rfl) (q2 : ∀ s H C cl fp, mg s H C cl fp = z5 mg := by intros; rfl) (q3 : ∀ s H C cl fp, tt s H C cl fp = z5 tt := by intros; rfl)
    (q4 : ∀ s H C cl fp, mt s H C cl fp = z5 mt := by intros; rfl) (q5 : ∀ s H C cl fp, te s H C cl fp = z5 te := by intros; rfl) (q6 : ∀ s H C cl fp, me s H C cl fp = z5 me := by intros; rfl) :
    DS X c W (.Assign [.Name y py] (.ListComp elt [⟨tg, iter, ifs, 0⟩] scope pos) spos) (tAsg (tLc ti (z5 tgg) (z5 tt) (z5 te) (own.map (·.2))) (gName i)) (msSet i (mLc mi (z5 mg) (z5 mt) (z5 me) (own.map (·.2)))) :=
  ds_setLc i hc hN hy hyl hsw hi ok hv (fun s H C cl fp => by rw [← q1 s H C cl fp, ← q2 s H C cl fp]; exact hg s H C cl fp) (fun s H C cl fp => by rw [← q3 s H C cl fp, ← q4 s H C cl fp]; exact ht s H C cl fp)
    (fun s H C cl fp => by rw [← q5 s H C cl fp, ← q6 s H C cl fp]; exact he s H C cl fp) hs
end
end DL

set_option Elab.async false
set_option linter.all false
set_option maxRecDepth 100000
set_option maxHeartbeats 4000000
namespace DL
open PySem L2 PySem.Spec PyProof.Rows
/-- a class that others make, with the defaults that fill up -/
structure MkrD (P : Program) (w : World) (K : Fg) (mg : Str → Option Value) (base : Heap) (x : Str) (C : Addr) (k n : Nat) (ff : FI) (dvs : List V) (dd : List D) : Prop where
  ok : ∃ (fI : Addr) (fd : FuncData) (ps : List Str) (ds : List Value), Mk K C fI ∧ FnOk P w K mg base (L2.CX P w) k fI fd ps (spI K n C ff) ∧ mg x = some (.ref C) ∧ Vals dvs ds ∧ Binds K fd ps ds ∧ ∀ G, RepL K G dvs dd
section
variable {X : Cx} {c : Ct} {E : XK} {e : Expr} {es : List Expr} {pos p : Pos} {x : Str} {mr : MA} {tr : TA} {C : Addr} {k n : Nat} {dvs : List V} {dd : List D} {ff : FI}
theorem de_mk (M : Mkr X.prog X.w X.K X.mg X.base x C k n ff) (hr : Room (k + 1) X.A) (hg : Gl X x) (tk : Takes X (WF E)) (ha : DA X c (WF E) (e :: es) tr mr)
    (hdb : (x == ("__debug__" : Str)) = false := by decide) (he : starEach (e :: es) X.env = (false, eval e X.env) :: starEach es X.env := by rfl) (hpl : (backTo pos (starEach es X.env)).any (·.1) = false := by rfl) :
    DE X c (WF E) (.Call (.Name x p) (e :: es) [] pos) (tMake C (spI X.K n C ff) [] (fun cls d H => ∀ σ, WF E cls d σ H) tr) (mMake C ff [] n mr) := by
  obtain ⟨fI, fd, ps, m, F, hm, hb⟩ := M.ok
  exact de_make m F hr hg hm hb .nil (fun _ => .nil) tk (fun _ _ _ _ _ h => h) ha hdb he hpl
theorem de_mkD (M : MkrD X.prog X.w X.K X.mg X.base x C k n ff dvs dd) (hr : Room (k + 1) X.A) (hg : Gl X x) (tk : Takes X (WF E)) (ha : DA X c (WF E) (e :: es) tr mr)
    (hdb : (x == ("__debug__" : Str)) = false := by decide) (he : starEach (e :: es) X.env = (false, eval e X.env) :: starEach es X.env := by rfl) (hpl : (backTo pos (starEach es X.env)).any (·.1) = false := by rfl) :
    DE X c (WF E) (.Call (.Name x p) (e :: es) [] pos) (tMake C (spI X.K n C ff) dvs (fun cls d H => ∀ σ, WF E cls d σ H) tr) (mMake C ff dd n mr) := by
  obtain ⟨fI, fd, ps, ds, m, F, hm, hd, hb, hdd⟩ := M.ok
  exact de_make m F hr hg hm hb hd hdd tk (fun _ _ _ _ _ h => h) ha hdb he hpl
end
end DL

set_option Elab.async false
set_option linter.all false
set_option maxRecDepth 100000
set_option maxHeartbeats 4000000
namespace DL
open PySem L2 PySem.Spec PyProof.Rows
section
variable {X : Cx} {c : Ct} {W : WX} {pos pos' : Pos} {x : Str} {C : Addr}
abbrev ob0 : Obj := { cls := .none, data := .fields #[] }
theorem ds_tryF (i : Nat) {n : Str} {np : Pos} {body suite : List Stmt} {b0 : Stmt} {tb : WX → List (Addr × Obj) → (Value → Shared → Prop) → TS} {ts : Addr → Obj → Option Addr → List (Addr × Obj) → TS} {mb : WX → List (Addr × Obj) → (Value → Shared → Prop) → MS} {ms : Addr → Obj → Option Addr → List (Addr × Obj) → MS} {cv : Value}
    (hs : X.stack = X.env :: X.outer) (hf : X.env.frame = some X.env.locals) (hN : X.N.Nodup) (hi : X.N[i]? = some n) (hln : X.env.kindOf n = some .local) (hc : Names X x cv) (tk : Takes X W)
    (hC : PySem.W.exmOne X.K (.ref C) cv = some true)
    (hb : ∀ (W2 : WX) (pn : List (Addr × Obj)) (xe : Value → Shared → Prop), Takes (X.tr pn xe) W2 → DSs (X.tr pn xe) c W2 body (tb W2 pn xe) (mb W2 pn xe))
    (hsu : ∀ (a : Addr) (oe : Obj) (d : Option Addr) (pn : List (Addr × Obj)), Zc (.ref C) d oe → (∃ vs, oe.data = .fields vs) → DSs (X.suite a ((a, oe) :: pn)) c W0 (b0 :: suite) (ts a oe d pn) (ms a oe d pn))
    (q1 : ∀ W2 pn xe, tb W2 pn xe = tb W2 [] X.xe := by intros; rfl) (q2 : ∀ W2 pn xe, mb W2 pn xe = mb W0 [] X.xe := by intros; rfl)
    (q3 : ∀ a oe d pn, ts a oe d pn = ts a ob0 d [] := by intros; rfl) (q4 : ∀ a oe d pn, ms a oe d pn = ms a ob0 d [] := by intros; rfl) :
    DS X c W (.Try body [.ExceptHandler (some (.Name x np)) (some n) (b0 :: suite) pos'] [] [] pos) (fun Y σ H => tb (wAs X.K cv i (tsOnly C fun a d => ts a ob0 d []) W Y) [] X.xe Y σ H) (msTry X.K i C cv (mb W0 [] X.xe) fun a d => ms a ob0 d []) :=
  ds_try i (pos2 := pos) (tb := fun W2 => tb W2 [] X.xe) (ts := fun a d => ts a ob0 d []) hs hf hN hi hln hc tk hC (fun W2 pn xe t => by rw [← q1 W2 pn xe, ← q2 W2 pn xe]; exact hb W2 pn xe t)
    (fun a oe d pn hz h => by rw [← q3 a oe d pn, ← q4 a oe d pn]; exact hsu a oe d pn hz h)
end
end DL

set_option Elab.async false
set_option linter.all false
set_option maxRecDepth 100000
set_option maxHeartbeats 4000000
namespace DL
open PySem L2 PySem.Spec PyProof.Rows
/-! ### more of integers -/
abbrev gGe : D → D → (D → Prop) → Prop := gI0 fun i j => .bl (decide (j ≤ i))
abbrev gGt : D → D → (D → Prop) → Prop := gI0 fun i j => .bl (decide (j < i))
theorem rd_ge {K : Fg} : RD K (rI0 fun i j => .bl (decide (j ≤ i))) gGe := rd_I0 fun i j G => .bl _
theorem rd_gt {K : Fg} : RD K (rI0 fun i j => .bl (decide (j < i))) gGt := rd_I0 fun i j G => .bl _
abbrev gMod : D → D → (D → Prop) → Prop := gI (fun _ j => 0 < j) fun i j => .int (i % j)
theorem rd_mod {K : Fg} : RD K (rI (fun _ j => 0 < j) fun i j => .int (i % j)) gMod := rd_I fun i j G => .int _
abbrev gPow : D → D → (D → Prop) → Prop := gI CPow fun i j => .int (i ^ j.toNat)
theorem rd_pow {K : Fg} : RD K (rI CPow fun i j => .int (i ^ j.toNat)) gPow := rd_I fun i j G => .int _
/-! ### loops by what stays true -/
theorem forD_inv {mg : MG} {mb : MS} {k : MK} (I : List Sl → Prop) : ∀ (ds : List D) (δ : List Sl), (∀ d ∈ ds, ∀ δ, I δ → ∀ k' : MK, (∀ δ2, I δ2 → k'.nx δ2) → mg d δ fun δ' => mb δ' k') → I δ → (∀ δ, I δ → k.nx δ) → forD mg mb ds δ k
  | [], δ, _, i, h => h δ i
  | d :: ds, δ, st, i, h => by
    refine st d (by simp) δ i _ fun δ2 i2 => ?_
    exact forD_inv I ds δ2 (fun e he => st e (by simp [he])) i2 h
/-! ### own lists -/
theorem flat_rep {K : Fg} {G G' : Hp} {v : V} {d : D} (r : Rep K G v d) (h : flatD d = true) : Rep K G' v d := by
  cases r with
  | non => exact .non
  | bl b => exact .bl b
  | int i => exact .int i
  | str x => exact .str x
  | _ => cases h
theorem notDl_own {c : Ct} {H G : Hp} (cr : Cr c H G) {p : Addr} (h : c.He p = none) : NotDl c.dl p := fun p' l' e => by
  obtain ⟨h1, h2⟩ := cr.he p' l' e
  exact ⟨fun z => h1 (z ▸ h), fun z => h2 (z ▸ h)⟩
/-- known for the time of a call -/
theorem Go.lend {dl : Dl} {H G H' G' : Hp} {p : Addr} {o : HO} (s : Same G H) (d : DlOk dl H G) (hp : H p = some o) (np : G p = none) (b : Go none H (upd G p o) H' G') : Go dl H G H' G where
  keep := fun a u h _ => b.keep a u h .non
  grow := Same.refl _
  sub := fun a u h => b.keep a u (s _ _ h) .non
  new := fun _ _ h => .inl h
  deal := fun p' l' e => by
    obtain ⟨⟨ns, m, h1, h2, h3⟩, g1, g2⟩ := d p' l' e
    exact ⟨⟨ns, m, b.keep _ _ h1 .non, b.keep _ _ h2 .non, h3⟩, g1, g2⟩
def mCallO (j : Nat) (ff : FF) (ma : ME) : ME := fun δ F X => ma δ (fun d => match δ[j]? with
  | some (.own bs) => ff [d, .lst bs] (fun r => flatD r = true ∧ F r) (fun _ => False)
  | _ => False) X
section
variable {X : Cx} {c : Ct} {W : WX} {e a b tg : Expr} {es : List Expr} {pos p : Pos} {x : Str} {k n : Nat} {ff : FF} {ma mb me : ME} {mr : MA} {ta tb te : TE} {tr : TA} {K : Fg}
theorem we_callO {j : Nat} (wa : WE K c W ta ma) : WE K c W (tCallSD (spD K 2 false ff) [] (fun σ cls d H => W cls d σ H) (tCons ta (tCons (tVar j) tNil))) (mCallO j ff ma) := fun H G σ δ F X Q cr rs h q x => by
  refine wa H G σ δ _ _ _ cr rs h (fun v d H1 G1 g1 r1 h1 => ?_) x
  have rs1 := rs.step cr g1
  have cr1 := cr.step g1
  split at h1
  · rename_i bs ej
    obtain ⟨y, q1, p', ys, q2, q3, q4, q5, q6⟩ := rs1.at_ _ _ ej
    subst q2
    refine ⟨_, q1, ?_⟩
    have sm : Same G1 (upd G1 p' (.lst ys)) := fun a u z => by rw [upd_ne (ne_of_none z q4)]; exact z
    have sub : Same (upd G1 p' (.lst ys)) H1 := fun a u z => by
      by_cases e : a = p'
      · subst e
        rw [upd_same] at z
        cases z
        exact q3
      · rw [upd_ne e] at z
        exact g1.sub _ _ z
    refine ⟨upd G1 p' (.lst ys), [d, .lst bs], none, [v, .ref p'], _, _, rfl, ⟨rfl, rfl⟩, sub, .no, .cons (r1.mono sm) (.cons (.lst upd_same (q6.mono sm)) .nil), h1, fun v2 d2 H2 G2 g2 r2 f2 => ?_, fun _ _ _ _ _ _ _ f2 => f2.elim⟩
    exact q v2 d2 H2 G1 (g1.trans (Go.lend g1.sub g1.deal q3 q4 g2)) (flat_rep r2 f2.1) f2.2
  · exact h1.elim
theorem de_fO (j : Nat) {z : Str} {zp : Pos} (C : Fn X.prog X.w X.K X.mg X.base x k 2 false ff) (hr : Room k X.A) (hg : Gl X x) (tk : Takes X W)
    (ha : DE X c W e ta ma) (hz : PE X (.Name z zp) (tVar j)) (hdb : (x == ("__debug__" : Str)) = false := by decide) (he1 : starEach [.Name z zp] X.env = [(false, eval (.Name z zp) X.env)] := by rfl) (he : starEach [e, .Name z zp] X.env = (false, eval e X.env) :: starEach [.Name z zp] X.env := by rfl) (hpl : (backTo pos (starEach [.Name z zp] X.env)).any (·.1) = false := by rfl) :
    DE X c W (.Call (.Name x p) [e, .Name z zp] [] pos) (tCallSD (spD X.K 2 false ff) [] (fun σ cls d H => W cls d σ H) (tCons ta (tCons (tVar j) tNil))) (mCallO j ff ma) := by
  obtain ⟨f, fd, ps, F, hm, hk, hb⟩ := C.ok
  exact ⟨pe_callSD F hr hg hm hk hb .nil (passAt tk) (pa_cons ha.p (pa_cons hz pa_nil he1) he) hdb he hpl, we_callO ha.w⟩
/-- len of an own list -/
def mLenO (j : Nat) : ME := fun δ F _ => match δ[j]? with
  | some (.own bs) => F (.int bs.length)
  | _ => False
abbrev rLenX (K : Fg) : List V → Hp → VK → Prop := fun xs H Q => ∃ x n, xs = [x] ∧ LenV K x H n ∧ Q (.int n) H
theorem de_lenO (j : Nat) {z : Str} {zp : Pos} (hg : Gl X "len") (hm : X.mg "len" = none) (hv : bootBuiltins "len" = some (.builtin "len")) (hz : PE X (.Name z zp) (tVar j)) (he1 : starEach [.Name z zp] X.env = [(false, eval (.Name z zp) X.env)] := by rfl) :
    DE X c W (.Call (.Name "len" p) [.Name z zp] [] pos) (tCB (rLenX X.K) (tCons (tVar j) tNil)) (mLenO j) := by
  refine ⟨pe_callB call_len hg hm hv (pa_cons hz pa_nil he1), fun H G σ δ F Y Q cr rs h q _ => ?_⟩
  unfold mLenO at h
  split at h
  · rename_i bs ej
    obtain ⟨y, q1, p', ys, q2, q3, q4, q5, q6⟩ := rs.at_ _ _ ej
    subst q2
    refine ⟨_, q1, _, ys.length, rfl, Or.inl ⟨_, SqL.of q3, rfl⟩, ?_⟩
    refine q _ _ H G cr.rfl' (.int _) ?_
    rw [q6.length]
    exact h
  · exact h.elim
/-- xs[i] = e, xs an own list -/
theorem Cr.setOwn {H G : Hp} (cr : Cr c H G) {p : Addr} {xs ys : List V} (h1 : H p = some (.lst xs)) (h2 : G p = none) (h3 : c.He p = none) : Cr c (upd H p (.lst ys)) G where
  keep := fun a o z nd m => by rw [upd_ne (ne_of_none z h3)]; exact cr.keep a o z nd m
  grow := cr.grow
  sub := fun a o z => by rw [upd_ne (ne_of_none z h2)]; exact cr.sub a o z
  new := cr.new
  dlok := fun p' l' e => by
    obtain ⟨⟨ns, m, q1, q2, q3⟩, g1, g2⟩ := cr.dlok p' l' e
    obtain ⟨n1, n2⟩ := notDl_own cr h3 p' l' e
    exact ⟨⟨ns, m, by rw [upd_ne (Ne.symm n1)]; exact q1, by rw [upd_ne (Ne.symm n2)]; exact q2, q3⟩, g1, g2⟩
  he := cr.he
  sfo := fun a e => by
    obtain ⟨C, dx, fv, z⟩ := cr.sfo a e
    refine ⟨C, dx, fv, ?_⟩
    rw [upd_ne (fun y => by rw [y, h1] at z; cases z)]
    exact z
theorem RS.setOwn {H G : Hp} {σ : L2.St} {δ : List Sl} (r : RS K c H G σ δ) (cr : Cr c H G) {j : Nat} {p : Addr} {xs ys : List V} {ds es : List D} (hj : δ[j]? = some (.own ds)) (hs : σ[j]? = some (some (.ref p))) (h1 : H p = some (.lst xs)) (h2 : G p = none) (h3 : c.He p = none) (rl : RepL K G ys es) :
    RS K c (upd H p (.lst ys)) G σ (δ.set j (.own es)) where
  len := by rw [List.length_set]; exact r.len
  at_ := fun i t e => by
    by_cases hij : j = i
    · subst hij
      have hl : j < δ.length := (List.getElem?_eq_some_iff.mp hj).1
      rw [List.getElem?_set_self hl] at e
      cases e
      exact ⟨_, hs, p, ys, rfl, upd_same, h2, h3, rl⟩
    · rw [List.getElem?_set_ne hij] at e
      obtain ⟨x, q1, q2⟩ := r.at_ i t e
      refine ⟨x, q1, ?_⟩
      cases t with
      | un => trivial
      | dat d => exact q2
      | own fs =>
        obtain ⟨p', xs', a1, a2, a3, a4, a5⟩ := q2
        subst a1
        have ne : p' ≠ p := fun z => by
          subst z
          exact r.sep j i p' ds fs hij hj e hs q1
        exact ⟨p', xs', rfl, by rw [upd_ne ne]; exact a2, a3, a4, a5⟩
      | deal => exact q2
      | exn a C d fs => exact q2
      | self C fs =>
        obtain ⟨a, dx, fv, a1, a2, a3, a4, a5⟩ := q2
        refine ⟨a, dx, fv, a1, a2, ?_, a4, a5⟩
        rw [upd_ne (fun z => by rw [z, h1] at a3; cases a3)]
        exact a3
  sep := fun i k q ds' fs n e1 e2 h => by
    have up : ∀ (i : Nat) (ds' : List D), (δ.set j (.own es))[i]? = some (.own ds') → ∃ ds2, δ[i]? = some (.own ds2) := fun i ds' e => by
      by_cases hij : j = i
      · subst hij
        exact ⟨_, hj⟩
      · rw [List.getElem?_set_ne hij] at e
        exact ⟨_, e⟩
    obtain ⟨_, z1⟩ := up i ds' e1
    obtain ⟨_, z2⟩ := up k fs e2
    exact r.sep i k q _ _ n z1 z2 h
def msSetO (j : Nat) (me mi : ME) : MS := fun δ k => me δ (fun d => match δ[j]? with
  | some (.own ds) => mi δ (fun i => match i with
    | .int i => 0 ≤ i ∧ i < ds.length ∧ k.nx (δ.set j (.own (ds.set i.toNat d)))
    | _ => False) (fun x => k.rs x δ)
  | _ => False) (fun x => k.rs x δ)
theorem ixN_in {n : Nat} {i : Int} (h0 : 0 ≤ i) (h1 : i < n) : ixN n i = some i.toNat := by
  unfold ixN
  split <;> first | rfl | (split <;> first | rfl | omega) | omega
theorem ds_setO (j : Nat) {z : Str} {zp sp : Pos} {ti : TE} {mi : ME} {i : Expr} (hz : PE X (.Name z zp) (tVar j)) (he : DE X c W e te me) (hi : DE X c W i ti mi)
    (hp : PE X (.Name z zp) (tVar j) → PE X i ti → PG X (.Subscript (.Name z zp) i sp) (gSub (tVar j) ti rSetL) := by exact fun a b => pg_sub a b set_list)
    (hs : swapsWithSole [.Subscript (.Name z zp) i sp] e pos.line X.env = pure false := by rfl) (hw : swappedStores [.Subscript (.Name z zp) i sp] e X.env = pure none := by rfl)
    (h1 : (assignEach [.Subscript (.Name z zp) i sp] X.env).map (·.2) = [assign (.Subscript (.Name z zp) i sp) X.env] := by rfl) :
    DS X c W (.Assign [.Subscript (.Name z zp) i sp] e pos) (tAsg te (gSub (tVar j) ti rSetL)) (msSetO j me mi) := by
  refine ⟨ps_asg he.p (hp hz hi.p) hs hw h1, fun H G σ δ k Y cr rs h en => ?_⟩
  refine he.w H G σ δ _ _ _ cr rs h (fun v d H1 G1 g1 r1 h2 => ?_) (en.xw cr rs)
  have cr1 := cr.step g1
  have rs1 := rs.step cr g1
  split at h2
  · rename_i ds ej
    obtain ⟨y, q1, p0, _, q2, _⟩ := rs1.at_ _ _ ej
    subst q2
    refine ⟨_, q1, ?_⟩
    refine hi.w H1 G1 σ δ _ _ _ cr1 rs1 h2 (fun u b H2 G2 g2 r2 h3 => ?_) ((en.mono g1.grow).xw cr1 rs1)
    split at h3
    · rename_i n
      obtain ⟨n0, n1, h3⟩ := h3
      have cr2 := cr1.step g2
      have rs2 := rs1.step cr1 g2
      obtain ⟨y, u1, p', ys, u2, u3, u4, u5, u6⟩ := rs2.at_ _ _ ej
      rw [q1] at u1
      cases u1
      cases u2
      refine ⟨p0, ys, n, n.toNat, rfl, r2.int_of, u3, ixN_in n0 (by rw [u6.length]; exact n1), ?_⟩
      have r1' := r1.mono g2.grow
      exact en.nx _ _ _ G2 (cr2.setOwn u3 u4 u5) (rs2.setOwn cr2 ej q1 u3 u4 u5 (u6.set _ r1')) (g1.grow.trans g2.grow) h3
    · exact h3.elim
  · exact h2.elim
/-- a comprehension that is one's own -/
def moLc (mi : MA) (mg : MG) (mt : MT) (me : ME) (vs : List Nat) : MA := fun δ F X => mi δ (fun ds => ds.length < sizeLine ∧ lcD mg mt me (wipeD δ vs) F ds []) X
theorem wo_lc {wi : TI} {g : TG} {tt : TT} {is vs : List Nat} {mi : MA} {mg : MG} {mt : MT} (hv : ∀ i ∈ is, i ∈ vs) (ww : WIC K c W wi mi) (wg : WG K g is mg) (wt : WT K c W0 tt mt) (we : WE K c W0 te me) :
    WO K c W (tLc wi g tt te vs) (moLc mi mg mt me vs) := fun H G σ δ F X Q cr rs h q x => by
  refine ww H G σ δ _ X _ cr rs h (fun J ds H1 G1 g1 wk f => ?_) x
  obtain ⟨hz, f⟩ := f
  have cr1 := cr.step g1
  have rs1 := (rs.step cr g1).wipe vs
  intro D hD
  have nD : G1 D = none := by
    cases z : G1 D with
    | none => rfl
    | some o =>
      rw [g1.sub _ _ z] at hD
      cases hD
  refine ⟨fun i n H' => n = ds.length - i ∧ i ≤ ds.length ∧ ∃ G' acc rr, Go c.dl H1 G1 H' G' ∧ H' D = some (.lst acc) ∧ G' D = none ∧ RepL K G' acc rr ∧ acc.length ≤ i ∧ lcD mg mt me (wipeD δ vs) F (ds.drop i) rr,
    ⟨ds.length, by simp, Nat.zero_le _, G1, [], [], (Go.mine cr1.sub hD).lift cr1.dlok, upd_same, nD, .nil, Nat.le_refl _, f⟩, ?_⟩
  rintro i n H2 ⟨rfl, hi, G2, acc, rr, g2, hA, nG, ra, hl, f2⟩
  obtain ⟨w1, w2⟩ := wk i H2 G2 g2
  by_cases hlt : i < ds.length
  · right
    have hd : ds[i]? = some ds[i] := List.getElem?_eq_getElem hlt
    obtain ⟨go, y⟩ := w1 _ hd
    rw [List.drop_eq_getElem_cons hlt] at f2
    refine ⟨go, fun H' => ∃ G' acc rr, Go c.dl H1 G1 H' G' ∧ H' D = some (.lst acc) ∧ G' D = none ∧ RepL K G' acc rr ∧ acc.length ≤ i + 1 ∧ lcD mg mt me (wipeD δ vs) F (ds.drop (i + 1)) rr,
      fun H' z => ⟨ds.length - (i + 1), by omega, rfl, hlt, z⟩, fun v H3 hy => ?_⟩
    obtain ⟨G3, g3, r3⟩ := y v H3 hy
    have cr2 : Cr c H2 G2 := cr1.step g2
    have rs2 := rs1.step cr1 g2
    have g3' := g3.lift cr2.dlok
    have step : ∀ {H4 G4 : Hp}, Go c.dl H2 G2 H4 G4 → H4 D = some (.lst acc) ∧ G4 D = none := fun {H4 G4} g4 => by
      refine ⟨g4.keep _ _ hA fun p l e => ?_, ?_⟩
      · obtain ⟨⟨_, _, q1, q2, _⟩, _⟩ := cr1.dlok p l e
        exact ⟨fun z => (by rw [z, q1] at hD; cases hD), fun z => (by rw [z, q2] at hD; cases hD)⟩
      · cases z : G4 D with
        | none => rfl
        | some o => rcases g4.new _ _ z with y | y
                    · rw [nG] at y; cases y
                    · rw [hA] at y; cases y
    refine wg c H3 G3 (L2.wipe σ vs) (wipeD δ vs) v _ _ _ g3.sub (rs2.step cr2 g3') r3 f2 fun σ4 δ4 rs4 z4 f4 => ⟨?_, ?_⟩
    · rw [z4 vs hv]
      exact wipe_wipe σ vs vs fun _ h => h
    refine wt H3 G3 σ4 δ4 _ _ _ (cr2.step g3') rs4 f4 (fun b H5 G5 g5 f5 => ?_) XW.no
    have g5' := g3'.trans g5
    cases b with
    | true =>
      show te σ4 H5 _
      refine we H5 G5 σ4 δ4 _ _ _ ((cr2.step g3').step g5) (rs4.step (cr2.step g3') g5) f5 (fun u d H6 G6 g6 r6 f6 => ?_) XW.no
      have g6' := g5'.trans g6
      obtain ⟨h6, n6⟩ := step g6'
      refine ⟨acc, h6, Nat.lt_of_le_of_lt hl (Nat.lt_trans hlt hz), G6, acc ++ [u], rr ++ [d], (g2.trans g6').mut cr1.dlok hD n6, upd_same, n6, (ra.mono g6'.grow).append (.cons r6 .nil), ?_, f6⟩
      rw [List.length_append, List.length_singleton]
      omega
    | false =>
      show (if false = true then _ else _)
      refine iteF ?_
      obtain ⟨h6, n6⟩ := step g5'
      exact ⟨G5, acc, rr, g2.trans g5', h6, n6, ra.mono g5'.grow, by omega, f5⟩
  · left
    have he : i = ds.length := by omega
    refine ⟨w2 he, ?_⟩
    rw [he, List.drop_length] at f2
    exact q D acc rr H2 G2 (g1.trans g2) hA nG (g1.back cr.dlok hD) ra f2
end
section
variable {X : Cx} {c : Ct} {W : WX} {elt iter tg : Expr} {ifs : List Expr} {scope : Scope} {own : List (Str × Nat)} {pos : Pos} {ti : TI} {mi : MA} {is : List Nat} {tgg : Shared → Hp → Addr → List (Str × Addr) → List Addr → TG} {mg : Shared → Hp → Addr → List (Str × Addr) → List Addr → MG}
  {tt : Shared → Hp → Addr → List (Str × Addr) → List Addr → TT} {mt : Shared → Hp → Addr → List (Str × Addr) → List Addr → MT} {te : Shared → Hp → Addr → List (Str × Addr) → List Addr → TE} {me : Shared → Hp → Addr → List (Str × Addr) → List Addr → ME}
theorem ds_ownLcF (i : Nat) {y : Str} {py spos : Pos} (hc : X.calm = true) (hN : X.N.Nodup) (hy : X.N[i]? = some y) (hyl : X.env.scope.names.lookup y = some .local)
    (hsw : swapsWith (.ListComp elt [⟨tg, iter, ifs, 0⟩] scope pos) (some (.Name y py)) spos.line X.env = pure true) (hi : DIC X c W tg iter ti mi) (ok : BlkOk X.N X.env.scope scope own) (hv : ∀ i ∈ is, i ∈ own.map (·.2))
    (hg : ∀ (s : Shared) (H : Hp) (C : Addr) (cl : List (Str × Addr)) (fp : List Addr), DG (Blk X scope s H C cl fp) tg (tgg s H C cl fp) is (mg s H C cl fp))
    (ht : ∀ (s : Shared) (H : Hp) (C : Addr) (cl : List (Str × Addr)) (fp : List Addr), DTs (Blk X scope s H C cl fp) c W0 ifs (tt s H C cl fp) (mt s H C cl fp))
    (he : ∀ (s : Shared) (H : Hp) (C : Addr) (cl : List (Str × Addr)) (fp : List Addr), DE (Blk X scope s H C cl fp) c W0 elt (te s H C cl fp) (me s H C cl fp))
    (hs : ∀ x, foldedSetIterable iter X.env x = pure x := by intro _; rfl)
    (q1 : ∀ s H C cl fp, tgg s H C cl fp = z5 tgg := by intros; rfl) (q2 : ∀ s H C cl fp, mg s H C cl fp = z5 mg := by intros; rfl) (q3 : ∀ s H C cl fp, tt s H C cl fp = z5 tt := by intros; rfl)
    (q4 : ∀ s H C cl fp, mt s H C cl fp = z5 mt := by intros; rfl) (q5 : ∀ s H C cl fp, te s H C cl fp = z5 te := by intros; rfl) (q6 : ∀ s H C cl fp, me s H C cl fp = z5 me := by intros; rfl) :
    DS X c W (.Assign [.Name y py] (.ListComp elt [⟨tg, iter, ifs, 0⟩] scope pos) spos) (tAsg (tLc ti (z5 tgg) (z5 tt) (z5 te) (own.map (·.2))) (gName i)) (msOwn i (moLc mi (z5 mg) (z5 mt) (z5 me) (own.map (·.2)))) :=
  ⟨ps_setLc hc hN hy hyl hsw hi.p ok (fun s H C cl fp => by rw [← q1 s H C cl fp]; exact (hg s H C cl fp).p) (fun s H C cl fp => by rw [← q3 s H C cl fp]; exact (ht s H C cl fp).p) (fun s H C cl fp => by rw [← q5 s H C cl fp]; exact (he s H C cl fp).p) hs,
    ws_own (wo_lc hv hi.w (hg {} (fun _ => none) 0 [] []).w (ht {} (fun _ => none) 0 [] []).w (he {} (fun _ => none) 0 [] []).w)⟩
end
/-! ### zip of a known list and an own one -/
section
variable {X : Cx} {c : Ct} {W : WX} {pos p tpos : Pos} {elts : List Expr} {kk : Nat} {K : Fg}
def miZipO (i j : Nat) : MA := fun δ F _ => match δ[i]?, δ[j]? with
  | some (.dat (.lst as)), some (.own bs) => F (List.zipWith (fun a b => D.tup [a, b]) as bs)
  | _, _ => False
theorem walk_zipO {dl : Dl} {H0 G0 : Hp} {a b : Addr} {xs ys : List V} {as bs : List D} (ha : G0 a = some (.lst xs)) (ra : RepL K G0 xs as) (hb : H0 b = some (.lst ys)) (nb : NotDl dl b) (rb : RepL K G0 ys bs) :
    IsWalkC K dl H0 G0 (Itz K a b) (List.zipWith (fun a b => D.tup [a, b]) as bs) := fun i H G g => by
  have hA : SqL K H a xs := SqL.of (g.sub _ _ (g.grow _ _ ha))
  have hB : SqL K H b ys := SqL.of (g.keep _ _ hb nb)
  refine ⟨fun d e => ?_, fun e => ?_⟩
  · obtain ⟨u, z, e1, e2, e3⟩ : ∃ u z, as[i]? = some u ∧ bs[i]? = some z ∧ d = D.tup [u, z] := by
      rw [List.getElem?_zipWith] at e
      cases e1 : as[i]? with
      | none => rw [e1] at e; cases e
      | some u =>
        cases e2 : bs[i]? with
        | none => rw [e1, e2] at e; cases e
        | some z =>
          rw [e1, e2] at e
          cases e
          exact ⟨u, z, rfl, rfl, rfl⟩
    obtain ⟨x, f1, r1⟩ := ra.get e1
    obtain ⟨y, f2, r2⟩ := rb.get e2
    refine ⟨⟨xs, ys, x, y, hA, hB, f1, f2⟩, fun v H' ⟨T, x', y', h1, h2, h3, h4, h5⟩ => ?_⟩
    subst h1 h3 e3
    have h4 := h4 _ hA
    have h5 := h5 _ hB
    rw [f1] at h4
    rw [f2] at h5
    cases h4
    cases h5
    have gl := Go.laid (o := .tup [x, y]) g.sub h2
    exact ⟨_, gl, .tup (SqT.of upd_same) (.cons ((r1.mono g.grow).mono gl.grow) (.cons ((r2.mono g.grow).mono gl.grow) .nil))⟩
  · rw [List.length_zipWith] at e
    refine ⟨xs, ys, hA, hB, ?_⟩
    rw [ra.length, rb.length]
    omega
theorem di_zipO (i j : Nat) {x y : Str} {xp yp : Pos} (hg : Gl X "zip") (hm : X.mg "zip" = none) (hx : PE X (.Name x xp) (tVar i)) (hy : PE X (.Name y yp) (tVar j)) (he1 : starEach [.Name y yp] X.env = [(false, eval (.Name y yp) X.env)] := by rfl)
    (he : starEach [.Name x xp, .Name y yp] X.env = (false, eval (.Name x xp) X.env) :: starEach [.Name y yp] X.env := by rfl) (hpl : (backTo pos (starEach [.Name y yp] X.env)).any (·.1) = false := by rfl) :
    DIC X c W (.Tuple elts kk tpos) (.Call (.Name "zip" p) [.Name x xp, .Name y yp] [] pos) (iZip X.K (tCons (tVar i) (tCons (tVar j) tNil))) (miZipO i j) := by
  refine ⟨pi_zip hg hm (pa_cons hx (pa_cons hy pa_nil he1) he) he hpl, fun H G σ δ F Y R cr rs h q _ => ?_⟩
  unfold miZipO at h
  split at h
  · rename_i as bs e1 e2
    obtain ⟨v, q1, u, q2, q3⟩ := rs.at_ _ _ e1
    subst q2
    obtain ⟨a, xs, q4, q5, q6⟩ := q3.lst_of
    subst q4
    obtain ⟨v, u1, p', ys, u2, u3, u4, u5, u6⟩ := rs.at_ _ _ e2
    subst u2
    refine ⟨_, q1, _, u1, a, p', xs, ys, rfl, SqL.of (cr.sub _ _ q5), SqL.of u3, ?_⟩
    exact q _ _ H G cr.rfl' (walk_zipO q5 q6 u3 (notDl_own cr u5) u6) h
  · exact h.elim
end
end DL

set_option Elab.async false
set_option linter.all false
set_option maxRecDepth 100000
set_option maxHeartbeats 4000000
namespace DL
open PySem L2 PySem.Spec PyProof.Rows
/-! ### a law: its first statement lays the deal -/
structure DSw (X : Cx) (c : Ct) (W : WX) (ss : List Stmt) (t1 t2 : TS) (m1 m2 : MS) : Prop where
  p : PSs X ss (tSeq t1 t2)
  w1 : WS X.K c W t1 m1
  w2 : ∀ c1 : Ct, WS X.K c1 W t2 m2
theorem dsw {X : Cx} {c : Ct} {W : WX} {st : Stmt} {rest : List Stmt} {t1 t2 : TS} {m1 m2 : MS} (h1 : DS X c W st t1 m1) (h2 : ∀ c1 : Ct, DSs X c1 W rest t2 m2) : DSw X c W (st :: rest) t1 t2 m1 m2 :=
  ⟨pss_cons h1.p (h2 c).p, h1.w, fun c1 => (h2 c1).w⟩
theorem reps_ints {K : Fg} {G : Hp} : ∀ ns : List Int, RepL K G (ns.map V.int) (ns.map D.int)
  | [] => .nil
  | n :: ns => .cons (.int n) (reps_ints ns)
theorem ints_reps {K : Fg} {G : Hp} : ∀ {ns : List Int} {vs : List V}, RepL K G vs (ns.map D.int) → vs = ns.map V.int
  | [], _, .nil => rfl
  | n :: ns, _, .cons a r => by rw [a.int_of, ints_reps r]; rfl
def spLawD (K : Fg) : Sp := fun vs H Q _ => ∃ (a : Addr) (ns : List Int), vs = [.ref a] ∧ ns.length ≤ 63 ∧ SqL K H a (ns.map V.int) ∧ ∀ H', Q (.bl true) H'
def dealt (n : Nat) : List Sl → Prop := fun δ => δ.length = n ∧ ∃ (ms : List Int) (m : Int), ms.length ≤ 1000 ∧ (∀ n ∈ ms, 0 ≤ n) ∧ 0 ≤ m ∧ m < 2147483647 ∧ δ[1]? = some (.dat (.lst [.lst (ms.map D.int), .int m]))
section
variable {P : Program} {w : World} {K : Fg} {mg : Str → Option Value} {base : Heap} {x qual : Str} {params : Arguments} {body : List Stmt} {scope : Scope} {dvs : List V} {kws : List (Str × V)} {f : Addr} {fd : FuncData} {N : List Str} {x0 : Str} {k : Nat}
theorem fn_law (F : FunD K x qual params body scope dvs kws f fd) (S : FnScope N [x0] scope) (hN : 2 ≤ N.length)
    (hb : ∀ (cdv : Value) (A : Around) (outer : List Env) (s : Shared) (H : Hp) (E : XK), Room k (A.deeper (PyProof.Rows.envOfC qual scope s.heap.objs.size f cdv)) → ∃ t1 t2 m1 m2, (∀ c, DSw (cxOf (L2.CX P w) P w K mg base N qual scope f cdv A outer s H E) c (WF E) body t1 t2 m1 m2) ∧
      (∀ ns : List Int, ns.length ≤ 63 → m1 (start0 false [.scr (ns.map D.int)] (N.length - 1)) { nx := dealt N.length, rt := fun _ => False }) ∧
      m2 (.un :: .deal :: List.replicate (N.length - 2) .un) { nx := fun _ => False, rt := fun d => d = .bl true }) : FnOk P w K mg base (L2.CX P w) (k + 1) f fd [x0] (spLawD K) := by
  refine F.ok S (fun vs H Q E h => ?_) (fun cdv A outer s H vs Q E hr h => ?_)
  · obtain ⟨a, ns, rfl, _⟩ := h
    rfl
  obtain ⟨a, ns, rfl, hl, hS, hq⟩ := h
  obtain ⟨t1, t2, m1, m2, hd, hm1, hm2⟩ := hb cdv A outer s H E hr
  have d0 := hd ⟨none, none, H, H⟩
  refine ⟨_, d0.p, ?_⟩
  have cr : Cr ⟨none, none, H, H⟩ H H := ⟨fun _ _ q _ _ => q, Same.refl _, Same.refl _, fun _ _ q => .inl q, .no, (fun _ _ e => nomatch e), fun _ e => nomatch e⟩
  have rs := rs_start (N := N) (wd := false) (dl := none) (n := 1) (ds := [D.scr (ns.map D.int)]) (vs := [V.ref a]) (vs' := [V.ref a]) (K := K) (H := H) (G := H) rfl ⟨rfl, rfl⟩ (.cons (.scr hS (reps_ints ns)) .nil) (by show 1 ≤ N.length; omega)
  refine d0.w1 H H _ _ _ _ cr rs (hm1 ns hl) ⟨fun σ δ H' G' a1 b1 z q => ?_, fun _ _ _ _ _ _ _ q => q.elim, fun _ _ _ _ _ _ _ q => q.elim, fun _ _ _ _ _ _ _ q => q.elim, fun _ _ _ _ _ _ _ _ _ _ _ q => q.elim⟩
  obtain ⟨hlen, ms, m, l1, l2, l3, l4, e1⟩ := q
  obtain ⟨v, q1, v', q2, q3⟩ := b1.at_ _ _ e1
  subst q2
  obtain ⟨p, xs, rfl, g1, r1⟩ := q3.lst_of
  obtain ⟨v1, v2, rfl, r2, r3⟩ := r1.two
  obtain ⟨l, ys, rfl, g2, r4⟩ := r2.lst_of
  have e3 := r3.int_of
  subst e3
  have e4 := ints_reps r4
  subst e4
  have hD : DealAt H' p l := ⟨ms, m, a1.sub _ _ g1, a1.sub _ _ g2, l1, l3, l4, l2⟩
  have hp : H' p ≠ none := fun z => (by rw [a1.sub _ _ g1] at z; cases z)
  have hl' : H' l ≠ none := fun z => (by rw [a1.sub _ _ g2] at z; cases z)
  have cr1 : Cr ⟨some (p, l), none, H', fun _ => none⟩ H' (fun _ => none) :=
    ⟨fun _ _ q _ _ => q, Same.refl _, (fun _ _ q => nomatch q), (fun _ _ q => nomatch q), fun p' l' e => (by cases e; exact ⟨hD, rfl, rfl⟩), fun p' l' e => (by cases e; exact ⟨hp, hl'⟩), fun _ e => nomatch e⟩
  have ls : σ.length = N.length := by rw [b1.len]; exact hlen
  have at0 : ∀ i : Nat, i < N.length → (Sl.un :: Sl.deal :: List.replicate (N.length - 2) Sl.un)[i]? = some (if i = 1 then .deal else .un) := fun i hi => by
    match i with
    | 0 => rfl
    | 1 => rfl
    | i + 2 =>
      show (List.replicate (N.length - 2) Sl.un)[i]? = _
      rw [List.getElem?_replicate, if_pos (by omega), if_neg (by omega)]
  have len0 : (Sl.un :: Sl.deal :: List.replicate (N.length - 2) Sl.un).length = N.length := by
    rw [List.length_cons, List.length_cons, List.length_replicate]
    omega
  have rs1 : RS K ⟨some (p, l), none, H', fun _ => none⟩ H' (fun _ => none) σ (Sl.un :: Sl.deal :: List.replicate (N.length - 2) Sl.un) := by
    refine ⟨ls.trans len0.symm, fun i t e => ?_, fun i j q ds es n h1 h2 h3 => ?_⟩
    · have hi : i < N.length := by
        have := (List.getElem?_eq_some_iff.mp e).1
        rwa [len0] at this
      rw [at0 i hi] at e
      by_cases h1 : i = 1
      · subst h1
        rw [if_pos rfl] at e
        cases e
        exact ⟨_, q1, p, l, rfl, rfl⟩
      · rw [if_neg h1] at e
        cases e
        exact ⟨_, List.getElem?_eq_getElem (by rw [ls]; exact hi), trivial⟩
    · have hi : i < N.length := by
        have := (List.getElem?_eq_some_iff.mp h1).1
        rwa [len0] at this
      rw [at0 i hi] at h1
      split at h1 <;> cases h1
  exact d0.w2 _ H' _ σ _ _ _ cr1 rs1 hm2 ⟨fun _ _ _ _ _ _ _ q => q.elim, fun v d H2 G2 a2 b2 z q => by
      have q : d = .bl true := q
      subst q
      rw [b2.bl_of]
      exact hq H2, fun _ _ _ _ _ _ _ q => q.elim, fun _ _ _ _ _ _ _ q => q.elim, fun _ _ _ _ _ _ _ _ _ _ _ q => q.elim⟩
end
/-! ### comprehensions whose elements are some of several -/
def All2 {α β : Type} (R : α → β → Prop) : List α → List β → Prop
  | [], [] => True
  | a :: as, b :: bs => R a b ∧ All2 R as bs
  | _, _ => False
theorem lcD_any {mg : MG} {me : ME} {δ : List Sl} {R : D → D → Prop} {F : List D → Prop} : ∀ (ds acc : List D),
    (∀ d ∈ ds, ∀ F' : D → Prop, (∀ e, R d e → F' e) → mg d δ fun δ1 => me δ1 F' (fun _ => False)) →
    (∀ es, All2 R ds es → F (acc ++ es)) → lcD mg (fun _ F _ => F true) me δ F ds acc
  | [], acc, _, h => by
    have := h [] trivial
    rw [List.append_nil] at this
    exact this
  | d :: ds, acc, hs, h => by
    show mg d δ fun δ1 => (if true = true then me δ1 (fun r => lcD mg (fun _ F _ => F true) me δ F ds (acc ++ [r])) (fun _ => False) else _)
    refine hs d (by simp) (fun r => lcD mg (fun _ F _ => F true) me δ F ds (acc ++ [r])) fun e he => ?_
    refine lcD_any ds _ (fun d' m => hs d' (List.mem_cons_of_mem _ m)) fun es h2 => ?_
    rw [List.append_assoc]
    exact h _ ⟨he, h2⟩
end DL

set_option Elab.async false
set_option linter.all false
set_option maxRecDepth 100000
set_option maxHeartbeats 4000000
namespace DL
open PySem L2 PySem.Spec PyProof.Rows HandSHeadRun
/-! ### what the module's names reach, each address looked at once -/
def addF {α : Type} (k : Nat → List Addr → α) : List Addr → Nat → List Addr → α
  | [], m, acc => k m acc
  | a :: as, m, acc => frNat a fun a => match Nat.beq (Nat.land (Nat.shiftRight m a) 1) 1 with
    | true => addF k as m acc
    | false => frNat (Nat.lor m (Nat.shiftLeft 1 a)) fun m => addF k as m (a :: acc)
def growF (g : Addr → Option Obj) : Nat → Nat → List Addr → List Addr → List Addr
  | 0, _, all, _ => all
  | n + 1, m, all, fr => addF (fun m new => growF g n m (new ++ all) new) (fr.flatMap fun a => match g a with
    | some o => He.refsD o
    | none => []) m []
def asF (g : Addr → Option Obj) (n : Nat) : List Addr := growF g n (Nat.shiftLeft 1 mainGlobals) [mainGlobals] [mainGlobals]
abbrev AlF : Type := He.AlD × Bool
def obsF (n : Nat) (fa : List He.Fa) (fn : List He.DefD) (ex : Fg → Bool) (g : Addr → Option Obj) : AlF := (He.obsD fa fn (He.frG g (asF g n)), ex (He.frG g (asF g n)))
def hookF (n : Nat) (fa : List He.Fa) (fn : List He.DefD) (ex : Fg → Bool) : PySem.W.Hook where
  α := AlF
  obs := fun s => obsF n fa fn ex s.heap.get?
  val := fun _ => (He.valD fn, true)
  says := fun _ h => ∃ K : Fg, K.In h ∧ He.SaysD fa fn K ∧ ex K = true
  of := fun _ _ e => ⟨_, He.frG_in, congrArg (fun z : AlF => z.1) e, congrArg (fun z : AlF => z.2) e⟩
  keeps := fun _ _ _ ⟨K, hK, c⟩ k => ⟨K, PySem.W.Frag.In.keeps hK k, c⟩
theorem obsF_eq {n : Nat} {fa : List He.Fa} {fn : List He.DefD} {ex : Fg → Bool} {g : Addr → Option Obj} {s : Shared} (h : ∀ a, g a = s.heap.get? a) : obsF n fa fn ex g = (hookF n fa fn ex).obs s := by
  have e : g = s.heap.get? := funext h
  rw [e] <;> rfl
end DL

set_option Elab.async false
set_option linter.all false
set_option maxRecDepth 100000
set_option maxHeartbeats 4000000
namespace DL
open PySem L2 PySem.Spec PyProof.Rows
theorem spD_mono {K : Fg} {n : Nat} {wd : Bool} {ff : FF} {vs : List V} {H : Hp} {Q Q' : VK} {E : XK} (h : spD K n wd ff vs H Q E) (q : ∀ v H', Q v H' → Q' v H') : spD K n wd ff vs H Q' E := by
  obtain ⟨G, ds, dl, vs', F, X, h1, h2, h3, h4, h5, h6, h7, h8⟩ := h
  exact ⟨G, ds, dl, vs', F, X, h1, h2, h3, h4, h5, h6, fun v d H' G' g r f => q _ _ (h7 v d H' G' g r f), h8⟩
/-! ### what a class answers itself: str(x), x == y, x != y -/
section
variable {X : Cx} {pins : List (Addr × Obj)} {σ : L2.St} {H : Hp} {s : Shared} {A : Around} {E : Value → Shared → Prop} {k : Nat} {f : Addr} {fd : FuncData} {ps : List Str} {sp : Sp}
theorem run_at {us : List Value} {vs : List V} {Q : VK} (F : FnOk X.prog X.w X.K X.mg X.base (L2.CX X.prog X.w) k f fd ps sp) (hr : Room k A) (fr : A.frames = X.A.frames) (hb : Binds X.K fd ps []) (I : Inv X pins σ H s) (r : Vals vs us)
    (h : sp vs H Q (fun _ _ _ => False)) : wpAny (model X.prog X.w) A (call (.ref f) us) (EP X pins σ Q) E s := by
  have e0 : Env0 X.prog X.w X.K X.mg X.base A X.stack s H := by
    have e := I.env0
    exact ⟨by rw [fr]; exact e.frames, e.mod, e.bs, e.bsz, e.funs, e.frf, e.hok, e.bare⟩
  have hl : (us ++ []).length = ps.length := by rw [List.append_nil, ← r.length]; exact F.len _ _ _ _ h
  refine wpAny_call (codeAny_mono (F.run A X.stack s H ⟨us, []⟩ us vs Q _ hr e0 (by have := hb s us I.kIn hl; simpa using this) r h) fun q s' hq => ?_)
  cases q with
  | error e =>
    obtain ⟨_, _, _, _, _, _, _, _, _, _, _, _, z⟩ := hq
    exact z.elim
  | ok fl =>
    cases fl with
    | ret u => exact I.after hq
    | next => exact False.elim hq
    | brk => exact False.elim hq
    | cont => exact False.elim hq
theorem strOf_own {a C dx : Addr} {fs : List (Str × V)} {Q : VK} (F : FnOk X.prog X.w X.K X.mg X.base (L2.CX X.prog X.w) k f fd ps sp) (hr : Room k A) (fr : A.frames = X.A.frames) (hb : Binds X.K fd ps []) (I : Inv X pins σ H s) (ha : H a = some (.ins C dx fs))
    (hs : PySem.W.findIn X.K (.ref C) "__str__" = some (some (.ref f))) (tf : PySem.W.typeIn X.K (.ref f) = some (.type "function")) (h : sp [.ref a] H (fun v H' => (∃ y, v = .str y) ∧ Q v H') (fun _ _ _ => False)) :
    wpAny (model X.prog X.w) A (Builtin.Str.strOf (.ref a)) (EP X pins σ Q) E s := by
  obtain ⟨mA, J, _⟩ := ins_get I.hok ha
  obtain ⟨od, J, _⟩ := J.look
  unfold Builtin.Str.strOf
  rw [show Builtin.Str.isExactStr (.ref a) = false from rfl]
  simp only [Bool.false_eq_true, if_false, pure_bind]
  refine wpAny_bind (wpAny_cRoomFor hr.units0 ?_)
  refine wpAny_bind ?_
  unfold callSpecial? specialOf
  refine wpAny_bind (wpAny_bind (J.type.here ((PySem.W.looks_findIn I.kIn hs).here ?_)))
  refine wpAny_holding (wpAny_bind ((PySem.W.bind_fn I.kIn (.ref a) tf).here ?_))
  refine wpAny_bind (wpAny_mono (run_at (E := E) F hr fr hb I (vs := [.ref a]) (us := [.ref a]) (.cons rfl .nil) h) (fun v s' hq => ?_) fun _ _ z => z)
  obtain ⟨y, H', I', r, ⟨z, rfl⟩, q⟩ := hq
  obtain ⟨t, rfl⟩ := (show ∃ t, v = Value.str z t from r)
  refine wpAny_pure ?_
  exact wpAny_bind (wpAny_pure (wpAny_pure ⟨.str z, H', I', ⟨t, rfl⟩, q⟩))
theorem str_new_in {v : Value} : MeetsIn X.prog X.w (Builtin.«str.__new__» ⟨[.type "str", v], []⟩) (fun A' R s' => wpAny (model X.prog X.w) A'.in1 (Builtin.Str.strOf v) (fun r s2 => R (.ok (.ret r)) s2) (fun e s2 => R (.error e) s2) s') := by
  refine MeetsIn.of_wp fun A' R s' h => ?_
  rw [str_new_tree v]
  refine wpAny_bind (wpAny_pure (wpAny_bind (wpAny_of_eq isSubtype_str_str ?_)))
  exact wpAny_bind (wpAny_mono h (fun r s2 h2 => wpAny_pure ⟨_, rfl, h2⟩) fun _ _ e => e)
/-- the contract of a method that a class's instances answer by -/
structure Own1 (P : Program) (w : World) (K : Fg) (mg : Str → Option Value) (base : Heap) (C : Addr) (m : Str) (k n : Nat) (ff : FF) : Prop where
  ok : ∃ (f : Addr) (fd : FuncData) (ps : List Str), PySem.W.findIn K (.ref C) m = some (some (.ref f)) ∧ PySem.W.typeIn K (.ref f) = some (.type "function") ∧ Binds K fd ps [] ∧ FnOk P w K mg base (L2.CX P w) k f fd ps (spD K n false ff)
def rStrO (X : Cx) (k : Nat) : List V → Hp → VK → Prop := fun xs H Q => ∃ (a C dx : Addr) (fs : List (Str × V)) (ff : FF), xs = [.ref a] ∧ H a = some (.ins C dx fs) ∧ Own1 X.prog X.w X.K X.mg X.base C "__str__" k 1 ff ∧ spD X.K 1 false ff [.ref a] H (fun v H' => (∃ y, v = .str y) ∧ Q v H') (fun _ _ _ => False)
/-- str(x), x an instance whose class has a __str__ -/
theorem call_strO {k : Nat} (hr : Room (k + 2) X.A) : CallR X (.type "str") (rStrO X k) := by
  intro pins s σ H xs us Q I r h
  obtain ⟨a, C, dx, fs, ff, rfl, ha, ⟨f, fd, ps, hs, tf, hb, FO⟩, h⟩ := h
  obtain ⟨u, rfl, r1⟩ := vals1 r
  cases r1
  refine callType_newIn PySem.F.called_str (by decide) (PySem.F.typeCall_str_1 _) (PySem.F.newCall_str_1 _) (fun obj => PySem.F.args_object_init_2 obj _) PySem.F.entry_str_new str_new_in ?_
  refine wpAny_mono (strOf_own (E := X.xe) (A := X.A.in1.in1) FO hr.in1.in1 rfl hb I ha hs tf (Q := fun v H' => (∃ y, v = .str y) ∧ Q v H') ?_) (fun v s' hq => ?_) fun _ _ z => z
  · exact spD_mono h fun v H' q => ⟨q.1, q⟩
  · obtain ⟨y, H', I', rv, ⟨z, rfl⟩, q⟩ := hq
    obtain ⟨t, rfl⟩ := (show ∃ t, v = Value.str z t from rv)
    exact ⟨typeIs_str _ _ _, .str z, H', I', ⟨t, rfl⟩, q⟩
/-! types of values, by looking -/
def tyD : D → Value
  | .non => .type "NoneType"
  | .bl _ => .type "bool"
  | .int _ => .type "int"
  | .str _ => .type "str"
  | .lst _ => .type "list"
  | .tup _ => .type "tuple"
  | .obj C _ => .ref C
  | _ => .none
def knownD : D → Bool
  | .fx _ => false
  | .scr _ => false
  | _ => true
theorem lk_ty {G : Hp} {v : V} {u : Value} {d : D} (I : Inv X pins σ H s) (sm : Same G H) (r : Rep X.K G v d) (ru : L2.RelV v u) (hk : knownD d = true) : PySem.W.Looks (model X.prog X.w) s.heap (typeOf u) (tyD d) := by
  cases r with
  | non => cases (show u = Value.none from ru); exact .of_pure rfl
  | bl b => cases (show u = Value.bool b from ru); exact .of_pure rfl
  | int i => obtain ⟨t, rfl⟩ := (show ∃ t, u = Value.int i t from ru); exact .of_pure rfl
  | str x => obtain ⟨t, rfl⟩ := (show ∃ t, u = Value.str x t from ru); exact .of_pure rfl
  | @lst a xs ds h r =>
    cases (show u = Value.ref a from ru)
    obtain ⟨its, n, _, e, _⟩ := I.lst (sm _ _ h)
    exact (PySem.W.Looks.ld e).andThen .now
  | @tup a xs ds h r =>
    cases (show u = Value.ref a from ru)
    obtain ⟨its, _, ⟨o, e, c, _⟩, _⟩ := I.tuple (same_t sm h)
    show PySem.W.Looks (model X.prog X.w) s.heap (typeOf (.ref a)) (Value.type "tuple")
    rw [← c]
    exact (PySem.W.Looks.ld e).andThen .now
  | @obj a C dx fs ds h r =>
    cases (show u = Value.ref a from ru)
    obtain ⟨mA, J, _⟩ := ins_get I.hok (sm _ _ h)
    obtain ⟨od, J, _⟩ := J.look
    exact J.type
  | fx v => cases hk
  | scr h r => cases hk
/-! x == y by an own __eq__ -/
def rEqO (X : Cx) (k : Nat) : R2 := fun x y H Q => ∃ (a C dx : Addr) (fs : List (Str × V)) (ff : FF) (G : Hp) (d : D), x = .ref a ∧ H a = some (.ins C dx fs) ∧ Same G H ∧ Rep X.K G y d ∧ knownD d = true ∧ PySem.W.notFirst X.K C (tyD d) = true ∧
  Own1 X.prog X.w X.K X.mg X.base C "__eq__" k 2 ff ∧ spD X.K 2 false ff [x, y] H (fun v H' => (∃ b, v = .bl b) ∧ Q v H') (fun _ _ _ => False)
theorem typeIn_isFn {K : Fg} {f : Addr} (h : PySem.W.typeIn K (.ref f) = some (.type "function")) : PySem.W.isFn K (.ref f) = true := by
  unfold PySem.W.isFn
  rw [h]
  exact beq_self_eq_true _
theorem op_eqO {k : Nat} (hr : Room k X.A) : OpR X (compareOp .Eq) (rEqO X k) := by
  intro pins s σ H x y v u Q I rx ry h
  obtain ⟨a, C, dx, fs, ff, G, d, rfl, ha, sm, rd, hk, hn, ⟨f, fd, ps, hs, tf, hb, FO⟩, h⟩ := h
  cases (show v = Value.ref a from rx)
  obtain ⟨mA, J, _⟩ := ins_get I.hok ha
  obtain ⟨od, J, _⟩ := J.look
  obtain ⟨m, hF⟩ := I.fr
  refine PySem.W.cmp_K (op := .Eq) (tb := tyD d) hr.units0 hF I.ok.mod.kin J (lk_ty I sm rd ry hk) hn hs (typeIn_isFn tf) ?_
  refine wpAny_mono (run_at (E := X.xe) (A := X.A) FO hr rfl hb I (vs := [.ref a, y]) (us := [.ref a, u]) (.cons rfl (.cons ry .nil)) h) (fun w s' hq => ?_) fun _ _ z => z
  obtain ⟨z, H', I', rz, ⟨b, rfl⟩, q⟩ := hq
  cases (show w = Value.bool b from rz)
  exact ⟨.bl b, H', I', rfl, q⟩
/-! x != y where the class says == alone -/
theorem ifBound_ne {M : Model} {K : Fg} {x C : Addr} {ox : Obj} {od : Option Obj} {us : List Value} {Q : Option Value → Shared → Prop} (kin : K.In s.heap) (J : PySem.W.InstAt s.heap x ox C od) (hs : PySem.W.findIn K (.ref C) "__ne__" = some (some (.builtin "object.__ne__")))
    (h : wpAny M A (call (.builtin "object.__ne__") (.ref x :: us)) (fun v => Q (some v)) E s) : wpAny M A (callSpecialIfBound? (.ref x) "__ne__" us) Q E s := by
  have fin : wpAny M A (call (.builtin "object.__ne__") ([.ref x] ++ us) >>= fun v => pure (some v)) Q E s := wpAny_bind (wpAny_mono h (fun v s2 q => wpAny_pure q) fun _ _ q => q)
  simp only [callSpecialIfBound?, bindSpecialIfBound?]
  refine wpAny_holding (wpAny_bind (wpAny_bind (wpAny_bind (J.type.here ((PySem.W.looks_findIn kin hs).here (wpAny_bind (wpAny_askSetting (wpAny_ite ?_))))))))
  split
  · refine wpAny_bind (wpAny_of_eq (PySem.F.cmp_object.ne.bind _) (wpAny_pure ?_))
    exact fin
  · refine wpAny_tryCatch (wpAny_bind (wpAny_of_eq (PySem.F.cmp_object.ne.bind _) (wpAny_pure ?_)))
    exact fin
theorem obj_ne {M : Model} {K : Fg} {x C f : Addr} {ox : Obj} {od : Option Obj} {b : Value} {Q : Fin → Shared → Prop} (hu : A.units < cLine) (kin : K.In s.heap) (J : PySem.W.InstAt s.heap x ox C od) (hs : PySem.W.findIn K (.ref C) "__eq__" = some (some (.ref f))) (hf : PySem.W.isFn K (.ref f) = true)
    (h : wpAny M A (call (.ref f) [.ref x, b]) (fun v s2 => ∃ r, v = .bool r ∧ Q (.done (.ret (.bool (!r)))) s2) E s) : wpAny M A (Builtin.«object.__ne__» ⟨[.ref x, b], []⟩) Q E s := by
  unfold Builtin.«object.__ne__»
  refine wpAny_bind (m := slotArgs "__ne__" 1 _) (wpAny_pure ?_)
  refine wpAny_bind (wpAny_cRoomFor hu ?_)
  refine wpAny_bind (PySem.W.ifBound_K kin J hs hf (wpAny_mono h (fun v s2 q => ?_) fun _ _ q => q))
  obtain ⟨r, rfl, q⟩ := q
  exact wpAny_bind (wpAny_truthy_bool (wpAny_pure q))
theorem rich_one {M : Model} {K : Fg} {op : CmpOp} {x C : Addr} {ox : Obj} {od : Option Obj} {b tb : Value} {Q : Value → Shared → Prop} (hu : A.units < cLine) (kin : K.In s.heap) (J : PySem.W.InstAt s.heap x ox C od) (lb : PySem.W.Looks M s.heap (typeOf b) tb) (hn : PySem.W.notFirst K C tb = true)
    (one : wpAny M A (tryCompare (.ref x) (cmpInfo op).2.1 b) (fun r s2 => ∃ v, r = some v ∧ Q v s2) E s) : wpAny M A (richCompare op (.ref x) b) Q E s := by
  have last : wpAny M A (tryCompare (.ref x) (cmpInfo op).2.1 b) (fun r s2 => wpAny M A (match r with
      | some v => pure v
      | none => pure .none) Q E s2) E s := wpAny_mono one (fun r s2 z => by obtain ⟨v, rfl, q⟩ := z; exact wpAny_pure q) fun _ _ q => q
  unfold richCompare
  simp only [oneThing_ref]
  refine wpAny_holding (wpAny_bind (wpAny_cRoomFor hu (wpAny_bind (J.type.here (wpAny_bind (lb.here ?_))))))
  split
  · rename_i q
    have hsub : PySem.W.subIn K tb (.ref C) = some false := by
      rcases Bool.or_eq_true_iff.mp hn with z | z
      · rw [beq_iff_eq.mp z] at q
        simp at q
      · exact beq_iff_eq.mp z
    refine wpAny_bind ((PySem.W.looks_subIn kin hsub).here ?_)
    simp only [Bool.false_eq_true, if_false]
    exact wpAny_bind (wpAny_mono one (fun r s2 z => by obtain ⟨v, rfl, q⟩ := z; exact wpAny_pure q) fun _ _ z => z)
  · refine wpAny_bind (wpAny_pure ?_)
    simp only [Bool.false_eq_true, if_false]
    exact wpAny_bind (wpAny_mono one (fun r s2 z => by obtain ⟨v, rfl, q⟩ := z; exact wpAny_pure q) fun _ _ z => z)
def rNeO (X : Cx) (k : Nat) : R2 := fun x y H Q => ∃ (a C dx : Addr) (fs : List (Str × V)) (ff : FF) (G : Hp) (d : D), x = .ref a ∧ H a = some (.ins C dx fs) ∧ Same G H ∧ Rep X.K G y d ∧ knownD d = true ∧ PySem.W.notFirst X.K C (tyD d) = true ∧
  PySem.W.findIn X.K (.ref C) "__ne__" = some (some (.builtin "object.__ne__")) ∧ PySem.W.mroIn X.K C (.type "object") = some true ∧
  Own1 X.prog X.w X.K X.mg X.base C "__eq__" k 2 ff ∧ spD X.K 2 false ff [x, y] H (fun v H' => ∃ b, v = .bl b ∧ Q (.bl (!b)) H') (fun _ _ _ => False)
theorem op_neO {k : Nat} (hr : Room (k + 1) X.A) : OpR X (compareOp .NotEq) (rNeO X k) := by
  intro pins s σ H x y v u Q I rx ry h
  obtain ⟨a, C, dx, fs, ff, G, d, rfl, ha, sm, rd, hk, hn, hne, hmr, ⟨f, fd, ps, hs, tf, hb, FO⟩, h⟩ := h
  cases (show v = Value.ref a from rx)
  obtain ⟨mA, J, _⟩ := ins_get I.hok ha
  obtain ⟨od, J, _⟩ := J.look
  show wpAny (model X.prog X.w) X.A (richCompare .NotEq (.ref a) u) (EP X pins σ Q) X.xe s
  refine rich_one (op := .NotEq) hr.units0 I.kIn J (lk_ty I sm rd ry hk) hn ?_
  show wpAny (model X.prog X.w) X.A (tryCompare (.ref a) "__ne__" u) _ X.xe s
  unfold tryCompare
  refine wpAny_bind (ifBound_ne I.kIn J hne ?_)
  refine wpAny_call (codeAny_call_builtin PySem.F.cmp_object.ne.plain PySem.F.cmpEntry_ne (PySem.W.check_slot PySem.F.cmpKind_ne PySem.F.cmpSplit_ne (J.type.andThen (PySem.W.looks_mroIn I.kIn hmr)) (PySem.F.cmpArgs_ne _ _) ?_))
  refine obj_ne hr.in1.units0 I.kIn J hs (typeIn_isFn tf) ?_
  refine wpAny_mono (run_at (A := X.A.in1) FO hr.in1 rfl hb I (vs := [.ref a, y]) (us := [.ref a, u]) (.cons rfl (.cons ry .nil)) h) (fun w s2 hq => ?_) fun _ _ z => z
  obtain ⟨z, H', I', rz, b, rfl, q⟩ := hq
  cases (show w = Value.bool b from rz)
  refine ⟨b, rfl, ?_⟩
  exact wpAny_pure ⟨_, rfl, .bl (!b), H', I', rfl, q⟩
end
end DL

set_option Elab.async false
set_option linter.all false
set_option maxRecDepth 100000
set_option maxHeartbeats 4000000
namespace DL
open PySem L2 PySem.Spec PyProof.Rows
open StX (tStar pa_star)
section
variable {X : Cx} {c : Ct} {W : WX} {e a b : Expr} {es : List Expr} {pos p sp : Pos} {ma mb me : ME} {mr : MA} {ta tb te : TE} {tr : TA} {K : Fg}
/-! ### [a, *xs] -/
def maStar (ma : ME) (mr : MA) : MA := fun δ F X => ma δ (fun d => ∃ l, seqD d = some l ∧ mr δ (fun ds => F (l ++ ds)) X) X
theorem da_star (ha : DE X c W e ta ma) (hr : DA X c W es tr mr) (hs : starEach (.Starred e p :: es) X.env = (true, eval e X.env) :: starEach es X.env := by rfl) : DA X c W (.Starred e p :: es) (tStar X.K ta tr) (maStar ma mr) := by
  refine ⟨pa_star ha.p hr.p hs, fun H G σ δ F Y Q cr rs h q x => ?_⟩
  refine ha.w H G σ δ _ _ _ cr rs h (fun v d H1 G1 g1 r1 h1 => ?_) x
  obtain ⟨l, el, h1⟩ := h1
  have go : ∀ {xs : List V}, RepL X.K G1 xs l → tr σ H1 fun ys H2 => Q (xs ++ ys) H2 := fun {xs} rx =>
    hr.w H1 G1 σ δ _ _ _ (cr.step g1) (rs.step cr g1) h1 (fun vs ds H2 G2 g2 r2 f => q _ _ H2 G2 (g1.trans g2) ((rx.mono g2.grow).append r2) f) (x.step g1)
  cases d with
  | lst ds =>
    cases el
    obtain ⟨a, xs, rfl, g2, r2⟩ := r1.lst_of
    exact ⟨a, xs, rfl, .inr (SqL.of (g1.sub _ _ g2)), go r2⟩
  | tup ds =>
    cases el
    obtain ⟨a, xs, rfl, g2, r2⟩ := r1.tup_of
    exact ⟨a, xs, rfl, .inl (same_t g1.sub g2), go r2⟩
  | _ => cases el
/-! ### f'..' -/
def mFmt (ma : ME) : ME := fun δ F X => ma δ (fun d => match d with
  | .str z => z.length ≤ sizeLine ∧ F (.str z)
  | _ => False) X
theorem de_fmt (ha : DE X c W e ta ma) : DE X c W (.FormattedValue e (-1) none pos) (tFmt ta) (mFmt ma) := by
  refine ⟨pe_fmt ha.p, fun H G σ δ F Y Q cr rs h q x => ?_⟩
  refine ha.w H G σ δ _ _ _ cr rs h (fun v d H1 G1 g1 r1 h1 => ?_) x
  split at h1
  · exact .inl ⟨_, r1.str_of, h1.1, q _ _ H1 G1 g1 (.str _) h1.2⟩
  · exact h1.elim
def mJs : List ME → Str → List Sl → (Str → Prop) → XC → Prop
  | [], acc, _, F, _ => F acc
  | m :: ms, acc, δ, F, X => m δ (fun d => match d with
    | .str y => (acc ++ y).length ≤ sizeLine ∧ mJs ms (acc ++ y) δ F X
    | _ => False) X
inductive DJ (X : Cx) (c : Ct) (W : WX) : List Expr → List TE → List ME → Prop where
  | nil : DJ X c W [] [] []
  | cons {e : Expr} {t : TE} {m : ME} {es : List Expr} {ts : List TE} {ms : List ME} (h : DE X c W e t m) (r : DJ X c W es ts ms) : DJ X c W (e :: es) (t :: ts) (m :: ms)
theorem DJ.pj {ts : List TE} {ms : List ME} (h : DJ X c W es ts ms) : PJ X es ts := by
  induction h with
  | nil => exact .nil
  | cons h _ ih => exact .cons h.p ih
theorem DJ.wj {ts : List TE} {ms : List ME} (h : DJ X c W es ts ms) : ∀ (acc : Str) (H G : Hp) (σ : L2.St) (δ : List Sl) (F : Str → Prop) (Y : XC) (Q : Str → Hp → Prop), Cr c H G → RS X.K c H G σ δ → mJs ms acc δ F Y → (∀ out H' G', Go c.dl H G H' G' → F out → Q out H') → XW X.K c H G σ Y W → tJs ts acc σ H Q := by
  induction h with
  | nil => exact fun acc H G σ δ F Y Q cr rs h q x => q acc H G cr.rfl' h
  | @cons e t m es ts ms h _ ih =>
    intro acc H G σ δ F Y Q cr rs hm q x
    refine h.w H G σ δ _ _ _ cr rs hm (fun v d H1 G1 g1 r1 h1 => ?_) x
    split at h1
    · exact ⟨_, r1.str_of, h1.1, ih _ H1 G1 σ δ F Y Q (cr.step g1) (rs.step cr g1) h1.2 (fun out H' G' g f => q out H' G' (g1.trans g) f) (x.step g1)⟩
    · exact h1.elim
def mJoined (ms : List ME) : ME := fun δ F X => mJs ms Str.empty δ (fun out => F (.str out)) X
theorem de_joined {v1 v2 : Expr} {rest : List Expr} {ts : List TE} {ms : List ME} (h : DJ X c W (v1 :: v2 :: rest) ts ms) : DE X c W (.JoinedStr (v1 :: v2 :: rest) pos) (fun σ H Q => tJs ts Str.empty σ H fun out H1 => Q (.str out) H1) (mJoined ms) :=
  ⟨pe_joined h.pj, fun H G σ δ F Y Q cr rs hm q x => h.wj Str.empty H G σ δ _ _ _ cr rs hm (fun out H' G' g f => q _ _ H' G' g (.str _) f) x⟩
/-! ### str(x), x == y, x != y of own classes -/
structure OwnM (P : Program) (w : World) (K : Fg) (mg : Str → Option Value) (base : Heap) (good : Addr → Prop) (m : Str) (k n : Nat) (ff : Addr → FF) : Prop where
  ok : ∀ C, good C → Own1 P w K mg base C m k n (ff C)
def gStrO (good : Addr → Prop) (ff : Addr → FF) (ds : List D) (F : D → Prop) : Prop := match ds with
  | [.obj C fs] => good C ∧ ff C [.obj C fs] (fun r => (∃ z, r = .str z) ∧ F r) (fun _ => False)
  | _ => False
theorem cd_strO {good : Addr → Prop} {k : Nat} {ff : Addr → FF} (M : OwnM X.prog X.w X.K X.mg X.base good "__str__" k 1 ff) : CD X.K (rStrO X k) (gStrO good ff) := fun H G vs ds F Q s r h q => by
  unfold gStrO at h
  split at h
  · rename_i C fs
    obtain ⟨v, rfl, r1⟩ := r.one
    obtain ⟨a, dx, fv, rfl, g1, r2⟩ := r1.obj_of
    refine ⟨a, C, dx, fv, ff C, rfl, s _ _ g1, M.ok C h.1, ?_⟩
    refine ⟨G, [.obj C fs], none, [.ref a], _, _, rfl, ⟨rfl, rfl⟩, s, .no, .cons r1 .nil, h.2, fun v d H' G' g r f => ?_, fun _ _ _ _ _ _ _ z => z.elim⟩
    obtain ⟨⟨z, rfl⟩, f⟩ := f
    exact ⟨⟨z, r.str_of⟩, q _ _ H' G' g r f⟩
  · exact h.elim
theorem de_strO {k : Nat} {good : Addr → Prop} {ff : Addr → FF} (M : OwnM X.prog X.w X.K X.mg X.base good "__str__" k 1 ff) (hr : Room (k + 2) X.A) (hg : Gl X "str") (hm : X.mg "str" = none) (ha : DA X c W (e :: es) tr mr)
    (he : starEach (e :: es) X.env = (false, eval e X.env) :: starEach es X.env := by rfl) (hpl : (backTo pos (starEach es X.env)).any (·.1) = false := by rfl) :
    DE X c W (.Call (.Name "str" p) (e :: es) [] pos) (tCB (rStrO X k) tr) (mCB (gStrO good ff) mr) :=
  de_callTy (call_strO hr) (cd_strO M) hg hm (by decide +kernel) ha (he := he) (hpl := hpl)
def gEqO (K : Fg) (good : Addr → Prop) (ff : Addr → FF) (d e : D) (F : D → Prop) : Prop := match d with
  | .obj C fs => good C ∧ knownD e = true ∧ PySem.W.notFirst K C (tyD e) = true ∧ ff C [.obj C fs, e] (fun r => (∃ b, r = .bl b) ∧ F r) (fun _ => False)
  | _ => False
theorem rd_eqO {good : Addr → Prop} {k : Nat} {ff : Addr → FF} (M : OwnM X.prog X.w X.K X.mg X.base good "__eq__" k 2 ff) : RD X.K (rEqO X k) (gEqO X.K good ff) := fun H G x y d e F Q s rx ry h q => by
  unfold gEqO at h
  split at h
  · rename_i C fs
    obtain ⟨a, dx, fv, rfl, g1, r2⟩ := rx.obj_of
    refine ⟨a, C, dx, fv, ff C, G, e, rfl, s _ _ g1, s, ry, h.2.1, h.2.2.1, M.ok C h.1, ?_⟩
    refine ⟨G, [.obj C fs, e], none, [.ref a, y], _, _, rfl, ⟨rfl, rfl⟩, s, .no, .cons rx (.cons ry .nil), h.2.2.2, fun v d H' G' g r f => ?_, fun _ _ _ _ _ _ _ z => z.elim⟩
    obtain ⟨⟨z, rfl⟩, f⟩ := f
    exact ⟨⟨z, r.bl_of⟩, q _ _ H' G' g r f⟩
  · exact h.elim
def gNeO (K : Fg) (good : Addr → Prop) (ff : Addr → FF) (d e : D) (F : D → Prop) : Prop := match d with
  | .obj C fs => good C ∧ knownD e = true ∧ PySem.W.notFirst K C (tyD e) = true ∧ ff C [.obj C fs, e] (fun r => ∃ b, r = .bl b ∧ F (.bl (!b))) (fun _ => False)
  | _ => False
theorem rd_neO {good : Addr → Prop} {k : Nat} {ff : Addr → FF} (M : OwnM X.prog X.w X.K X.mg X.base good "__eq__" k 2 ff) (hN : ∀ C, good C → PySem.W.findIn X.K (.ref C) "__ne__" = some (some (.builtin "object.__ne__")) ∧ PySem.W.mroIn X.K C (.type "object") = some true) : RD X.K (rNeO X k) (gNeO X.K good ff) := fun H G x y d e F Q s rx ry h q => by
  unfold gNeO at h
  split at h
  · rename_i C fs
    obtain ⟨a, dx, fv, rfl, g1, r2⟩ := rx.obj_of
    refine ⟨a, C, dx, fv, ff C, G, e, rfl, s _ _ g1, s, ry, h.2.1, h.2.2.1, (hN C h.1).1, (hN C h.1).2, M.ok C h.1, ?_⟩
    refine ⟨G, [.obj C fs, e], none, [.ref a, y], _, _, rfl, ⟨rfl, rfl⟩, s, .no, .cons rx (.cons ry .nil), h.2.2.2, fun v d H' G' g r f => ?_, fun _ _ _ _ _ _ _ z => z.elim⟩
    obtain ⟨b, rfl, f⟩ := f
    exact ⟨b, r.bl_of, q _ _ H' G' g (.bl _) f⟩
  · exact h.elim
end
end DL

set_option Elab.async false
set_option linter.all false
set_option maxRecDepth 100000
set_option maxHeartbeats 4000000
namespace DL
open PySem L2 PySem.Spec PyProof.Rows
/-- one name over a list that is made of others, no test -/
theorem lcD_mapA {α : Type} {i : Nat} {me : ME} {δ : List Sl} {F : List D → Prop} (g f : α → D) : ∀ (ss : List α) (acc : List D), (∀ s ∈ ss, ∀ F' : D → Prop, F' (f s) → me (δ.set i (.dat (g s))) F' (fun _ => False)) → F (acc ++ ss.map f) → lcD (mgName i) mYes me δ F (ss.map g) acc
  | [], acc, _, h => by
    rw [List.map_nil, List.append_nil] at h
    exact h
  | s :: ss, acc, hs, h => by
    show (if true = true then me (δ.set i (.dat (g s))) (fun r => lcD (mgName i) mYes me δ F (ss.map g) (acc ++ [r])) (fun _ => False) else lcD (mgName i) mYes me δ F (ss.map g) acc)
    rw [if_pos rfl]
    refine hs s (by simp) _ ?_
    refine lcD_mapA g f ss _ (fun t ht => hs t (List.mem_cons_of_mem _ ht)) ?_
    rw [List.append_assoc]
    exact h
theorem strsD_map : ∀ xs : List Str, strsD (xs.map D.str) = some xs
  | [] => rfl
  | x :: xs => by
    show (strsD (xs.map D.str)).map (x :: ·) = _
    rw [strsD_map xs]
    rfl
end DL

set_option Elab.async false
set_option linter.all false
set_option maxRecDepth 100000
set_option maxHeartbeats 4000000
namespace DL
open PySem L2 PySem.Spec PyProof.Rows
/-! ### own lists: shown for good, shown for the time of an expression -/
def delP (G : Hp) (p : Addr) : Hp := fun a => if a = p then none else G a
theorem delP_ne {G : Hp} {a p : Addr} (h : a ≠ p) : delP G p a = G a := if_neg h
theorem delP_at {G : Hp} {p : Addr} : delP G p p = none := if_pos rfl
theorem delP_some {G : Hp} {a p : Addr} {o : HO} (h : delP G p a = some o) : a ≠ p ∧ G a = some o := by
  by_cases e : a = p
  · rw [e, delP_at] at h
    cases h
  · rw [delP_ne e] at h
    exact ⟨e, h⟩
mutual
def noL : D → Bool
  | .lst _ => false
  | .scr _ => false
  | .tup xs => noLs xs
  | .obj _ fs => noLf fs
  | _ => true
def noLs : List D → Bool
  | [] => true
  | d :: r => noL d && noLs r
def noLf : List (Str × D) → Bool
  | [] => true
  | (_, d) :: r => noL d && noLf r
end
section
variable {K : Fg} {G : Hp} {p : Addr} {zs : List V}
theorem sqT_del (hp : G p = some (.lst zs)) {a : Addr} {xs : List V} (h : SqT K G a xs) : SqT K (delP G p) a xs := by
  have ne : ∀ {o : HO}, G a = some o → (∀ ys, o ≠ .lst ys) → delP G p a = some o := fun {o} e n => by
    by_cases ea : a = p
    · rw [ea, hp] at e
      cases e
      exact absurd rfl (n zs)
    · rw [delP_ne ea]
      exact e
  rcases h with (h | ⟨o, h⟩) | h
  · exact .inl (.inl (ne h fun _ z => nomatch z))
  · exact .inl (.inr ⟨o, ne h fun _ z => nomatch z⟩)
  · exact .inr h
mutual
theorem rep_del (hp : G p = some (.lst zs)) : ∀ {v : V} {d : D}, Rep K G v d → noL d = true → Rep K (delP G p) v d
  | _, _, .non, _ => .non
  | _, _, .bl b, _ => .bl b
  | _, _, .int i, _ => .int i
  | _, _, .str x, _ => .str x
  | _, _, .fx v, _ => .fx v
  | _, _, .lst _ _, n => by cases n
  | _, _, .scr _ _, n => by cases n
  | _, _, .tup h r, n => .tup (sqT_del hp h) (repL_del hp r (by unfold noL at n; exact n))
  | _, _, .obj (a := a) h r, n => .obj (a := a) (by
      by_cases ea : a = p
      · rw [ea, hp] at h
        cases h
      · rw [delP_ne ea]
        exact h) (repF_del hp r (by unfold noL at n; exact n))
theorem repL_del (hp : G p = some (.lst zs)) : ∀ {vs : List V} {ds : List D}, RepL K G vs ds → noLs ds = true → RepL K (delP G p) vs ds
  | _, _, .nil, _ => .nil
  | _, _, .cons a r, n => by
    unfold noLs at n
    obtain ⟨n1, n2⟩ := Bool.and_eq_true_iff.mp n
    exact .cons (rep_del hp a n1) (repL_del hp r n2)
theorem repF_del (hp : G p = some (.lst zs)) : ∀ {vs : List (Str × V)} {ds : List (Str × D)}, RepF K G vs ds → noLf ds = true → RepF K (delP G p) vs ds
  | _, _, .nil, _ => .nil
  | _, _, .cons a r, n => by
    unfold noLf at n
    obtain ⟨n1, n2⟩ := Bool.and_eq_true_iff.mp n
    exact .cons (rep_del hp a n1) (repF_del hp r n2)
end
end
section
variable {X : Cx} {c : Ct} {W : WX} {K : Fg} {e a b : Expr} {es : List Expr} {pos : Pos} {st : Stmt} {ss : List Stmt} {ma mb me : ME} {mr : MA} {ta tb te : TE} {tr : TA} {ts : TS} {ms : MS}
theorem Cr.shown {H G : Hp} (cr : Cr c H G) {p : Addr} {ys : List V} (h1 : H p = some (.lst ys)) (h2 : G p = none) (h3 : c.He p = none) : Cr c H (upd G p (.lst ys)) where
  keep := cr.keep
  grow := fun a o z => by rw [upd_ne (ne_of_none (cr.grow _ _ z) h2)]; exact cr.grow _ _ z
  sub := fun a o z => by
    by_cases ea : a = p
    · subst ea
      rw [upd_same] at z
      cases z
      exact h1
    · rw [upd_ne ea] at z
      exact cr.sub _ _ z
  new := fun a o z => by
    by_cases ea : a = p
    · subst ea
      exact .inr h3
    · rw [upd_ne ea] at z
      exact cr.new _ _ z
  dlok := fun p' l' q => by
    obtain ⟨d, g1, g2⟩ := cr.dlok p' l' q
    obtain ⟨n1, n2⟩ := notDl_own cr h3 p' l' q
    exact ⟨d, by rw [upd_ne (Ne.symm n1)]; exact g1, by rw [upd_ne (Ne.symm n2)]; exact g2⟩
  he := cr.he
  sfo := cr.sfo
theorem RS.shown {H G : Hp} {σ : L2.St} {δ : List Sl} (r : RS K c H G σ δ) {j : Nat} {p : Addr} {ys : List V} {bs : List D} (hj : δ[j]? = some (.own bs)) (hs : σ[j]? = some (some (.ref p))) (h1 : H p = some (.lst ys)) (h2 : G p = none) (rl : RepL K G ys bs) :
    RS K c H (upd G p (.lst ys)) σ (δ.set j (.dat (.lst bs))) := by
  have sm : Same G (upd G p (.lst ys)) := fun a o z => by rw [upd_ne (ne_of_none z h2)]; exact z
  refine ⟨by rw [List.length_set]; exact r.len, fun i t e => ?_, fun i k q ds' fs n e1 e2 h => ?_⟩
  · by_cases hij : j = i
    · subst hij
      have hl : j < δ.length := (List.getElem?_eq_some_iff.mp hj).1
      rw [List.getElem?_set_self hl] at e
      cases e
      exact ⟨_, hs, _, rfl, .lst upd_same (rl.mono sm)⟩
    · rw [List.getElem?_set_ne hij] at e
      obtain ⟨x, q1, q2⟩ := r.at_ i t e
      refine ⟨x, q1, ?_⟩
      cases t with
      | un => trivial
      | dat d =>
        obtain ⟨v, e1, e2⟩ := q2
        exact ⟨v, e1, e2.mono sm⟩
      | own fs =>
        obtain ⟨p', xs', a1, a2, a3, a4, a5⟩ := q2
        subst a1
        have ne : p' ≠ p := fun z => by
          subst z
          exact r.sep j i p' bs fs hij hj e hs q1
        exact ⟨p', xs', rfl, a2, by rw [upd_ne ne]; exact a3, a4, a5.mono sm⟩
      | deal => exact q2
      | exn a C d fs =>
        obtain ⟨a1, a2⟩ := q2
        exact ⟨a1, a2.mono sm⟩
      | self C fs =>
        obtain ⟨a, dx, fv, a1, a2, a3, a4, a5, a6⟩ := q2
        refine ⟨a, dx, fv, a1, a2, a3, ?_, a5, a6.mono sm⟩
        rw [upd_ne (fun z => by rw [z, h1] at a3; cases a3)]
        exact a4
  · have up : ∀ (i : Nat) (ds' : List D), (δ.set j (.dat (.lst bs)))[i]? = some (.own ds') → δ[i]? = some (.own ds') := fun i ds' e => by
      by_cases hij : j = i
      · subst hij
        have hl : j < δ.length := (List.getElem?_eq_some_iff.mp hj).1
        rw [List.getElem?_set_self hl] at e
        cases e
      · rw [List.getElem?_set_ne hij] at e
        exact e
    exact r.sep i k q _ _ n (up i ds' e1) (up k fs e2) h
/-- an own list is shown for good -/
def msPub (j : Nat) (m : MS) : MS := fun δ k => match δ[j]? with
  | some (.own bs) => m (δ.set j (.dat (.lst bs))) k
  | _ => False
theorem ws_pub (j : Nat) (h : WS K c W ts ms) : WS K c W ts (msPub j ms) := fun H G σ δ k Y cr rs hm en => by
  unfold msPub at hm
  split at hm
  · rename_i bs ej
    obtain ⟨y, q1, p, ys, q2, q3, q4, q5, q6⟩ := rs.at_ _ _ ej
    subst q2
    exact h H _ σ _ k Y (cr.shown q3 q4 q5) (rs.shown ej q1 q3 q4 q6) hm (en.mono fun a o z => by rw [upd_ne (ne_of_none z q4)]; exact z)
  · exact hm.elim
theorem ds_pub (j : Nat) (h : DS X c W st ts ms) : DS X c W st ts (msPub j ms) := ⟨h.p, ws_pub j h.w⟩
theorem dss_pub (j : Nat) (h : DSs X c W ss ts ms) : DSs X c W ss ts (msPub j ms) := ⟨h.p, ws_pub j h.w⟩
/-- .. for the time of an expression, what comes of it holding no list -/
theorem Go.unlend {dl : Dl} {H G H' G' : Hp} {p : Addr} {ys : List V} (g : Go dl H (upd G p (.lst ys)) H' G') (h2 : G p = none) : Go dl H G H' (delP G' p) where
  keep := g.keep
  grow := fun a o z => by
    have ne := ne_of_none z h2
    rw [delP_ne ne]
    exact g.grow _ _ (by rw [upd_ne ne]; exact z)
  sub := fun a o z => g.sub _ _ (delP_some z).2
  new := fun a o z => by
    obtain ⟨ne, z⟩ := delP_some z
    rcases g.new _ _ z with y | y
    · rw [upd_ne ne] at y
      exact .inl y
    · exact .inr y
  deal := fun p' l' q => by
    obtain ⟨d, g1, g2⟩ := g.deal p' l' q
    have e : ∀ a, G' a = none → delP G' p a = none := fun a z => by
      cases y : delP G' p a with
      | none => rfl
      | some o =>
        rw [(delP_some y).2] at z
        cases z
    exact ⟨d, e _ g1, e _ g2⟩
def mLend (j : Nat) (me : ME) : ME := fun δ F _ => match δ[j]? with
  | some (.own bs) => me (δ.set j (.dat (.lst bs))) (fun d => noL d = true ∧ F d) (fun _ => False)
  | _ => False
theorem we_lend (j : Nat) (h : WE K c W te me) : WE K c W te (mLend j me) := fun H G σ δ F Y Q cr rs hm q _ => by
  unfold mLend at hm
  split at hm
  · rename_i bs ej
    obtain ⟨y, q1, p, ys, q2, q3, q4, q5, q6⟩ := rs.at_ _ _ ej
    subst q2
    refine h H _ σ _ _ _ _ (cr.shown q3 q4 q5) (rs.shown ej q1 q3 q4 q6) hm (fun v d H' G' g r f => ?_) XW.no
    have hp : G' p = some (.lst ys) := g.grow _ _ upd_same
    exact q v d H' _ (g.unlend q4) (rep_del hp r f.1) f.2
  · exact hm.elim
theorem de_lend (j : Nat) (h : DE X c W e te me) : DE X c W e te (mLend j me) := ⟨h.p, we_lend j h.w⟩
/-! own lists made by list(..), two at once -/
theorem oe_list {p : Pos} (hg : Gl X "list") (hm : X.mg "list" = none) (ha : DA X c W (e :: es) tr mr) (he : starEach (e :: es) X.env = (false, eval e X.env) :: starEach es X.env := by rfl) (hpl : (backTo pos (starEach es X.env)).any (·.1) = false := by rfl) :
    OE X c W (.Call (.Name "list" p) (e :: es) [] pos) (tCB (fun xs H Q => ∃ p ys, xs = [.ref p] ∧ (SqL X.K H p ys ∨ SqT X.K H p ys) ∧ ∀ l, H l = none → Q (.ref l) (upd H l (.lst ys))) tr) (fun δ F Y => mr δ (fun ds => ∃ d l, ds = [d] ∧ seqD d = some l ∧ F l) Y) := by
  refine ⟨pe_callTy call_list_of hg hm (by decide +kernel) ha.p (he := he) (hpl := hpl), fun H G σ δ F Y Q cr rs h q x => ?_⟩
  refine ha.w H G σ δ _ _ _ cr rs h (fun vs ds H1 G1 g1 r1 h1 => ?_) x
  obtain ⟨d, l, rfl, el, f⟩ := h1
  obtain ⟨v, rfl, r2⟩ := r1.one
  have fin : ∀ {ys : List V}, RepL X.K G1 ys l → ∀ l0, H1 l0 = none → Q (.ref l0) (upd H1 l0 (.lst ys)) := fun {ys} ry l0 hl0 =>
    q l0 ys l _ G1 (g1.trans ((Go.mine g1.sub hl0).lift g1.deal)) upd_same (nfree g1 hl0) (g1.back cr.dlok hl0) ry f
  cases d with
  | lst ds =>
    cases el
    obtain ⟨a, xs, rfl, g2, r3⟩ := r2.lst_of
    exact ⟨a, xs, rfl, .inl (SqL.of (g1.sub _ _ g2)), fin r3⟩
  | tup ds =>
    cases el
    obtain ⟨a, xs, rfl, g2, r3⟩ := r2.tup_of
    exact ⟨a, xs, rfl, .inr (same_t g1.sub g2), fin r3⟩
  | _ => cases el
def msParOO (i j : Nat) (ma mb : MA) : MS := fun δ k => ma δ (fun xs => mb δ (fun ys => k.nx ((δ.set i (.own xs)).set j (.own ys))) (fun _ => False)) (fun _ => False)
theorem ds_parOO (i j : Nat) {x y : Str} {ma mb : MA} {px py pt : Pos} {kt k2 pt2} (hc : X.calm = true) (hN : X.N.Nodup) (hi : X.N[i]? = some x) (hj : X.N[j]? = some y) (hij : i ≠ j)
    (hx : X.env.scope.names.lookup x = some .local) (hy : X.env.scope.names.lookup y = some .local) (ha : OE X c W a ta ma) (hb : OE X c W b tb mb)
    (s1 : starEach [b] X.env = [(false, eval b X.env)] := by rfl) (s2 : starEach [a, b] X.env = (false, eval a X.env) :: starEach [b] X.env := by rfl)
    (hw : swappedStores [.Tuple [.Name x px, .Name y py] kt pt] (.Tuple [a, b] k2 pt2) X.env = pure (some [x, y]) := by rfl)
    (hs : swapsWithSole [.Tuple [.Name x px, .Name y py] kt pt] (.Tuple [a, b] k2 pt2) pos.line X.env = pure false := by rfl) :
    DS X c W (.Assign [.Tuple [.Name x px, .Name y py] kt pt] (.Tuple [a, b] k2 pt2) pos) (tPar i j (tCons ta (tCons tb tNil))) (msParOO i j ma mb) := by
  refine ⟨ps_par hc hN hi hj hij hx hy (pa_cons ha.p (pa_cons hb.p pa_nil s1) s2) hw hs, fun H G σ δ k Y cr rs h en => ?_⟩
  refine ha.w H G σ δ _ _ _ cr rs h (fun p xs ds H1 G1 g1 h1 h2 h3 r1 f1 => ?_) XW.no
  have cr1 := cr.step g1
  have rs1 := rs.step cr g1
  refine hb.w H1 G1 σ δ _ _ _ cr1 rs1 f1 (fun q ys es H2 G2 g2 k1 k2 k3 r2 f2 => ?_) XW.no
  have cr2 := cr1.step g2
  have rs2 := rs1.step cr1 g2
  have hep : c.He p = none := He_none (H' := H) (G' := G) cr h3
  have heq : c.He q = none := He_none (H' := H1) (G' := G1) cr1 k3
  have hp2 : H2 p = some (.lst xs) := g2.keep _ _ h1 (notDl_own cr1 hep)
  have gp2 : G2 p = none := by
    cases z : G2 p with
    | none => rfl
    | some o => rcases g2.new _ _ z with y | y
                · rw [h2] at y; cases y
                · rw [h1] at y; cases y
  refine ⟨_, _, rfl, ?_⟩
  have neq : ∀ {z : Addr}, (∀ o, H z = some o → False) → ∀ (j' : Nat) (es' : List D), δ[j']? = some (.own es') → σ[j']? ≠ some (some (.ref z)) := fun {z} hz j' es' e' w => by
    obtain ⟨y', q1, p', xs', q2, q3, _⟩ := rs.at_ _ _ e'
    subst q2
    rw [q1] at w
    cases w
    exact hz _ q3
  have rs3 := rs2.own (p := p) (xs := xs) (ds := ds) i hp2 gp2 hep (r1.mono g2.grow) (neq fun o z => by rw [h3] at z; cases z)
  have Hq : H q = none := by
    cases z : H q with
    | none => rfl
    | some o =>
      by_cases nd : NotDl c.dl q
      · rw [g1.keep _ _ z nd] at k3
        cases k3
      · exact absurd (notDl_own cr1 heq) nd
  have rs4 := rs3.own (p := q) (xs := ys) (ds := es) j k1 k2 heq r2 fun j' es' e' w => by
    by_cases ei : i = j'
    · subst ei
      have hl : i < σ.length := by
        have := (List.getElem?_eq_some_iff.mp w).1
        rwa [List.length_set] at this
      rw [List.getElem?_set_self hl] at w
      cases w
      rw [h1] at k3
      cases k3
    · rw [List.getElem?_set_ne ei] at e' w
      exact neq (fun o z => by rw [Hq] at z; cases z) j' es' e' w
  exact en.nx _ _ H2 G2 cr2 rs4 (g1.grow.trans g2.grow) f2
end
end DL

set_option Elab.async false
set_option linter.all false
set_option maxRecDepth 100000
set_option maxHeartbeats 4000000
namespace DL
open PySem L2 PySem.Spec PyProof.Rows
/-! ### own lists changed -/
theorem slot_extend : Slot "list" "extend" "list.extend" := PySem.F.slot_list_extend
theorem slot_reverse : Slot "list" "reverse" "list.reverse" := PySem.F.slot_list_reverse
section
variable {X : Cx} {c : Ct} {W : WX} {K : Fg} {e i : Expr} {pos : Pos} {me mi : ME} {te ti : TE}
def msAppO (j : Nat) (me : ME) : MS := fun δ k => match δ[j]? with
  | some (.own ds) => me δ (fun d => ds.length < sizeLine ∧ k.nx (δ.set j (.own (ds ++ [d])))) (fun x => k.rs x δ)
  | _ => False
theorem ws_appO (j : Nat) (he : WE K c W te me) : WS K c W (tDrop (tBM K "list" rAppend (tVar j) (tCons te tNil))) (msAppO j me) := fun H G σ δ k Y cr rs hm en => by
  unfold msAppO at hm
  split at hm
  · rename_i ds ej
    obtain ⟨y, q1, p, ys, q2, q3, q4, q5, q6⟩ := rs.at_ _ _ ej
    subst q2
    refine ⟨_, q1, .inl ⟨rfl, _, SqL.of q3⟩, ?_⟩
    refine he H G σ δ _ _ _ cr rs hm (fun v d H1 G1 g1 r1 h1 => ?_) (en.xw cr rs)
    have cr1 := cr.step g1
    have rs1 := rs.step cr g1
    obtain ⟨y, u1, p', ys', u2, u3, u4, u5, u6⟩ := rs1.at_ _ _ ej
    rw [q1] at u1
    cases u1
    cases u2
    refine ⟨p, ys', v, rfl, rfl, u3, by rw [u6.length]; exact h1.1, ?_⟩
    exact en.nx _ _ _ G1 (cr1.setOwn u3 u4 u5) (rs1.setOwn cr1 ej q1 u3 u4 u5 (u6.append (.cons r1 .nil))) g1.grow h1.2
  · exact hm.elim
theorem ds_appO (j : Nat) {z : Str} {zp ap cp : Pos} (hz : PE X (.Name z zp) (tVar j)) (he : DE X c W e te me)
    (hbase : attributeBase (.Name z zp) "append" X.env (eval (.Name z zp) X.env) = eval (.Name z zp) X.env := by rfl)
    (hfew : ((backTo cp (starEach [e] X.env)).all (fun x => !x.1) && (backToKw cp (keywordEach [] X.env)).all (fun x => x.1.isSome)
      && decide ([e].length + ([] : List Keyword).length + (if ([] : List Keyword).isEmpty then 0 else 1) < 30)) = true := by rfl)
    (hline : (ap.endLine == cp.line) = true := by rfl) (h1 : starEach [e] X.env = (false, eval e X.env) :: starEach [] X.env := by rfl) (h2 : (backTo cp (starEach [] X.env)).any (·.1) = false := by rfl)
    (hs : swapsWith (.Call (.Attribute (.Name z zp) "append" ap) [e] [] cp) none pos.line X.env = pure false := by rfl) :
    DS X c W (.Expr (.Call (.Attribute (.Name z zp) "append" ap) [e] [] cp) pos) (tDrop (tBM X.K "list" rAppend (tVar j) (tCons te tNil))) (msAppO j me) :=
  ⟨ps_expr (pe_bm PySem.F.plainAttrs_list slot_append type_append mt_append hz (pa_cons he.p pa_nil h1) hbase hfew hline h1 h2) hs, ws_appO j he.w⟩
def msExtO (j : Nat) (me : ME) : MS := fun δ k => match δ[j]? with
  | some (.own ds) => me δ (fun d => match d with
    | .lst l => ds.length + l.length ≤ sizeLine ∧ k.nx (δ.set j (.own (ds ++ l)))
    | _ => False) (fun x => k.rs x δ)
  | _ => False
theorem ws_extO (j : Nat) (he : WE K c W te me) : WS K c W (tDrop (tBM K "list" rExtend (tVar j) (tCons te tNil))) (msExtO j me) := fun H G σ δ k Y cr rs hm en => by
  unfold msExtO at hm
  split at hm
  · rename_i ds ej
    obtain ⟨y, q1, p, ys, q2, q3, q4, q5, q6⟩ := rs.at_ _ _ ej
    subst q2
    refine ⟨_, q1, .inl ⟨rfl, _, SqL.of q3⟩, ?_⟩
    refine he H G σ δ _ _ _ cr rs hm (fun v d H1 G1 g1 r1 h1 => ?_) (en.xw cr rs)
    have cr1 := cr.step g1
    have rs1 := rs.step cr g1
    obtain ⟨y, u1, p', ys', u2, u3, u4, u5, u6⟩ := rs1.at_ _ _ ej
    rw [q1] at u1
    cases u1
    cases u2
    split at h1
    · obtain ⟨a, xs, rfl, g2, r2⟩ := r1.lst_of
      refine ⟨p, a, ys', xs, rfl, rfl, u3, g1.sub _ _ g2, by rw [u6.length, r2.length]; exact h1.1, ?_⟩
      exact en.nx _ _ _ G1 (cr1.setOwn u3 u4 u5) (rs1.setOwn cr1 ej q1 u3 u4 u5 (u6.append r2)) g1.grow h1.2
    · exact h1.elim
  · exact hm.elim
theorem ds_extO (j : Nat) {z : Str} {zp ap cp : Pos} (hz : PE X (.Name z zp) (tVar j)) (he : DE X c W e te me)
    (hbase : attributeBase (.Name z zp) "extend" X.env (eval (.Name z zp) X.env) = eval (.Name z zp) X.env := by rfl)
    (hfew : ((backTo cp (starEach [e] X.env)).all (fun x => !x.1) && (backToKw cp (keywordEach [] X.env)).all (fun x => x.1.isSome)
      && decide ([e].length + ([] : List Keyword).length + (if ([] : List Keyword).isEmpty then 0 else 1) < 30)) = true := by rfl)
    (hline : (ap.endLine == cp.line) = true := by rfl) (h1 : starEach [e] X.env = (false, eval e X.env) :: starEach [] X.env := by rfl) (h2 : (backTo cp (starEach [] X.env)).any (·.1) = false := by rfl)
    (hs : swapsWith (.Call (.Attribute (.Name z zp) "extend" ap) [e] [] cp) none pos.line X.env = pure false := by rfl) :
    DS X c W (.Expr (.Call (.Attribute (.Name z zp) "extend" ap) [e] [] cp) pos) (tDrop (tBM X.K "list" rExtend (tVar j) (tCons te tNil))) (msExtO j me) :=
  ⟨ps_expr (pe_bm PySem.F.plainAttrs_list slot_extend PySem.F.type_list_extend mt_extend hz (pa_cons he.p pa_nil h1) hbase hfew hline h1 h2) hs, ws_extO j he.w⟩
def msRevO (j : Nat) : MS := fun δ k => match δ[j]? with
  | some (.own ds) => k.nx (δ.set j (.own ds.reverse))
  | _ => False
theorem ws_revO (j : Nat) : WS K c W (tDrop (tBM0 K "list" rReverse (tVar j))) (msRevO j) := fun H G σ δ k Y cr rs hm en => by
  unfold msRevO at hm
  split at hm
  · rename_i ds ej
    obtain ⟨y, q1, p, ys, q2, q3, q4, q5, q6⟩ := rs.at_ _ _ ej
    subst q2
    refine ⟨_, q1, .inl ⟨rfl, _, SqL.of q3⟩, p, ys, rfl, rfl, q3, ?_⟩
    exact en.nx _ _ _ G (cr.setOwn q3 q4 q5) (rs.setOwn cr ej q1 q3 q4 q5 q6.rev) (Same.refl _) hm
  · exact hm.elim
theorem ds_revO (j : Nat) {z : Str} {zp ap cp : Pos} (hz : PE X (.Name z zp) (tVar j)) (hbase : attributeBase (.Name z zp) "reverse" X.env (eval (.Name z zp) X.env) = eval (.Name z zp) X.env := by rfl) (hline : (ap.endLine == cp.line) = true := by rfl)
    (hs : swapsWith (.Call (.Attribute (.Name z zp) "reverse" ap) [] [] cp) none pos.line X.env = pure false := by rfl) :
    DS X c W (.Expr (.Call (.Attribute (.Name z zp) "reverse" ap) [] [] cp) pos) (tDrop (tBM0 X.K "list" rReverse (tVar j))) (msRevO j) :=
  ⟨ps_expr (pe_bm0 PySem.F.plainAttrs_list slot_reverse PySem.F.type_list_reverse mt_reverse hz hbase hline) hs, ws_revO j⟩
/-! found.append(rest.pop(i)) -/
def msAppPop (f r : Nat) (mi : ME) : MS := fun δ k => match δ[f]?, δ[r]? with
  | some (.own fs), some (.own rs) => mi δ (fun i => match i with
    | .int i => 0 ≤ i ∧ i < rs.length ∧ rs.length < 1000 ∧ fs.length < 1000 ∧ ∀ d, rs[i.toNat]? = some d → k.nx ((δ.set r (.own (rs.eraseIdx i.toNat))).set f (.own (fs ++ [d])))
    | _ => False) (fun x => k.rs x δ)
  | _, _ => False
theorem ws_appPop (f r : Nat) (hfr : f ≠ r) (hi : WE K c W ti mi) : WS K c W (tDrop (tBM K "list" rAppend (tVar f) (tCons (tBM K "list" rPopAt (tVar r) (tCons ti tNil)) tNil))) (msAppPop f r mi) := fun H G σ δ k Y cr rs hm en => by
  unfold msAppPop at hm
  split at hm
  · rename_i fs rr ef er
    obtain ⟨y, q1, p, ys, q2, q3, q4, q5, q6⟩ := rs.at_ _ _ ef
    subst q2
    obtain ⟨y, w1, p2, zs, w2, w3, w4, w5, w6⟩ := rs.at_ _ _ er
    subst w2
    refine ⟨_, q1, .inl ⟨rfl, _, SqL.of q3⟩, _, w1, .inl ⟨rfl, _, SqL.of w3⟩, ?_⟩
    refine hi H G σ δ _ _ _ cr rs hm (fun v d H1 G1 g1 r1 h1 => ?_) (en.xw cr rs)
    have cr1 := cr.step g1
    have rs1 := rs.step cr g1
    obtain ⟨y, u1, p', ys', u2, u3, u4, u5, u6⟩ := rs1.at_ _ _ ef
    rw [q1] at u1
    cases u1
    cases u2
    obtain ⟨y, x1, p', zs', x2, x3, x4, x5, x6⟩ := rs1.at_ _ _ er
    rw [w1] at x1
    cases x1
    cases x2
    split at h1
    · rename_i n
      obtain ⟨n0, n1, l1, l2, h1⟩ := h1
      have hn : n.toNat < rr.length := by omega
      have hd : rr[n.toNat]? = some rr[n.toNat] := List.getElem?_eq_getElem hn
      obtain ⟨y, hy, ry⟩ := x6.get hd
      have lz := x6.length
      have hi2 : n < 2 ^ 63 := by
        have : (1000 : Int) < 2 ^ 63 := by decide
        omega
      refine ⟨p2, zs', n, n.toNat, y, rfl, by rw [r1.int_of], x3, by omega, hi2, seqIndex_of n0 (by omega), hy, ?_⟩
      have ne : p ≠ p2 := fun z => by
        subst z
        exact rs1.sep f r p fs rr hfr ef er q1 w1
      have cr2 := cr1.setOwn (ys := zs'.eraseIdx n.toNat) x3 x4 x5
      have rs2 := rs1.setOwn cr1 er w1 x3 x4 x5 (x6.erase n.toNat)
      have u3' : upd H1 p2 (.lst (zs'.eraseIdx n.toNat)) p = some (.lst ys') := by rw [upd_ne ne]; exact u3
      refine ⟨p, ys', y, rfl, rfl, u3', by rw [u6.length]; exact Nat.lt_trans l2 (by decide), ?_⟩
      have ef2 : (δ.set r (.own (rr.eraseIdx n.toNat)))[f]? = some (.own fs) := by rw [List.getElem?_set_ne (Ne.symm hfr)]; exact ef
      exact en.nx _ _ _ G1 (cr2.setOwn u3' u4 u5) (rs2.setOwn cr2 ef2 q1 u3' u4 u5 (u6.append (.cons ry .nil))) g1.grow (h1 _ hd)
    · exact h1.elim
  · exact hm.elim
theorem ds_appPop (f r : Nat) {z y : Str} {zp ap cp yp bp dp : Pos} (hfr : f ≠ r) (hz : PE X (.Name z zp) (tVar f)) (hy : PE X (.Name y yp) (tVar r)) (hi : DE X c W i ti mi)
    (hp : PE X (.Name y yp) (tVar r) → PE X i ti → PE X (.Call (.Attribute (.Name y yp) "pop" bp) [i] [] dp) (tBM X.K "list" rPopAt (tVar r) (tCons ti tNil)) := by exact fun a b => pe_bm PySem.F.plainAttrs_list slot_pop type_pop mt_popAt a (pa_cons b pa_nil))
    (hbase : attributeBase (.Name z zp) "append" X.env (eval (.Name z zp) X.env) = eval (.Name z zp) X.env := by rfl)
    (hfew : ((backTo cp (starEach [.Call (.Attribute (.Name y yp) "pop" bp) [i] [] dp] X.env)).all (fun x => !x.1) && (backToKw cp (keywordEach [] X.env)).all (fun x => x.1.isSome)
      && decide ([Expr.Call (.Attribute (.Name y yp) "pop" bp) [i] [] dp].length + ([] : List Keyword).length + (if ([] : List Keyword).isEmpty then 0 else 1) < 30)) = true := by rfl)
    (hline : (ap.endLine == cp.line) = true := by rfl) (h1 : starEach [.Call (.Attribute (.Name y yp) "pop" bp) [i] [] dp] X.env = (false, eval (.Call (.Attribute (.Name y yp) "pop" bp) [i] [] dp) X.env) :: starEach [] X.env := by rfl) (h2 : (backTo cp (starEach [] X.env)).any (·.1) = false := by rfl)
    (hs : swapsWith (.Call (.Attribute (.Name z zp) "append" ap) [.Call (.Attribute (.Name y yp) "pop" bp) [i] [] dp] [] cp) none pos.line X.env = pure false := by rfl) :
    DS X c W (.Expr (.Call (.Attribute (.Name z zp) "append" ap) [.Call (.Attribute (.Name y yp) "pop" bp) [i] [] dp] [] cp) pos) (tDrop (tBM X.K "list" rAppend (tVar f) (tCons (tBM X.K "list" rPopAt (tVar r) (tCons ti tNil)) tNil))) (msAppPop f r mi) :=
  ⟨ps_expr (pe_bm PySem.F.plainAttrs_list slot_append type_append mt_append hz (pa_cons (hp hy hi.p) pa_nil h1) hbase hfew hline h1 h2) hs, ws_appPop f r hfr hi.w⟩
end
theorem perm_at {α : Type} : ∀ {l : List α} {i : Nat} (h : i < l.length), (l[i] :: l.eraseIdx i).Perm l
  | _ :: _, 0, _ => .refl _
  | x :: l, i + 1, h => by
    have h' : i < l.length := by simpa using h
    show (l[i] :: x :: l.eraseIdx i).Perm (x :: l)
    exact (List.Perm.swap _ _ _).trans ((perm_at h').cons x)
/-- a loop that counts down -/
theorem forD_cnt {mg : MG} {mb : MS} {k : MK} (I : Nat → List Sl → Prop) : ∀ (ds : List D) (δ : List Sl), (∀ d ∈ ds, ∀ n δ, I (n + 1) δ → ∀ k' : MK, (∀ δ2, I n δ2 → k'.nx δ2) → mg d δ fun δ' => mb δ' k') → I ds.length δ → (∀ δ, I 0 δ → k.nx δ) → forD mg mb ds δ k
  | [], δ, _, i, h => h δ i
  | d :: ds, δ, st, i, h => by
    refine st d (by simp) ds.length δ i _ fun δ2 i2 => ?_
    exact forD_cnt I ds δ2 (fun e he => st e (by simp [he])) i2 h
end DL

set_option Elab.async false
set_option linter.all false
set_option maxRecDepth 100000
set_option maxHeartbeats 4000000
namespace DL
open PySem L2 PySem.Spec PyProof.Rows
abbrev gSub : D → D → (D → Prop) → Prop := gI0 fun i j => .int (i - j)
theorem rd_sub {K : Fg} : RD K (rI0 fun i j => .int (i - j)) gSub := rd_I0 fun i j G => .int _
section
variable {X : Cx} {c : Ct} {W : WX} {e a b d : Expr} {es : List Expr} {pos p tpos : Pos} {ma : ME} {mr : MA} {ta : TE} {tr : TA} {elts : List Expr} {kk : Nat} {K : Fg}
def mNeg (ma : ME) : ME := fun δ F X => ma δ (fun d => match d with
  | .int i => F (.int (-i))
  | _ => False) X
theorem de_neg (ha : DE X c W a ta ma) : DE X c W (.UnaryOp .USub a pos) (tUn (rU fun i => .int (-i)) ta) (mNeg ma) := by
  refine ⟨pe_un un_neg ha.p, fun H G σ δ F Y Q cr rs h q x => ?_⟩
  refine ha.w H G σ δ _ _ _ cr rs h (fun v d H1 G1 g1 r1 h1 => ?_) x
  split at h1
  · exact ⟨_, r1.int_of, q _ _ H1 G1 g1 (.int _) h1⟩
  · exact h1.elim
def gMin (ds : List D) (F : D → Prop) : Prop := match ds with
  | [.int i, .int j] => F (.int (if j < i then j else i))
  | _ => False
theorem cd_min : CD K (fun xs H Q => ∃ i j, xs = [.int i, .int j] ∧ Q (.int (if j < i then j else i)) H) gMin := fun H G vs ds F Q s r h q => by
  unfold gMin at h
  split at h
  · obtain ⟨v, u, rfl, r1, r2⟩ := r.two
    exact ⟨_, _, by rw [r1.int_of, r2.int_of], q _ _ H G (Go.refl s .no) (.int _) h⟩
  · exact h.elim
/-! enumerate(xs), zip(xs, ys) of known lists -/
def enumD : Nat → List D → List D
  | _, [] => []
  | k, d :: r => .tup [.int k, d] :: enumD (k + 1) r
theorem enumD_get : ∀ (ds : List D) (k i : Nat), (enumD k ds)[i]? = ds[i]?.map fun d => .tup [.int ((k + i : Nat) : Int), d]
  | [], _, _ => by simp [enumD]
  | d :: ds, k, 0 => by simp [enumD]
  | d :: ds, k, i + 1 => by
    show (enumD (k + 1) ds)[i]? = ds[i]?.map _
    rw [enumD_get ds (k + 1) i, show k + 1 + i = k + (i + 1) by omega]
theorem enumD_len : ∀ (ds : List D) (k : Nat), (enumD k ds).length = ds.length
  | [], _ => rfl
  | d :: ds, k => congrArg Nat.succ (enumD_len ds (k + 1))
theorem walk_enum {G0 : Hp} {a : Addr} {xs : List V} {as : List D} (ha : G0 a = some (.lst xs)) (ra : RepL K G0 xs as) : IsWalk K G0 (Ite K a) (enumD 0 as) := fun i H G s sg => by
  have hA : SqL K H a xs := SqL.of (sg _ _ (s _ _ ha))
  refine ⟨fun d e => ?_, fun e => ⟨xs, hA, by rw [enumD_len] at e; rw [ra.length]; omega⟩⟩
  rw [enumD_get] at e
  cases e1 : as[i]? with
  | none => rw [e1] at e; cases e
  | some u =>
    rw [e1] at e
    cases e
    obtain ⟨x, f1, r1⟩ := ra.get e1
    refine ⟨⟨xs, x, hA, f1⟩, fun v H' ⟨T, x', h1, h2, h3, h4⟩ => ?_⟩
    subst h1 h3
    have h4 := h4 _ hA
    rw [f1] at h4
    cases h4
    have gl := Go.laid (o := .tup [.int (i : Nat), x]) sg h2
    refine ⟨_, gl, .tup (SqT.of upd_same) (.cons ?_ (.cons ((r1.mono s).mono gl.grow) .nil))⟩
    rw [Nat.zero_add]
    exact .int _
def miEnum (ma : ME) : MA := fun δ F X => ma δ (fun d => match d with
  | .lst ds => F (enumD 0 ds)
  | _ => False) X
theorem di_enum (hg : Gl X "enumerate") (hm : X.mg "enumerate" = none) (ha : DE X c W e ta ma) (hs : starEach [e] X.env = [(false, eval e X.env)] := by rfl) :
    DI X c W (.Tuple elts kk tpos) (.Call (.Name "enumerate" p) [e] [] pos) (iEnum X.K (tCons ta tNil)) (miEnum ma) := by
  refine ⟨pi_enum hg hm (pa_cons ha.p pa_nil hs) hs, fun H G σ δ F Y R cr rs h q x => ?_⟩
  refine ha.w H G σ δ _ _ _ cr rs h (fun v d H1 G1 g1 r1 h1 => ?_) x
  split at h1
  · obtain ⟨a, xs, rfl, g2, r2⟩ := r1.lst_of
    exact ⟨a, xs, rfl, SqL.of (g1.sub _ _ g2), q _ _ H1 G1 g1 (walk_enum g2 r2) h1⟩
  · exact h1.elim
theorem walk_zipK {G0 : Hp} {a b : Addr} {xs ys : List V} {as bs : List D} (ha : G0 a = some (.lst xs)) (ra : RepL K G0 xs as) (hb : G0 b = some (.lst ys)) (rb : RepL K G0 ys bs) :
    IsWalk K G0 (Itz K a b) (List.zipWith (fun a b => D.tup [a, b]) as bs) := fun i H G s sg => by
  have := walk_zipO (K := K) (dl := none) (H0 := H) (G0 := G) (s _ _ ha) (ra.mono s) (sg _ _ (s _ _ hb)) .non (rb.mono s) i H G (Go.refl sg .no)
  exact this
def miZipK (mr : MA) : MA := fun δ F X => mr δ (fun ds => match ds with
  | [.lst as, .lst bs] => F (List.zipWith (fun a b => D.tup [a, b]) as bs)
  | _ => False) X
theorem di_zipK {e2 : Expr} (hg : Gl X "zip") (hm : X.mg "zip" = none) (ha : DA X c W [e, e2] tr mr) (hs : starEach [e, e2] X.env = (false, eval e X.env) :: starEach [e2] X.env := by rfl) (hpl : (backTo pos (starEach [e2] X.env)).any (·.1) = false := by rfl) :
    DI X c W (.Tuple elts kk tpos) (.Call (.Name "zip" p) [e, e2] [] pos) (iZip X.K tr) (miZipK mr) := by
  refine ⟨pi_zip hg hm ha.p hs hpl, fun H G σ δ F Y R cr rs h q x => ?_⟩
  refine ha.w H G σ δ _ _ _ cr rs h (fun vs ds H1 G1 g1 r1 h1 => ?_) x
  split at h1
  · obtain ⟨u, v, rfl, ru, rv⟩ := r1.two
    obtain ⟨a, xs, rfl, g2, r2⟩ := ru.lst_of
    obtain ⟨b, ys, rfl, g3, r3⟩ := rv.lst_of
    exact ⟨a, b, xs, ys, rfl, SqL.of (g1.sub _ _ g2), SqL.of (g1.sub _ _ g3), q _ _ H1 G1 g1 (walk_zipK g2 r2 g3 r3) h1⟩
  · exact h1.elim
/-- a, b, d = x, y, z -/
def msPar3 (i j l : Nat) (ma : MA) : MS := fun δ k => ma δ (fun ds => match ds with
  | [d, e, f] => k.nx (((δ.set i (.dat d)).set j (.dat e)).set l (.dat f))
  | _ => False) (fun x => k.rs x δ)
theorem ds_par3 (i j l : Nat) {x y z : Str} {px py pz pt : Pos} {kt k2 pt2} (hc : X.calm = true) (hN : X.N.Nodup) (hi : X.N[i]? = some x) (hj : X.N[j]? = some y) (hl : X.N[l]? = some z) (hij : i ≠ j) (hil : i ≠ l) (hjl : j ≠ l)
    (hx : X.env.scope.names.lookup x = some .local) (hy : X.env.scope.names.lookup y = some .local) (hz : X.env.scope.names.lookup z = some .local) (ha : DA X c W [a, b, d] tr mr)
    (hw : swappedStores [.Tuple [.Name x px, .Name y py, .Name z pz] kt pt] (.Tuple [a, b, d] k2 pt2) X.env = pure (some [x, y, z]) := by rfl)
    (hs : swapsWithSole [.Tuple [.Name x px, .Name y py, .Name z pz] kt pt] (.Tuple [a, b, d] k2 pt2) pos.line X.env = pure false := by rfl) :
    DS X c W (.Assign [.Tuple [.Name x px, .Name y py, .Name z pz] kt pt] (.Tuple [a, b, d] k2 pt2) pos) (tPar3 i j l tr) (msPar3 i j l mr) := by
  refine ⟨ps_par3 hc hN hi hj hl hij hil hjl hx hy hz ha.p hw hs, fun H G σ δ k Y cr rs h en => ?_⟩
  refine ha.w H G σ δ _ _ _ cr rs h (fun vs ds H1 G1 g1 r1 h1 => ?_) (en.xw cr rs)
  split at h1
  · cases r1 with
    | cons q1 r1 =>
      cases r1 with
      | cons q2 r1 =>
        cases r1 with
        | cons q3 r1 =>
          cases r1
          exact ⟨_, _, _, rfl, en.nx _ _ H1 G1 (cr.step g1) ((((rs.step cr g1).set i q1).set j q2).set l q3) g1.grow h1⟩
  · exact h1.elim
end
end DL

set_option Elab.async false
set_option linter.all false
set_option maxRecDepth 100000
set_option maxHeartbeats 4000000
namespace DL
open PySem L2 PySem.Spec PyProof.Rows
/-- a comprehension over a list that is made of others, with tests, names bound in any way -/
theorem lcD_gA {α : Type} {mg : MG} {mt : MT} {me : ME} {δ : List Sl} {F : List D → Prop} (g : α → D) (gd : α → List Sl) (p : α → Bool) (f : α → D) : ∀ (ss : List α) (acc : List D),
    (∀ s ∈ ss, (∀ F' : List Sl → Prop, F' (gd s) → mg (g s) δ F') ∧ (∀ F' : Bool → Prop, F' (p s) → mt (gd s) F' (fun _ => False)) ∧ (p s = true → ∀ F' : D → Prop, F' (f s) → me (gd s) F' (fun _ => False))) →
    F (acc ++ (ss.filter p).map f) → lcD mg mt me δ F (ss.map g) acc
  | [], acc, _, h => by
    rw [List.filter_nil, List.map_nil, List.append_nil] at h
    exact h
  | s :: ss, acc, hs, h => by
    obtain ⟨h1, h2, h3⟩ := hs s (List.mem_cons_self ..)
    refine h1 _ (h2 _ ?_)
    cases e : p s with
    | true =>
      rw [List.filter_cons_of_pos e, List.map_cons] at h
      show (if true = true then me (gd s) (fun r => lcD mg mt me δ F (ss.map g) (acc ++ [r])) (fun _ => False) else lcD mg mt me δ F (ss.map g) acc)
      rw [if_pos rfl]
      exact h3 e _ (lcD_gA g gd p f ss _ (fun t m => hs t (List.mem_cons_of_mem _ m)) (by rw [List.append_assoc]; exact h))
    | false =>
      rw [List.filter_cons_of_neg (by rw [e]; decide)] at h
      show (if false = true then me (gd s) (fun r => lcD mg mt me δ F (ss.map g) (acc ++ [r])) (fun _ => False) else lcD mg mt me δ F (ss.map g) acc)
      rw [if_neg (by decide)]
      exact lcD_gA g gd p f ss _ (fun t m => hs t (List.mem_cons_of_mem _ m)) h
theorem cut_take {α : Type} {xs : List α} {j : Int} (h : 0 ≤ j) : cutD xs none (some j) = xs.take j.toNat := by
  unfold cutD
  have e1 : HT.sIx xs.length 0 none = 0 := rfl
  have e2 : HT.sIx xs.length xs.length (some j) = min j.toNat xs.length := by
    unfold HT.sIx
    dsimp only
    split <;> omega
  rw [e1, e2, List.drop_zero, Nat.sub_zero]
  rcases Nat.le_total j.toNat xs.length with q | q
  · rw [Nat.min_eq_left q]
  · rw [Nat.min_eq_right q, List.take_of_length_le (Nat.le_refl _), List.take_of_length_le q]
theorem cut_drop {α : Type} {xs : List α} {j : Int} (h : 0 ≤ j) : cutD xs (some j) none = xs.drop j.toNat := by
  unfold cutD
  have e1 : HT.sIx xs.length xs.length none = xs.length := rfl
  have e2 : HT.sIx xs.length 0 (some j) = min j.toNat xs.length := by
    unfold HT.sIx
    dsimp only
    split <;> omega
  rw [e1, e2]
  rcases Nat.le_total j.toNat xs.length with q | q
  · rw [Nat.min_eq_left q, List.take_of_length_le (by rw [List.length_drop]; omega)]
  · rw [Nat.min_eq_right q, List.drop_of_length_le q, List.drop_of_length_le (Nat.le_refl _), List.take_nil]
theorem inD_strs (x : Str) : ∀ xs : List Str, inD (.str x) (xs.map .str) = decide (x ∈ xs)
  | [] => rfl
  | y :: xs => by
    show (eqD (.str y) (.str x) || inD (.str x) (xs.map .str)) = _
    rw [inD_strs x xs]
    have e : eqD (.str y) (.str x) = decide (y = x) := rfl
    rw [e]
    by_cases h : y = x
    · subst h
      simp
    · have h' : ¬ x = y := fun z => h z.symm
      simp [h, h']
theorem flat_strs (xs : List Str) : (xs.map D.str).all flatD = true := List.all_eq_true.mpr fun d hd => by
  obtain ⟨x, _, rfl⟩ := List.mem_map.mp hd
  rfl
theorem perm_strs {l : List D} {xs : List Str} (h : l.Perm (xs.map .str)) : ∃ ys : List Str, l = ys.map D.str ∧ ys.Perm xs := by
  have un : ∀ zs : List Str, (zs.map D.str).map (fun d => match d with
    | .str z => z
    | _ => "") = zs := fun zs => by
    rw [List.map_map]
    exact List.map_id zs
  refine ⟨l.map (fun d => match d with
    | .str z => z
    | _ => ""), ?_, ?_⟩
  · rw [List.map_map]
    refine (List.map_id l).symm.trans (List.map_congr_left fun d hd => ?_)
    obtain ⟨z, _, rfl⟩ := List.mem_map.mp (h.subset hd)
    rfl
  · have := h.map (fun d => match d with
      | .str z => z
      | _ => ("" : Str))
    rwa [un] at this
end DL

set_option Elab.async false
set_option linter.all false
set_option maxRecDepth 100000
set_option maxHeartbeats 4000000
namespace DL
open PySem L2 PySem.Spec PyProof.Rows
/-! ### == of two tuples of objects, where each == says True -/
section
variable {X : Cx} {k : Nat} {good : Addr → Prop} {ff : Addr → FF}
def ownP (K : Fg) (good : Addr → Prop) (ff : Addr → FF) (d e : D) : Prop := ∃ C fs C' gs, d = .obj C fs ∧ e = .obj C' gs ∧ good C ∧ PySem.W.notFirst K C (.ref C') = true ∧ ∀ F : D → Prop, F (.bl true) → ff C [d, e] F (fun _ => False)
def DOwn (K : Fg) (good : Addr → Prop) (ff : Addr → FF) : Eqv := fun x y H => ∃ (G : Hp) (d e : D), Same G H ∧ Rep K G x d ∧ Rep K G y e ∧ ownP K good ff d e
theorem mon_own {K : Fg} : Mon (DOwn K good ff) := fun x y H H' x1 d => by
  obtain ⟨G, d, e, s, h⟩ := d
  exact ⟨G, d, e, fun a o q => x1 a o (s a o q), h⟩
theorem rcG_own (M : OwnM X.prog X.w X.K X.mg X.base good "__eq__" k 2 ff) : RcG X k (DOwn X.K good ff) := by
  intro A pins s σ H x y u v sb I rx ry d
  obtain ⟨G, d, e, sm, r1, r2, C, fs, C', gs, rfl, rfl, hC, hn, f⟩ := d
  obtain ⟨a, dx, fv, rfl, ha, _⟩ := id r1.obj_of
  obtain ⟨f0, fd, ps, hs, tf, hb, FO⟩ := M.ok C hC
  cases (show u = Value.ref a from rx)
  obtain ⟨mA, J, _⟩ := ins_get I.hok (sm _ _ ha)
  obtain ⟨od, J, _⟩ := J.look
  obtain ⟨m, hF⟩ := I.fr
  refine PySem.W.cmp_K (op := .Eq) (tb := .ref C') sb.room.units0 hF I.ok.mod.kin J (lk_ty (d := .obj C' gs) I sm r2 ry rfl) hn hs (typeIn_isFn tf) ?_
  have hsp : spD X.K 2 false (ff C) [.ref a, y] H (fun w H' => w = .bl true ∧ Ext H H') (fun _ _ _ => False) :=
    ⟨G, [.obj C fs, .obj C' gs], none, _, fun r => r = .bl true, fun _ => False, rfl, ⟨rfl, rfl⟩, sm, .no, .cons r1 (.cons r2 .nil), f _ rfl, fun w d H' G' g r h => ⟨by subst h; exact r.bl_of, fun b o q => g.keep b o q .non⟩, fun _ _ _ _ _ _ _ z => z⟩
  refine wpAny_mono (run_at (E := X.xe) (A := A) FO sb.room sb.fr hb I (vs := [.ref a, y]) (us := [.ref a, v]) (.cons rfl (.cons ry .nil)) hsp) (fun w s' hq => ?_) fun _ _ z => z
  obtain ⟨z, H', I', rz, rfl, x1⟩ := hq
  cases (show w = Value.bool true from rz)
  exact ⟨rfl, H', I', x1⟩
def gEqT (K : Fg) (good : Addr → Prop) (ff : Addr → FF) (d e : D) (F : D → Prop) : Prop := ∃ ss ts, d = .tup ss ∧ e = .tup ts ∧ ss.length = ts.length ∧ (∀ (i : Nat) a b, ss[i]? = some a → ts[i]? = some b → ownP K good ff a b) ∧ F (.bl true)
theorem op_eqT (M : OwnM X.prog X.w X.K X.mg X.base good "__eq__" k 2 ff) (hr : Room (k + 1) X.A) : OpR X (compareOp .Eq) (rEqG (DTup X.K (DOwn X.K good ff))) :=
  op_eqG (n := k + 1) (rcG_tup mon_own ((rcG_own M).eqG fun x y H d => by
    obtain ⟨G, d, e, sm, r1, r2, C, fs, C', gs, rfl, rfl, _⟩ := d
    obtain ⟨a, _, _, rfl, _⟩ := r1.obj_of
    obtain ⟨b, _, _, rfl, _⟩ := r2.obj_of
    exact ⟨a, b, rfl, rfl⟩)) hr
theorem rd_eqT {K : Fg} : RD K (rEqG (DTup K (DOwn K good ff))) (gEqT K good ff) := fun H G x y d e F Q s rx ry h q => by
  obtain ⟨ss, ts, rfl, rfl, hl, hp, f⟩ := h
  obtain ⟨a, xs, rfl, h1, r1⟩ := rx.tup_of
  obtain ⟨b, ys, rfl, h2, r2⟩ := ry.tup_of
  refine ⟨⟨a, b, xs, ys, rfl, rfl, same_t s h1, same_t s h2, ?_, fun i x y hx hy => ?_⟩, fun H' x1 => ?_⟩
  · rw [r1.length, r2.length, hl]
  · obtain ⟨d, e1, q1⟩ := r1.got hx
    obtain ⟨e, e2, q2⟩ := r2.got hy
    exact ⟨G, d, e, s, q1, q2, hp i d e e1 e2⟩
  · exact q (.bl true) _ H' G ⟨fun a o h _ => x1 a o h, Same.refl _, fun a o h => x1 a o (s a o h), fun a o h => .inl h, .no⟩ (.bl true) f
end
end DL

set_option Elab.async false
set_option linter.all false
set_option maxRecDepth 100000
set_option maxHeartbeats 4000000
namespace DL
open PySem L2 PySem.Spec PyProof.Rows
section
variable {X : Cx} {c : Ct} {W : WX} {K : Fg} {t a b : Expr} {pos : Pos} {p : MT} {ma mb : MA} {tp : TT} {ta tb : TE}
/-- a new list, one of two -/
def moIf (p : MT) (ma mb : MA) : MA := fun δ F X => p δ (fun z => if z = true then ma δ F X else mb δ F X) X
theorem oe_if (ht : DT X c W t tp p) (ha : OE X c W a ta ma) (hb : OE X c W b tb mb) : OE X c W (.IfExp t a b pos) (tIf tp ta tb) (moIf p ma mb) := by
  obtain ⟨pt, wt⟩ := ht
  obtain ⟨pa, wa⟩ := ha
  obtain ⟨pb, wb⟩ := hb
  refine ⟨pe_ifExp pt pa pb, fun H G σ δ F X Q cr rs hm q x => ?_⟩
  refine wt H G σ δ _ X _ cr rs hm (fun z H1 G1 g1 f => ?_) x
  cases z with
  | true => exact wa H1 G1 σ δ F X Q (cr.step g1) (rs.step cr g1) f (fun p xs ds H2 G2 g2 h1 h2 h3 r f2 => q p xs ds H2 G2 (g1.trans g2) h1 h2 (g1.back cr.dlok h3) r f2) (x.step g1)
  | false => exact wb H1 G1 σ δ F X Q (cr.step g1) (rs.step cr g1) f (fun p xs ds H2 G2 g2 h1 h2 h3 r f2 => q p xs ds H2 G2 (g1.trans g2) h1 h2 (g1.back cr.dlok h3) r f2) (x.step g1)
end
/-- a loop over a list that is made of others, by what is done of it -/
theorem forD_map {α : Type} {mg : MG} {mb : MS} {k : MK} (g : α → D) (I : List α → List Sl → Prop) (all : List α) : ∀ (ss dn : List α) (δ : List Sl), dn ++ ss = all → (∀ s dn rest δ, dn ++ s :: rest = all → I dn δ → ∀ k' : MK, (∀ δ2, I (dn ++ [s]) δ2 → k'.nx δ2) → k'.rt = k.rt → k'.rs = k.rs → mg (g s) δ fun δ' => mb δ' k') → I dn δ → (∀ δ, I all δ → k.nx δ) → forD mg mb (ss.map g) δ k
  | [], dn, δ, e, _, i, f => f δ (by rw [List.append_nil] at e; rw [← e]; exact i)
  | s :: ss, dn, δ, e, h, i, f => by
    refine h s dn ss δ e i _ (fun δ2 i2 => ?_) rfl rfl
    exact forD_map g I all ss (dn ++ [s]) δ2 (by rw [List.append_assoc]; exact e) h i2 f
end DL

set_option Elab.async false
set_option linter.all false
set_option maxRecDepth 100000
set_option maxHeartbeats 4000000
namespace DL
open PySem L2 PySem.Spec PyProof.Rows
section
variable {X : Cx} {c : Ct} {W : WX} {a b : Expr} {pos : Pos} {ma mb : ME} {ta tb : TE}
/-- a new list, put together of two -/
def moCat (ma mb : ME) : MA := fun δ F X => ma δ (fun d => mb δ (fun e => match d, e with
  | .lst xs, .lst ys => xs.length + ys.length ≤ sizeLine ∧ F (xs ++ ys)
  | _, _ => False) X) X
theorem oe_cat (ha : DE X c W a ta ma) (hb : DE X c W b tb mb) : OE X c W (.BinOp a .Add b pos) (tOp rCat ta tb) (moCat ma mb) := by
  refine ⟨pe_op op_cat ha.p hb.p, fun H G σ δ F Y Q cr rs h q x => ?_⟩
  refine ha.w H G σ δ _ Y _ cr rs h (fun v d H1 G1 g1 r1 h1 => ?_) x
  refine hb.w H1 G1 σ δ _ Y _ (cr.step g1) (rs.step cr g1) h1 (fun u e H2 G2 g2 r2 h2 => ?_) (x.step g1)
  have r1 := r1.mono g2.grow
  split at h2
  · rename_i xs ys
    obtain ⟨p1, vs, rfl, k1, q1⟩ := r1.lst_of
    obtain ⟨p2, us, rfl, k2, q2⟩ := r2.lst_of
    have g := g1.trans g2
    refine ⟨p1, p2, vs, us, rfl, rfl, g2.sub _ _ k1, g2.sub _ _ k2, by rw [q1.length, q2.length]; exact h2.1, fun l hl => ?_⟩
    exact q l _ _ _ G2 (g.trans ((Go.mine g2.sub hl).lift g2.deal)) upd_same (nfree g2 hl) (g.back cr.dlok hl) (q1.append q2) h2.2
  · exact h2.elim
end
end DL

set_option Elab.async false
set_option linter.all false
set_option maxRecDepth 100000
set_option maxHeartbeats 0
namespace K11
open PySem PySem.Spec PyProof.Rows L2 DL
abbrev PR : PySem.Program := PySem.Challenge.pw_meltback_k11_steps_and_their_texts
def top (i : Nat) : Stmt := PR.main.body.getD i (.Pass ⟨0, 0, 0, 0⟩)
def dfn (p : Str × Option Str) (x q : Str) (s : Stmt) (d : List He.Dv := []) : He.DefD := ⟨p, x, q, defArgs s, defBody s, defScope s, d, []⟩
abbrev s_is_sequence : Stmt := top 9
abbrev s_is_word : Stmt := top 10
abbrev s_is_name : Stmt := top 11
abbrev s_is_text : Stmt := top 12
abbrev s_are_names : Stmt := top 13
abbrev s_need : Stmt := top 16
abbrev s_are_steps : Stmt := top 17
abbrev s_Pick_init : Stmt := inClass (top 18) 0
abbrev s_Pick_eq : Stmt := inClass (top 18) 1
abbrev s_Pick_str : Stmt := inClass (top 18) 2
abbrev s_Rename_init : Stmt := inClass (top 19) 0
abbrev s_Rename_eq : Stmt := inClass (top 19) 1
abbrev s_Rename_str : Stmt := inClass (top 19) 2
abbrev s_Has_init : Stmt := inClass (top 20) 0
abbrev s_Has_eq : Stmt := inClass (top 20) 1
abbrev s_Has_str : Stmt := inClass (top 20) 2
abbrev s_Is_init : Stmt := inClass (top 21) 0
abbrev s_Is_eq : Stmt := inClass (top 21) 1
abbrev s_Is_str : Stmt := inClass (top 21) 2
abbrev s_Put_init : Stmt := inClass (top 22) 0
abbrev s_Put_eq : Stmt := inClass (top 22) 1
abbrev s_Put_str : Stmt := inClass (top 22) 2
abbrev s_Alike_init : Stmt := inClass (top 23) 0
abbrev s_Alike_eq : Stmt := inClass (top 23) 1
abbrev s_Alike_str : Stmt := inClass (top 23) 2
abbrev s_Melt_init : Stmt := inClass (top 24) 0
abbrev s_Melt_eq : Stmt := inClass (top 24) 1
abbrev s_Melt_str : Stmt := inClass (top 24) 2
abbrev s_Pivot_init : Stmt := inClass (top 25) 0
abbrev s_Pivot_eq : Stmt := inClass (top 25) 1
abbrev s_Pivot_str : Stmt := inClass (top 25) 2
abbrev s_Join_init : Stmt := inClass (top 26) 0
abbrev s_Join_eq : Stmt := inClass (top 26) 1
abbrev s_Join_str : Stmt := inClass (top 26) 2
abbrev s_Stack_init : Stmt := inClass (top 27) 0
abbrev s_Stack_eq : Stmt := inClass (top 27) 1
abbrev s_Stack_str : Stmt := inClass (top 27) 2
abbrev s_law_deal : Stmt := top 29
abbrev s_law_draw : Stmt := top 30
abbrev s_law_pick : Stmt := top 31
abbrev s_law_mixed : Stmt := top 32
abbrev s_law_columns : Stmt := top 33
abbrev s_law_texts : Stmt := top 34
abbrev s_law_heads : Stmt := top 35
abbrev s_law_same_again : Stmt := top 36
abbrev s_law_other_ends : Stmt := top 37
abbrev s_law_block : Stmt := top 38
abbrev s_law_drawn : Stmt := top 39
abbrev s_law_made : Stmt := top 40
abbrev s_law_lines : Stmt := top 41
abbrev s_law_is_kept : Stmt := top 42
abbrev s_law_text_of : Stmt := top 43
abbrev s_law : Stmt := top 44
def fn : List He.DefD := [dfn ("is_sequence", none) "is_sequence" "is_sequence" s_is_sequence,
  dfn ("is_word", none) "is_word" "is_word" s_is_word,
  dfn ("is_name", none) "is_name" "is_name" s_is_name,
  dfn ("is_text", none) "is_text" "is_text" s_is_text,
  dfn ("are_names", none) "are_names" "are_names" s_are_names,
  dfn ("need", none) "need" "need" s_need,
  dfn ("are_steps", none) "are_steps" "are_steps" s_are_steps,
  dfn ("Pick", some "__init__") "__init__" "Pick.__init__" s_Pick_init,
  dfn ("Pick", some "__eq__") "__eq__" "Pick.__eq__" s_Pick_eq,
  dfn ("Pick", some "__str__") "__str__" "Pick.__str__" s_Pick_str,
  dfn ("Rename", some "__init__") "__init__" "Rename.__init__" s_Rename_init,
  dfn ("Rename", some "__eq__") "__eq__" "Rename.__eq__" s_Rename_eq,
  dfn ("Rename", some "__str__") "__str__" "Rename.__str__" s_Rename_str,
  dfn ("Has", some "__init__") "__init__" "Has.__init__" s_Has_init,
  dfn ("Has", some "__eq__") "__eq__" "Has.__eq__" s_Has_eq,
  dfn ("Has", some "__str__") "__str__" "Has.__str__" s_Has_str,
  dfn ("Is", some "__init__") "__init__" "Is.__init__" s_Is_init,
  dfn ("Is", some "__eq__") "__eq__" "Is.__eq__" s_Is_eq,
  dfn ("Is", some "__str__") "__str__" "Is.__str__" s_Is_str,
  dfn ("Put", some "__init__") "__init__" "Put.__init__" s_Put_init,
  dfn ("Put", some "__eq__") "__eq__" "Put.__eq__" s_Put_eq,
  dfn ("Put", some "__str__") "__str__" "Put.__str__" s_Put_str,
  dfn ("Alike", some "__init__") "__init__" "Alike.__init__" s_Alike_init,
  dfn ("Alike", some "__eq__") "__eq__" "Alike.__eq__" s_Alike_eq,
  dfn ("Alike", some "__str__") "__str__" "Alike.__str__" s_Alike_str,
  dfn ("Melt", some "__init__") "__init__" "Melt.__init__" s_Melt_init,
  dfn ("Melt", some "__eq__") "__eq__" "Melt.__eq__" s_Melt_eq,
  dfn ("Melt", some "__str__") "__str__" "Melt.__str__" s_Melt_str,
  dfn ("Pivot", some "__init__") "__init__" "Pivot.__init__" s_Pivot_init,
  dfn ("Pivot", some "__eq__") "__eq__" "Pivot.__eq__" s_Pivot_eq,
  dfn ("Pivot", some "__str__") "__str__" "Pivot.__str__" s_Pivot_str,
  dfn ("Join", some "__init__") "__init__" "Join.__init__" s_Join_init,
  dfn ("Join", some "__eq__") "__eq__" "Join.__eq__" s_Join_eq,
  dfn ("Join", some "__str__") "__str__" "Join.__str__" s_Join_str,
  dfn ("Stack", some "__init__") "__init__" "Stack.__init__" s_Stack_init,
  dfn ("Stack", some "__eq__") "__eq__" "Stack.__eq__" s_Stack_eq,
  dfn ("Stack", some "__str__") "__str__" "Stack.__str__" s_Stack_str,
  dfn ("_law_deal", none) "_law_deal" "_law_deal" s_law_deal,
  dfn ("_law_draw", none) "_law_draw" "_law_draw" s_law_draw,
  dfn ("_law_pick", none) "_law_pick" "_law_pick" s_law_pick,
  dfn ("_law_mixed", none) "_law_mixed" "_law_mixed" s_law_mixed,
  dfn ("_law_columns", none) "_law_columns" "_law_columns" s_law_columns,
  dfn ("_law_texts", none) "_law_texts" "_law_texts" s_law_texts,
  dfn ("_law_heads", none) "_law_heads" "_law_heads" s_law_heads,
  dfn ("_law_same_again", none) "_law_same_again" "_law_same_again" s_law_same_again,
  dfn ("_law_other_ends", none) "_law_other_ends" "_law_other_ends" s_law_other_ends,
  dfn ("_law_block", none) "_law_block" "_law_block" s_law_block,
  dfn ("_law_drawn", none) "_law_drawn" "_law_drawn" s_law_drawn,
  dfn ("_law_made", none) "_law_made" "_law_made" s_law_made,
  dfn ("_law_lines", none) "_law_lines" "_law_lines" s_law_lines,
  dfn ("_law_is_kept", none) "_law_is_kept" "_law_is_kept" s_law_is_kept,
  dfn ("_law_text_of", none) "_law_text_of" "_law_text_of" s_law_text_of,
  dfn ("law", none) "law" "law" s_law]
-- 0 s_is_sequence
-- 1 s_is_word
-- 2 s_is_name
-- 3 s_is_text
-- 4 s_are_names
-- 5 s_need
-- 6 s_are_steps
-- 7 s_Pick_init
-- 8 s_Pick_eq
-- 9 s_Pick_str
-- 10 s_Rename_init
-- 11 s_Rename_eq
-- 12 s_Rename_str
-- 13 s_Has_init
-- 14 s_Has_eq
-- 15 s_Has_str
-- 16 s_Is_init
-- 17 s_Is_eq
-- 18 s_Is_str
-- 19 s_Put_init
-- 20 s_Put_eq
-- 21 s_Put_str
-- 22 s_Alike_init
-- 23 s_Alike_eq
-- 24 s_Alike_str
-- 25 s_Melt_init
-- 26 s_Melt_eq
-- 27 s_Melt_str
-- 28 s_Pivot_init
-- 29 s_Pivot_eq
-- 30 s_Pivot_str
-- 31 s_Join_init
-- 32 s_Join_eq
-- 33 s_Join_str
-- 34 s_Stack_init
-- 35 s_Stack_eq
-- 36 s_Stack_str
-- 37 s_law_deal
-- 38 s_law_draw
-- 39 s_law_pick
-- 40 s_law_mixed
-- 41 s_law_columns
-- 42 s_law_texts
-- 43 s_law_heads
-- 44 s_law_same_again
-- 45 s_law_other_ends
-- 46 s_law_block
-- 47 s_law_drawn
-- 48 s_law_made
-- 49 s_law_lines
-- 50 s_law_is_kept
-- 51 s_law_text_of
-- 52 s_law
def names : List PySem.Str := [("__name__" : PySem.Str), ("TableError" : PySem.Str), ("InvalidStep" : PySem.Str), ("LETTERS" : PySem.Str), ("LETTERS_AND_DIGITS" : PySem.Str), ("LONGEST_NAME" : PySem.Str), ("LONGEST_TEXT" : PySem.Str), ("PARTING_WORDS" : PySem.Str), ("is_sequence" : PySem.Str), ("is_word" : PySem.Str), ("is_name" : PySem.Str), ("is_text" : PySem.Str), ("are_names" : PySem.Str), ("Step" : PySem.Str), ("need" : PySem.Str), ("are_steps" : PySem.Str), ("Pick" : PySem.Str), ("Rename" : PySem.Str), ("Has" : PySem.Str), ("Is" : PySem.Str), ("Put" : PySem.Str), ("Alike" : PySem.Str), ("Melt" : PySem.Str), ("Pivot" : PySem.Str), ("Join" : PySem.Str), ("Stack" : PySem.Str), ("_law_deal" : PySem.Str), ("_law_draw" : PySem.Str), ("_law_pick" : PySem.Str), ("_law_mixed" : PySem.Str), ("_law_columns" : PySem.Str), ("_law_texts" : PySem.Str), ("_law_heads" : PySem.Str), ("_law_same_again" : PySem.Str), ("_law_other_ends" : PySem.Str), ("_law_block" : PySem.Str), ("_law_drawn" : PySem.Str), ("_law_made" : PySem.Str), ("_law_lines" : PySem.Str), ("_law_is_kept" : PySem.Str), ("_law_text_of" : PySem.Str)]
-- law at 44
abbrev R : PySem.W.OpenRow := PySem.W.OpenLaw.row PySem.Challenge.rw_meltback_k11_steps_and_their_texts
def gl : List Str := [("is_sequence" : Str), ("is_word" : Str), ("is_name" : Str), ("is_text" : Str), ("are_names" : Str), ("need" : Str), ("are_steps" : Str), ("Step" : Str), ("PARTING_WORDS" : Str), ("Pick" : Str), ("Rename" : Str), ("Has" : Str), ("Is" : Str), ("Put" : Str), ("Alike" : Str), ("Melt" : Str), ("Pivot" : Str), ("Join" : Str), ("Stack" : Str), ("_law_deal" : Str), ("_law_draw" : Str), ("_law_pick" : Str), ("_law_mixed" : Str), ("_law_columns" : Str), ("_law_texts" : Str), ("_law_heads" : Str), ("_law_same_again" : Str), ("_law_other_ends" : Str), ("_law_block" : Str), ("_law_drawn" : Str), ("_law_made" : Str), ("_law_lines" : Str), ("_law_is_kept" : Str), ("_law_text_of" : Str), ("law" : Str)]
def fr : List Str := [("len" : Str), ("isinstance" : Str), ("str" : Str), ("list" : Str), ("tuple" : Str), ("all" : Str), ("set" : Str), ("int" : Str), ("range" : Str), ("abs" : Str), ("enumerate" : Str), ("zip" : Str), ("min" : Str)]
def fa : List He.Fa := gl.map He.Fa.glo ++ (fr.map He.Fa.free ++ [.mkr "Pick", .mkr "Rename", .mkr "Has", .mkr "Is", .mkr "Put", .mkr "Alike", .mkr "Melt", .mkr "Pivot", .mkr "Join", .mkr "Stack",
  .cls "Pick", .cls "Rename", .cls "Has", .cls "Is", .cls "Put", .cls "Alike", .cls "Melt", .cls "Pivot", .cls "Join", .cls "Stack",
  .noat "Pick" "columns", .noat "Rename" "old", .noat "Rename" "new", .noat "Has" "column", .noat "Is" "column", .noat "Is" "text", .noat "Put" "column", .noat "Put" "text", .noat "Alike" "column", .noat "Alike" "other", .noat "Melt" "columns", .noat "Melt" "name", .noat "Melt" "value", .noat "Pivot" "by", .noat "Pivot" "name", .noat "Pivot" "value", .noat "Pivot" "heads", .noat "Join" "columns", .noat "Join" "steps", .noat "Stack" "steps",
  .str "LETTERS" "abcdefghijklmnopqrstuvwxyz", .str "LETTERS_AND_DIGITS" "abcdefghijklmnopqrstuvwxyz0123456789", .int "LONGEST_NAME" 4, .int "LONGEST_TEXT" 6])
def cNames : List Str := [("Pick" : Str), ("Rename" : Str), ("Has" : Str), ("Is" : Str), ("Put" : Str), ("Alike" : Str), ("Melt" : Str), ("Pivot" : Str), ("Join" : Str), ("Stack" : Str)]
def cl10 (K : Fg) : List Addr := cNames.map (He.ga K)
def cStep (K : Fg) : Addr := He.ga K "Step"
def tys4 : List String := ["NoneType", "str", "tuple", "int"]
/-- what is asked of one class of steps -/
def oneB (K : Fg) (C : Addr) : Bool := (clsB K C && cobB K C) && ((kitB K (.ref C) [.type "list", .type "tuple"] false && kitB K (.ref C) [.type "str"] false) && (kitB K (.ref C) [.ref (cStep K)] true &&
  ((initB' K C "__str__" && initB' K C "__eq__") && (eqOV (PySem.W.findIn K (.ref C) "__ne__") (some (some (.builtin "object.__ne__"))) && (decide (PySem.W.mroIn K C (.type "object") = some true) &&
  ((tys4.all fun T => PySem.W.notFirst K C (.type T) && kitB K (.type T) [.ref C] false) && ((cl10 K).all fun D => PySem.W.notFirst K C (.ref D) && kitB K (.ref D) [.ref C] (D == C))))))))
where
  initB' (K : Fg) (C : Addr) (m : Str) : Bool := eqOV (PySem.W.findIn K (.ref C) m) (some (some (.ref (He.ma K C m)))) && decide (PySem.W.typeIn K (.ref (He.ma K C m)) = some (.type "function"))
def ex (K : Fg) : Bool := He.tupB K "PARTING_WORDS" [.str "as", .str "by", .str "to", .str "end"] && ((cl10 K).all (oneB K) && decide (cl10 K).Nodup)
abbrev hk : PySem.W.Hook := hookF 5 fa fn ex
def ob (s : PySem.W.SharedT) : AlF := obsF 5 fa fn ex (HandSHeadRun.getT s)
theorem ob_eq (s : PySem.W.SharedT) : ob s = hk.obs s.abs := obsF_eq (HandSHeadRun.getT_eq s)
end K11

set_option Elab.async false
set_option linter.all false
set_option maxRecDepth 100000
set_option maxHeartbeats 4000000
namespace K11
open PySem PySem.Spec PyProof.Rows L2 DL
/-! ### what is known of the module's names -/
structure Glo (K : Fg) (mg : Str → Option Value) : Prop where
  g : ∀ z ∈ gl, mg z = some (.ref (He.ga K z))
  n : ∀ z ∈ fr, mg z = none
  hL : ∃ t, mg "LETTERS" = some (.str "abcdefghijklmnopqrstuvwxyz" t)
  hA : ∃ t, mg "LETTERS_AND_DIGITS" = some (.str "abcdefghijklmnopqrstuvwxyz0123456789" t)
  hN : ∃ t, mg "LONGEST_NAME" = some (.int 4 t)
  hT : ∃ t, mg "LONGEST_TEXT" = some (.int 6 t)
/-- what is known of the classes -/
structure Kls (K : Fg) : Prop where
  part : ∀ H, SqT K H (He.ga K "PARTING_WORDS") [.str "as", .str "by", .str "to", .str "end"]
  seq : ∀ C, C ∈ cl10 K → PySem.W.kitAny K (.ref C) [.type "list", .type "tuple"] = some false
  str : ∀ C, C ∈ cl10 K → PySem.W.kitAny K (.ref C) [.type "str"] = some false
  isC : ∀ C, C ∈ cl10 K → IsC K C
structure Kst (K : Fg) : Prop where
  hst : ∀ C, C ∈ cl10 K → PySem.W.kitAny K (.ref C) [.ref (cStep K)] = some true
/-! ### data -/
def partD : List D := [.str "as", .str "by", .str "to", .str "end"]
theorem partRep {K : Fg} (k : Kls K) (H : Hp) : Rep K H (.ref (He.ga K "PARTING_WORDS")) (.tup partD) :=
  .tup (k.part H) (.cons (.str _) (.cons (.str _) (.cons (.str _) (.cons (.str _) .nil))))
def isSeqD : D → Bool
  | .lst _ => true
  | .tup _ => true
  | _ => false
def isStrD : D → Bool
  | .str _ => true
  | _ => false
/-- a value of the law: what isinstance tells of it is known -/
def Kn (K : Fg) : D → Prop
  | .fx _ => False
  | .scr _ => False
  | .obj C _ => C ∈ cl10 K
  | _ => True
theorem kn_seq {K : Fg} (k : Kls K) : ∀ {d : D}, Kn K d → ∃ t, TyD K d t ∧ PySem.W.kitAny K t [.type "list", .type "tuple"] = some (isSeqD d)
  | .non, _ => ⟨_, rfl, rfl⟩
  | .bl _, _ => ⟨_, rfl, rfl⟩
  | .int _, _ => ⟨_, rfl, rfl⟩
  | .str _, _ => ⟨_, rfl, rfl⟩
  | .lst _, _ => ⟨_, rfl, rfl⟩
  | .tup _, _ => ⟨_, rfl, rfl⟩
  | .obj C _, h => ⟨_, ⟨rfl, k.isC C h⟩, k.seq C h⟩
  | .fx _, h => h.elim
  | .scr _, h => h.elim
theorem kn_str {K : Fg} (k : Kls K) : ∀ {d : D}, Kn K d → ∃ t, TyD K d t ∧ PySem.W.kitAny K t [.type "str"] = some (isStrD d)
  | .non, _ => ⟨_, rfl, rfl⟩
  | .bl _, _ => ⟨_, rfl, rfl⟩
  | .int _, _ => ⟨_, rfl, rfl⟩
  | .str _, _ => ⟨_, rfl, rfl⟩
  | .lst _, _ => ⟨_, rfl, rfl⟩
  | .tup _, _ => ⟨_, rfl, rfl⟩
  | .obj C _, h => ⟨_, ⟨rfl, k.isC C h⟩, k.str C h⟩
  | .fx _, h => h.elim
  | .scr _, h => h.elim
def gSeq (K : Fg) : FF := fun ds F _ => ∃ d, ds = [d] ∧ Kn K d ∧ F (.bl (isSeqD d))
theorem kit1_of {K : Fg} {t u : Value} {b : Bool} (h : PySem.W.kitAny K t [u] = some b) : PySem.W.kitOne K t u = some b := by
  unfold PySem.W.kitAny at h
  split at h
  · rename_i e
    cases h
    exact e
  · rename_i e
    cases h
    exact e
  · cases h
def szD : D → Prop
  | .str z => z.length ≤ 100 ∧ PyData.strOk z = true
  | .lst ds => ds.length ≤ 100
  | .tup ds => ds.length ≤ 100
  | _ => True
def wordD (d : D) (s : Str) (m : Int) : Bool := match d with
  | .str z => decide (1 ≤ (z.length : Int)) && decide ((z.length : Int) ≤ m) && decide (Txt.stripChars z s = "")
  | _ => false
def gWord (K : Fg) : FF := fun ds F _ => ∃ d s m, ds = [d, .str s, .int m] ∧ Kn K d ∧ szD d ∧ F (.bl (wordD d s m))
def nameD (d : D) : Bool := wordD d "abcdefghijklmnopqrstuvwxyz" 4 && !inD d partD
def textD (d : D) : Bool := wordD d "abcdefghijklmnopqrstuvwxyz0123456789" 6
def elD (d : D) : List D := (seqD d).getD []
/-- a value of the law, of the first and of the second level -/
def V1 (K : Fg) (d : D) : Prop := Kn K d ∧ szD d
def V2 (K : Fg) (d : D) : Prop := V1 K d ∧ ∀ e ∈ elD d, V1 K e
def gName (K : Fg) : FF := fun ds F _ => ∃ d, ds = [d] ∧ V1 K d ∧ F (.bl (nameD d))
def gText (K : Fg) : FF := fun ds F _ => ∃ d, ds = [d] ∧ V1 K d ∧ F (.bl (textD d))
def diffD (ds : List D) : Bool := match strsD ds with
  | some xs => decide (((ddS [] xs).length : Int) = (ds.length : Int))
  | none => false
def namesD (d : D) (least : Int) : Bool := isSeqD d && (!decide (((elD d).length : Int) < least) && ((elD d).all nameD && diffD (elD d)))
def gNames (K : Fg) : FF := fun ds F _ => ∃ d m, ds = [d, .int m] ∧ V2 K d ∧ F (.bl (namesD d m))
theorem word_str {d : D} {s : Str} {m : Int} (h : wordD d s m = true) : ∃ z, d = .str z := by
  cases d with
  | str z => exact ⟨z, rfl⟩
  | _ => cases h
theorem strs_all : ∀ {l : List D}, l.all nameD = true → ∃ xs, strsD l = some xs ∧ xs.length = l.length
  | [], _ => ⟨[], rfl, rfl⟩
  | d :: l, h => by
    rw [List.all_cons, Bool.and_eq_true] at h
    obtain ⟨xs, h1, h2⟩ := strs_all h.2
    obtain ⟨z, rfl⟩ := word_str (Bool.and_eq_true_iff.mp h.1).1
    refine ⟨z :: xs, ?_, by rw [List.length_cons, List.length_cons, h2]⟩
    show (strsD l).map (z :: ·) = _
    rw [h1]
    rfl
def isStepD (K : Fg) : D → Prop
  | .obj C _ => C ∈ cl10 K
  | _ => False
theorem kn_step {K : Fg} (k : Kls K) (s : Kst K) : ∀ {d : D}, isStepD K d → ∃ t, TyD K d t ∧ PySem.W.kitAny K t [.ref (cStep K)] = some true
  | .obj C _, h => ⟨_, ⟨rfl, k.isC C h⟩, s.hst C h⟩
def stepsP (K : Fg) (d : D) : Prop := isSeqD d = true ∧ (elD d).length ≤ 100 ∧ ∀ e ∈ elD d, isStepD K e
def gSteps (K : Fg) : FF := fun ds F _ => ∃ d, ds = [d] ∧ Kn K d ∧ stepsP K d ∧ F (.bl true)
def gNeed : FF := fun ds F _ => ∃ z : Str, ds = [.bl true, .str z] ∧ F .non
theorem ms_at {ms : MS} {δ : List Sl} {k : MK} {e : List Sl} (q : δ = e) (h : ms e k) : ms δ k := by
  rw [q]
  exact h
section
variable {P : Program} {w : World} {K : Fg} {mg : Str → Option Value} {base : Heap}
theorem sc_is_sequence : FnScope ["value"] ["value"] (defScope s_is_sequence) := ⟨rfl, rfl, rfl, by decide +kernel, rfl, by decide +kernel, by decide +kernel⟩
theorem ok_is_sequence (G : Glo K mg) (c : He.SaysD fa fn K) (kl : Kls K) : Fn P w K mg base "is_sequence" 1 1 false (gSeq K) := by
  obtain ⟨fd, F⟩ := c.defs (d := dfn ("is_sequence", none) "is_sequence" "is_sequence" s_is_sequence) (by unfold fn; simp)
  replace F : FunD K "is_sequence" "is_sequence" (defArgs s_is_sequence) (defBody s_is_sequence) (defScope s_is_sequence) [] [] (He.ga K "is_sequence") fd := F
  refine ⟨_, fd, ["value"], ?_, G.g "is_sequence" (by decide), F.kp, F.bindsN fun _ _ _ _ _ _ us hl => match us, hl with | [_], _ => rfl⟩
  have nd : (["value"] : List Str).Nodup := sc_is_sequence.nd
  obtain ⟨_, h_LETTERS⟩ := G.hL
  obtain ⟨_, h_LAD⟩ := G.hA
  obtain ⟨_, h_LN⟩ := G.hN
  obtain ⟨_, h_LT⟩ := G.hT
  apply fn_okE (k := 0) (N := ["value"]) F sc_is_sequence rfl (by decide)
  intro c cdv A outer s H E hr
  have hu := hr.units
  have tk := takes_of (X := cxOf (L2.CX P w) P w K mg base ["value"] "is_sequence" (defScope s_is_sequence) (He.ga K "is_sequence") cdv A outer s H E) rfl rfl rfl rfl
  apply Exists.intro
  apply Exists.intro
  apply And.intro
  · exact (dss_one (ds_ret (de_isiT rfl (G.n "isinstance" (by decide)) (de_var 0) (da_cons (de_ty "list" rfl (G.n "list" (by decide)) (by decide +kernel)) (da_cons (de_ty "tuple" rfl (G.n "tuple" (by decide)) (by decide +kernel)) da_nil)))))
  · intro ds F1 X1 hn h
    obtain ⟨d, rfl, hd, f⟩ := h
    obtain ⟨t, h1, h2⟩ := kn_seq kl hd
    refine Exists.intro [.ty "list", .ty "tuple"] (Exists.intro [.type "list", .type "tuple"] (Exists.intro t (Exists.intro (isSeqD d) ⟨rfl, by decide, ?_, h1, h2, f⟩)))
    exact .cons (.ty _) (.cons (.ty _) .nil)
theorem sc_is_word : FnScope ["value", "signs", "longest"] ["value", "signs", "longest"] (defScope s_is_word) := ⟨rfl, rfl, rfl, by decide +kernel, rfl, by decide +kernel, by decide +kernel⟩
theorem ok_is_word (G : Glo K mg) (c : He.SaysD fa fn K) (kl : Kls K) : Fn P w K mg base "is_word" 1 3 false (gWord K) := by
  obtain ⟨fd, F⟩ := c.defs (d := dfn ("is_word", none) "is_word" "is_word" s_is_word) (by unfold fn; simp)
  replace F : FunD K "is_word" "is_word" (defArgs s_is_word) (defBody s_is_word) (defScope s_is_word) [] [] (He.ga K "is_word") fd := F
  refine ⟨_, fd, ["value", "signs", "longest"], ?_, G.g "is_word" (by decide), F.kp, F.bindsN fun _ _ _ _ _ _ us hl => match us, hl with | [_, _, _], _ => rfl⟩
  have nd : (["value", "signs", "longest"] : List Str).Nodup := sc_is_word.nd
  obtain ⟨_, h_LETTERS⟩ := G.hL
  obtain ⟨_, h_LAD⟩ := G.hA
  obtain ⟨_, h_LN⟩ := G.hN
  obtain ⟨_, h_LT⟩ := G.hT
  apply fn_okE (k := 0) (N := ["value", "signs", "longest"]) F sc_is_word rfl (by decide)
  intro c cdv A outer s H E hr
  have hu := hr.units
  have tk := takes_of (X := cxOf (L2.CX P w) P w K mg base ["value", "signs", "longest"] "is_word" (defScope s_is_word) (He.ga K "is_word") cdv A outer s H E) rfl rfl rfl rfl
  apply Exists.intro
  apply Exists.intro
  apply And.intro
  · exact (dss_cons (ds_if (DW.dt (dw_or (dt_not (dt_truth (de_callB call_isi cd_isi rfl (G.n "isinstance" (by decide)) (by decide +kernel) (da_cons (de_var 0) (da_cons (de_ty "str" rfl (G.n "str" (by decide)) (by decide +kernel)) da_nil))))) (dw_or1 (dt_not (dt_chain op_le op_le rd_le rd_le de_int (de_callB call_len cd_len rfl (G.n "len" (by decide)) (by decide +kernel) (da_cons (de_var 0) da_nil)) (de_var 2)))))) (dss_one (ds_ret de_bl)) dss_nil)
    (dss_one (ds_ret (de_cmp op_eq rd_eqS (de_ms slot_strip type_strip mt_stripChars md_strip (de_var 0) (da_cons (de_var 1) da_nil)) de_str (nomark _)))))
  · intro ds F1 X1 hn h
    obtain ⟨d, sg, m, rfl, hv, hz, f⟩ := h
    obtain ⟨t, h1, h2⟩ := kn_str kl hv
    refine ms_at (e := [.dat d, .dat (.str sg), .dat (.int m)]) rfl ?_
    simp only [msRet, msRetN, msSeq, msIf, msNext, msExpr, msSet, mtAnd, mtOr, mtNot, mTru, mB, mCB, mCall, maCons, maNil, mVar, mC, mOp, mChain, mIf, mAndV, mOrV, mNotV, mLst, mTup, mMS, gI0, gLen, gEq, gNe, gEqS, gNeS, gIn, gAll, gStrip, truD, start0, dn, mLc, miS, mgName, wipeD, mYes, lcD, List.map_cons, List.map_nil, List.replicate, List.cons_append, List.nil_append, List.getElem?_cons_zero, List.getElem?_cons_succ, List.getElem?_nil, List.append_nil, gLe, gLt, Bool.not_true, Bool.not_false, Bool.false_eq_true, reduceIte]
    refine ⟨t, .type "str", isStrD d, .ty _, h1, kit1_of h2, ?_⟩
    cases d with
    | str z =>
      have hz : z.length ≤ 100 := hz.1
      have hz2 : z.length ≤ sizeLine := Nat.le_trans hz (by decide)
      have f : F1 (.bl (decide (1 ≤ (z.length : Int)) && decide ((z.length : Int) ≤ m) && decide (Txt.stripChars z sg = ""))) := f
      simp only [isStrD, Bool.not_true, Bool.false_eq_true, reduceIte]
      refine ⟨hz2, ?_⟩
      cases e1 : decide (1 ≤ (z.length : Int)) <;> rw [e1] at f
      · exact f
      · cases e2 : decide ((z.length : Int) ≤ m) <;> rw [e2] at f
        · simp only [e2]
          exact f
        · simp only [e2]
          exact ⟨hz2, f⟩
    | _ => exact f
theorem sc_is_name : FnScope ["value"] ["value"] (defScope s_is_name) := ⟨rfl, rfl, rfl, by decide +kernel, rfl, by decide +kernel, by decide +kernel⟩
theorem ok_is_name (G : Glo K mg) (c : He.SaysD fa fn K) (H_is_word : Fn P w K mg base "is_word" 1 3 false (gWord K)) (kl : Kls K) : Fn P w K mg base "is_name" 2 1 false (gName K) := by
  obtain ⟨fd, F⟩ := c.defs (d := dfn ("is_name", none) "is_name" "is_name" s_is_name) (by unfold fn; simp)
  replace F : FunD K "is_name" "is_name" (defArgs s_is_name) (defBody s_is_name) (defScope s_is_name) [] [] (He.ga K "is_name") fd := F
  refine ⟨_, fd, ["value"], ?_, G.g "is_name" (by decide), F.kp, F.bindsN fun _ _ _ _ _ _ us hl => match us, hl with | [_], _ => rfl⟩
  have nd : (["value"] : List Str).Nodup := sc_is_name.nd
  obtain ⟨_, h_LETTERS⟩ := G.hL
  obtain ⟨_, h_LAD⟩ := G.hA
  obtain ⟨_, h_LN⟩ := G.hN
  obtain ⟨_, h_LT⟩ := G.hT
  apply fn_okE (k := 1) (N := ["value"]) F sc_is_name rfl (by decide)
  intro c cdv A outer s H E hr
  have hu := hr.units
  have tk := takes_of (X := cxOf (L2.CX P w) P w K mg base ["value"] "is_name" (defScope s_is_name) (He.ga K "is_name") cdv A outer s H E) rfl rfl rfl rfl
  apply Exists.intro
  apply Exists.intro
  apply And.intro
  · exact (dss_one (ds_ret (de_and (de_f H_is_word (hr.mono (by decide)) rfl tk (da_cons (de_var 0) (da_cons (de_glob (v := .str "abcdefghijklmnopqrstuvwxyz") rfl h_LETTERS ⟨_, rfl⟩ (fun _ => .str _)) (da_cons (de_glob (v := .int 4) rfl h_LN ⟨_, rfl⟩ (fun _ => .int _)) da_nil)))) (de_one (de_cmp op_notInA rd_in (de_var 0) (de_glob (v := .ref (He.ga K "PARTING_WORDS")) rfl (G.g "PARTING_WORDS" (by decide)) rfl (fun G1 => partRep kl G1)) (by rfl))))))
  · intro ds F1 X1 hn h
    obtain ⟨d, rfl, hv, f⟩ := h
    refine ms_at (e := [.dat d]) rfl ?_
    simp only [msRet, msRetN, msSeq, msIf, msNext, msExpr, msSet, mtAnd, mtOr, mtNot, mTru, mB, mCB, mCall, maCons, maNil, mVar, mC, mOp, mChain, mIf, mAndV, mOrV, mNotV, mLst, mTup, mMS, gI0, gLen, gEq, gNe, gEqS, gNeS, gIn, gAll, gStrip, truD, start0, dn, mLc, miS, mgName, wipeD, mYes, lcD, List.map_cons, List.map_nil, List.replicate, List.cons_append, List.nil_append, List.getElem?_cons_zero, List.getElem?_cons_succ, List.getElem?_nil, List.append_nil, gLe, gLt, Bool.not_true, Bool.not_false, Bool.false_eq_true, reduceIte]
    refine ⟨rfl, d, _, _, rfl, hv.1, hv.2, ?_⟩
    have f : F1 (.bl (wordD d "abcdefghijklmnopqrstuvwxyz" 4 && !inD d partD)) := f
    cases e : wordD d "abcdefghijklmnopqrstuvwxyz" 4 <;> rw [e] at f
    · exact f
    · obtain ⟨z, rfl⟩ := word_str e
      exact ⟨rfl, rfl, f⟩
theorem sc_is_text : FnScope ["value"] ["value"] (defScope s_is_text) := ⟨rfl, rfl, rfl, by decide +kernel, rfl, by decide +kernel, by decide +kernel⟩
theorem ok_is_text (G : Glo K mg) (c : He.SaysD fa fn K) (H_is_word : Fn P w K mg base "is_word" 1 3 false (gWord K)) : Fn P w K mg base "is_text" 2 1 false (gText K) := by
  obtain ⟨fd, F⟩ := c.defs (d := dfn ("is_text", none) "is_text" "is_text" s_is_text) (by unfold fn; simp)
  replace F : FunD K "is_text" "is_text" (defArgs s_is_text) (defBody s_is_text) (defScope s_is_text) [] [] (He.ga K "is_text") fd := F
  refine ⟨_, fd, ["value"], ?_, G.g "is_text" (by decide), F.kp, F.bindsN fun _ _ _ _ _ _ us hl => match us, hl with | [_], _ => rfl⟩
  have nd : (["value"] : List Str).Nodup := sc_is_text.nd
  obtain ⟨_, h_LETTERS⟩ := G.hL
  obtain ⟨_, h_LAD⟩ := G.hA
  obtain ⟨_, h_LN⟩ := G.hN
  obtain ⟨_, h_LT⟩ := G.hT
  apply fn_okE (k := 1) (N := ["value"]) F sc_is_text rfl (by decide)
  intro c cdv A outer s H E hr
  have hu := hr.units
  have tk := takes_of (X := cxOf (L2.CX P w) P w K mg base ["value"] "is_text" (defScope s_is_text) (He.ga K "is_text") cdv A outer s H E) rfl rfl rfl rfl
  apply Exists.intro
  apply Exists.intro
  apply And.intro
  · exact (dss_one (ds_ret (de_f H_is_word (hr.mono (by decide)) rfl tk (da_cons (de_var 0) (da_cons (de_glob (v := .str "abcdefghijklmnopqrstuvwxyz0123456789") rfl h_LAD ⟨_, rfl⟩ (fun _ => .str _)) (da_cons (de_glob (v := .int 6) rfl h_LT ⟨_, rfl⟩ (fun _ => .int _)) da_nil))))))
  · intro ds F1 X1 hn h
    obtain ⟨d, rfl, hv, f⟩ := h
    refine ms_at (e := [.dat d]) rfl ?_
    simp only [msRet, msRetN, msSeq, msIf, msNext, msExpr, msSet, mtAnd, mtOr, mtNot, mTru, mB, mCB, mCall, maCons, maNil, mVar, mC, mOp, mChain, mIf, mAndV, mOrV, mNotV, mLst, mTup, mMS, gI0, gLen, gEq, gNe, gEqS, gNeS, gIn, gAll, gStrip, truD, start0, dn, mLc, miS, mgName, wipeD, mYes, lcD, List.map_cons, List.map_nil, List.replicate, List.cons_append, List.nil_append, List.getElem?_cons_zero, List.getElem?_cons_succ, List.getElem?_nil, List.append_nil, gLe, gLt, Bool.not_true, Bool.not_false, Bool.false_eq_true, reduceIte]
    exact ⟨rfl, d, _, _, rfl, hv.1, hv.2, f⟩
theorem sc_are_names : FnScope ["value", "least", "name"] ["value", "least"] (defScope s_are_names) := ⟨rfl, rfl, rfl, by decide +kernel, rfl, by decide +kernel, by decide +kernel⟩
theorem ok_are_names (G : Glo K mg) (c : He.SaysD fa fn K) (H_is_sequence : Fn P w K mg base "is_sequence" 1 1 false (gSeq K)) (H_is_name : Fn P w K mg base "is_name" 2 1 false (gName K)) : Fn P w K mg base "are_names" 3 2 false (gNames K) := by
  obtain ⟨fd, F⟩ := c.defs (d := dfn ("are_names", none) "are_names" "are_names" s_are_names) (by unfold fn; simp)
  replace F : FunD K "are_names" "are_names" (defArgs s_are_names) (defBody s_are_names) (defScope s_are_names) [] [] (He.ga K "are_names") fd := F
  refine ⟨_, fd, ["value", "least"], ?_, G.g "are_names" (by decide), F.kp, F.bindsN fun _ _ _ _ _ _ us hl => match us, hl with | [_, _], _ => rfl⟩
  have nd : (["value", "least", "name"] : List Str).Nodup := sc_are_names.nd
  obtain ⟨_, h_LETTERS⟩ := G.hL
  obtain ⟨_, h_LAD⟩ := G.hA
  obtain ⟨_, h_LN⟩ := G.hN
  obtain ⟨_, h_LT⟩ := G.hT
  apply fn_okE (k := 2) (N := ["value", "least", "name"]) F sc_are_names rfl (by decide)
  intro c cdv A outer s H E hr
  have hu := hr.units
  have tk := takes_of (X := cxOf (L2.CX P w) P w K mg base ["value", "least", "name"] "are_names" (defScope s_are_names) (He.ga K "are_names") cdv A outer s H E) rfl rfl rfl rfl
  apply Exists.intro
  apply Exists.intro
  apply And.intro
  · exact (dss_cons (ds_if (DW.dt (dw_or (dt_not (dt_truth (de_f H_is_sequence (hr.mono (by decide)) rfl tk (da_cons (de_var 0) da_nil)))) (dw_or1 (dt_cmp op_lt rd_lt (de_callB call_len cd_len rfl (G.n "len" (by decide)) (by decide +kernel) (da_cons (de_var 0) da_nil)) (de_var 1) (nomark _))))) (dss_one (ds_ret de_bl)) dss_nil)
    (dss_one (ds_ret (de_and (de_callB (cr_all rfl) cd_all rfl (G.n "all" (by decide)) (by decide +kernel) (da_cons (de_lcF (own := [("name", 2)]) rfl nd (dic_of (di_seq (de_var 0))) (blkOk_by (show blkC ["value", "least", "name"] (defScope s_are_names) _ _ = true from by decide +kernel)) (by decide) (fun s H C cl fp => (dg_name 2 nd rfl (by first | exact .inl rfl | exact .inr rfl))) (fun s H C cl fp => dts_nil) (fun s H C cl fp => (de_f H_is_name (hr.mono (by decide)) rfl DL.takes0 (da_cons (de_var 2) da_nil)))) da_nil)) (de_one (de_cmp op_eq rd_eqS (de_lenSet rfl rfl (G.n "len" (by decide)) rfl (G.n "set" (by decide)) (de_var 0)) (de_callB call_len cd_len rfl (G.n "len" (by decide)) (by decide +kernel) (da_cons (de_var 0) da_nil)) (nomark _)))))))
  · intro ds F1 X1 hn h
    obtain ⟨d, m, rfl, hv, f⟩ := h
    refine ms_at (e := [.dat d, .dat (.int m), .un]) rfl ?_
    cases d with
    | lst l =>
      simp only [msRet, msRetN, msSeq, msIf, msNext, msExpr, msSet, mtAnd, mtOr, mtNot, mTru, mB, mCB, mCall, maCons, maNil, mVar, mC, mOp, mChain, mIf, mAndV, mOrV, mNotV, mLst, mTup, mMS, gI0, gLen, gEq, gNe, gEqS, gNeS, gIn, gAll, gStrip, truD, start0, dn, mLc, miS, mgName, wipeD, mYes, lcD, List.map_cons, List.map_nil, List.replicate, List.cons_append, List.nil_append, List.getElem?_cons_zero, List.getElem?_cons_succ, List.getElem?_nil, List.append_nil, gLe, gLt, Bool.not_true, Bool.not_false, Bool.false_eq_true, reduceIte]
      refine ⟨rfl, _, rfl, hv.1.1, ?_⟩
      simp only [isSeqD, Bool.not_true, Bool.false_eq_true, reduceIte]
      have hz : l.length ≤ 100 := hv.1.2
      have f : F1 (.bl (!decide ((l.length : Int) < m) && (l.all nameD && diffD l))) := f
      cases e1 : decide ((l.length : Int) < m) <;> rw [e1] at f
      · simp only [Bool.false_eq_true, reduceIte]
        refine ⟨l, rfl, Nat.lt_of_le_of_lt hz (by decide), lcD_map (f := fun d => .bl (nameD d)) l (fun e me F' q => ?_) ?_⟩
        · exact ⟨rfl, e, rfl, hv.2 e me, q⟩
        · refine ⟨l.map nameD, bls_map l, ?_⟩
          rw [all_map]
          cases e2 : l.all nameD <;> rw [e2] at f
          · exact f
          · obtain ⟨xs, hx, hn2⟩ := strs_all e2
            have f : F1 (.bl (diffD l)) := f
            unfold diffD at f
            rw [hx] at f
            exact ⟨l, xs, rfl, hx, by rw [hn2]; exact Nat.lt_of_le_of_lt (Nat.succ_le_succ hz) (by decide), f⟩
      · exact f
    | tup l =>
      simp only [msRet, msRetN, msSeq, msIf, msNext, msExpr, msSet, mtAnd, mtOr, mtNot, mTru, mB, mCB, mCall, maCons, maNil, mVar, mC, mOp, mChain, mIf, mAndV, mOrV, mNotV, mLst, mTup, mMS, gI0, gLen, gEq, gNe, gEqS, gNeS, gIn, gAll, gStrip, truD, start0, dn, mLc, miS, mgName, wipeD, mYes, lcD, List.map_cons, List.map_nil, List.replicate, List.cons_append, List.nil_append, List.getElem?_cons_zero, List.getElem?_cons_succ, List.getElem?_nil, List.append_nil, gLe, gLt, Bool.not_true, Bool.not_false, Bool.false_eq_true, reduceIte]
      refine ⟨rfl, _, rfl, hv.1.1, ?_⟩
      simp only [isSeqD, Bool.not_true, Bool.false_eq_true, reduceIte]
      have hz : l.length ≤ 100 := hv.1.2
      have f : F1 (.bl (!decide ((l.length : Int) < m) && (l.all nameD && diffD l))) := f
      cases e1 : decide ((l.length : Int) < m) <;> rw [e1] at f
      · simp only [Bool.false_eq_true, reduceIte]
        refine ⟨l, rfl, Nat.lt_of_le_of_lt hz (by decide), lcD_map (f := fun d => .bl (nameD d)) l (fun e me F' q => ?_) ?_⟩
        · exact ⟨rfl, e, rfl, hv.2 e me, q⟩
        · refine ⟨l.map nameD, bls_map l, ?_⟩
          rw [all_map]
          cases e2 : l.all nameD <;> rw [e2] at f
          · exact f
          · obtain ⟨xs, hx, hn2⟩ := strs_all e2
            have f : F1 (.bl (diffD l)) := f
            unfold diffD at f
            rw [hx] at f
            exact ⟨l, xs, rfl, hx, by rw [hn2]; exact Nat.lt_of_le_of_lt (Nat.succ_le_succ hz) (by decide), f⟩
      · exact f
    | _ =>
      simp only [msRet, msRetN, msSeq, msIf, msNext, msExpr, msSet, mtAnd, mtOr, mtNot, mTru, mB, mCB, mCall, maCons, maNil, mVar, mC, mOp, mChain, mIf, mAndV, mOrV, mNotV, mLst, mTup, mMS, gI0, gLen, gEq, gNe, gEqS, gNeS, gIn, gAll, gStrip, truD, start0, dn, mLc, miS, mgName, wipeD, mYes, lcD, List.map_cons, List.map_nil, List.replicate, List.cons_append, List.nil_append, List.getElem?_cons_zero, List.getElem?_cons_succ, List.getElem?_nil, List.append_nil, gLe, gLt, Bool.not_true, Bool.not_false, Bool.false_eq_true, reduceIte]
      exact ⟨rfl, _, rfl, hv.1.1, f⟩
theorem sc_need : FnScope ["holds", "word"] ["holds", "word"] (defScope s_need) := ⟨rfl, rfl, rfl, by decide +kernel, rfl, by decide +kernel, by decide +kernel⟩
theorem ok_need (G : Glo K mg) (c : He.SaysD fa fn K) : Fn P w K mg base "need" 1 2 false (gNeed) := by
  obtain ⟨fd, F⟩ := c.defs (d := dfn ("need", none) "need" "need" s_need) (by unfold fn; simp)
  replace F : FunD K "need" "need" (defArgs s_need) (defBody s_need) (defScope s_need) [] [] (He.ga K "need") fd := F
  refine ⟨_, fd, ["holds", "word"], ?_, G.g "need" (by decide), F.kp, F.bindsN fun _ _ _ _ _ _ us hl => match us, hl with | [_, _], _ => rfl⟩
  have nd : (["holds", "word"] : List Str).Nodup := sc_need.nd
  obtain ⟨_, h_LETTERS⟩ := G.hL
  obtain ⟨_, h_LAD⟩ := G.hA
  obtain ⟨_, h_LN⟩ := G.hN
  obtain ⟨_, h_LT⟩ := G.hT
  apply fn_okE (k := 0) (N := ["holds", "word"]) F sc_need rfl (by decide)
  intro c cdv A outer s H E hr
  have hu := hr.units
  have tk := takes_of (X := cxOf (L2.CX P w) P w K mg base ["holds", "word"] "need" (defScope s_need) (He.ga K "need") cdv A outer s H E) rfl rfl rfl rfl
  apply Exists.intro
  apply Exists.intro
  apply And.intro
  · exact (dss_one (ds_if (dt_not (dt_truth (de_var 0))) (dss_one ds_never) dss_nil))
  · intro ds F1 X1 hn h
    obtain ⟨z, rfl, f⟩ := h
    refine ms_at (e := [.dat (.bl true), .dat (.str z)]) rfl ?_
    simp only [msRet, msRetN, msSeq, msIf, msNext, msExpr, msSet, mtAnd, mtOr, mtNot, mTru, mB, mCB, mCall, maCons, maNil, mVar, mC, mOp, mChain, mIf, mAndV, mOrV, mNotV, mLst, mTup, mMS, gI0, gLen, gEq, gNe, gEqS, gNeS, gIn, gAll, gStrip, truD, start0, dn, mLc, miS, mgName, wipeD, mYes, lcD, List.map_cons, List.map_nil, List.replicate, List.cons_append, List.nil_append, List.getElem?_cons_zero, List.getElem?_cons_succ, List.getElem?_nil, List.append_nil, gLe, gLt, Bool.not_true, Bool.not_false, Bool.false_eq_true, reduceIte]
    exact f
theorem sc_are_steps : FnScope ["value", "step"] ["value"] (defScope s_are_steps) := ⟨rfl, rfl, rfl, by decide +kernel, rfl, by decide +kernel, by decide +kernel⟩
theorem ok_are_steps (G : Glo K mg) (c : He.SaysD fa fn K) (H_is_sequence : Fn P w K mg base "is_sequence" 1 1 false (gSeq K)) (kl : Kls K) (ks : Kst K) : Fn P w K mg base "are_steps" 2 1 false (gSteps K) := by
  obtain ⟨fd, F⟩ := c.defs (d := dfn ("are_steps", none) "are_steps" "are_steps" s_are_steps) (by unfold fn; simp)
  replace F : FunD K "are_steps" "are_steps" (defArgs s_are_steps) (defBody s_are_steps) (defScope s_are_steps) [] [] (He.ga K "are_steps") fd := F
  refine ⟨_, fd, ["value"], ?_, G.g "are_steps" (by decide), F.kp, F.bindsN fun _ _ _ _ _ _ us hl => match us, hl with | [_], _ => rfl⟩
  have nd : (["value", "step"] : List Str).Nodup := sc_are_steps.nd
  obtain ⟨_, h_LETTERS⟩ := G.hL
  obtain ⟨_, h_LAD⟩ := G.hA
  obtain ⟨_, h_LN⟩ := G.hN
  obtain ⟨_, h_LT⟩ := G.hT
  apply fn_okE (k := 1) (N := ["value", "step"]) F sc_are_steps rfl (by decide)
  intro c cdv A outer s H E hr
  have hu := hr.units
  have tk := takes_of (X := cxOf (L2.CX P w) P w K mg base ["value", "step"] "are_steps" (defScope s_are_steps) (He.ga K "are_steps") cdv A outer s H E) rfl rfl rfl rfl
  apply Exists.intro
  apply Exists.intro
  apply And.intro
  · exact (dss_one (ds_ret (de_and (de_f H_is_sequence (hr.mono (by decide)) rfl tk (da_cons (de_var 0) da_nil)) (de_one (de_callB (cr_all rfl) cd_all rfl (G.n "all" (by decide)) (by decide +kernel) (da_cons (de_lcF (own := [("step", 1)]) rfl nd (dic_of (di_seq (de_var 0))) (blkOk_by (show blkC ["value", "step"] (defScope s_are_steps) _ _ = true from by decide +kernel)) (by decide) (fun s H C cl fp => (dg_name 1 nd rfl (by first | exact .inl rfl | exact .inr rfl))) (fun s H C cl fp => dts_nil) (fun s H C cl fp => (de_callB call_isi cd_isi rfl (G.n "isinstance" (by decide)) (by decide +kernel) (da_cons (de_var 1) (da_cons (de_glob (v := .ref (He.ga K "Step")) rfl (G.g "Step" (by decide)) rfl (fun _ => .fx _)) da_nil))))) da_nil))))))
  · intro ds F1 X1 hn h
    obtain ⟨d, rfl, hk, hv, f⟩ := h
    refine ms_at (e := [.dat d, .un]) rfl ?_
    cases d with
    | lst l =>
      simp only [msRet, msRetN, msSeq, msIf, msNext, msExpr, msSet, mtAnd, mtOr, mtNot, mTru, mB, mCB, mCall, maCons, maNil, mVar, mC, mOp, mChain, mIf, mAndV, mOrV, mNotV, mLst, mTup, mMS, gI0, gLen, gEq, gNe, gEqS, gNeS, gIn, gAll, gStrip, truD, start0, dn, mLc, miS, mgName, wipeD, mYes, lcD, List.map_cons, List.map_nil, List.replicate, List.cons_append, List.nil_append, List.getElem?_cons_zero, List.getElem?_cons_succ, List.getElem?_nil, List.append_nil, gLe, gLt, Bool.not_true, Bool.not_false, Bool.false_eq_true, reduceIte]
      refine ⟨rfl, _, rfl, hk, ?_⟩
      refine ⟨l, rfl, Nat.lt_of_le_of_lt hv.2.1 (by decide), lcD_map (f := fun _ => .bl true) l (fun e me F' q => ?_) ?_⟩
      · obtain ⟨t, h1, h2⟩ := kn_step kl ks (hv.2.2 e me)
        exact ⟨t, .ref (cStep K), true, .own _, h1, kit1_of h2, q⟩
      · refine ⟨l.map (fun _ => true), bls_map l, ?_⟩
        rw [all_map]
        have : l.all (fun _ => true) = true := List.all_eq_true.mpr fun _ _ => rfl
        rw [this]
        exact f
    | tup l =>
      simp only [msRet, msRetN, msSeq, msIf, msNext, msExpr, msSet, mtAnd, mtOr, mtNot, mTru, mB, mCB, mCall, maCons, maNil, mVar, mC, mOp, mChain, mIf, mAndV, mOrV, mNotV, mLst, mTup, mMS, gI0, gLen, gEq, gNe, gEqS, gNeS, gIn, gAll, gStrip, truD, start0, dn, mLc, miS, mgName, wipeD, mYes, lcD, List.map_cons, List.map_nil, List.replicate, List.cons_append, List.nil_append, List.getElem?_cons_zero, List.getElem?_cons_succ, List.getElem?_nil, List.append_nil, gLe, gLt, Bool.not_true, Bool.not_false, Bool.false_eq_true, reduceIte]
      refine ⟨rfl, _, rfl, hk, ?_⟩
      refine ⟨l, rfl, Nat.lt_of_le_of_lt hv.2.1 (by decide), lcD_map (f := fun _ => .bl true) l (fun e me F' q => ?_) ?_⟩
      · obtain ⟨t, h1, h2⟩ := kn_step kl ks (hv.2.2 e me)
        exact ⟨t, .ref (cStep K), true, .own _, h1, kit1_of h2, q⟩
      · refine ⟨l.map (fun _ => true), bls_map l, ?_⟩
        rw [all_map]
        have : l.all (fun _ => true) = true := List.all_eq_true.mpr fun _ _ => rfl
        rw [this]
        exact f
    | _ => cases hv.1
end
end K11

set_option Elab.async false
set_option linter.all false
set_option maxRecDepth 100000
set_option maxHeartbeats 4000000
namespace K11
open PySem PySem.Spec PyProof.Rows L2 DL
def runD (F0 : Prop) : List Prop → Prop
  | [] => F0
  | b :: r => b ∧ runD F0 r
theorem tup_of {d : D} {F : D → Prop} (h : isSeqD d = true) (f : F (.tup (elD d))) : gTuple [d] F := by
  cases d with
  | lst l => exact f
  | tup l => exact f
  | _ => cases h
theorem names_seq {d : D} {m : Int} (h : namesD d m = true) : isSeqD d = true := (Bool.and_eq_true_iff.mp h).1
theorem steps_seq {K : Fg} {d : D} (h : stepsP K d) : isSeqD d = true := h.1
section
variable {P : Program} {w : World} {K : Fg} {mg : Str → Option Value} {base : Heap}
def gPick (K : Fg) : FI := fun ds F X => ∃ d_columns : D, ds = [d_columns] ∧ V2 K d_columns ∧ runD (F [("columns", .tup (elD d_columns))]) [namesD d_columns 1 = true]
theorem sc_Pick_init : FnScope ["self", "columns"] ["self", "columns"] (defScope s_Pick_init) := ⟨rfl, rfl, rfl, by decide +kernel, rfl, by decide +kernel, by decide +kernel⟩
theorem ok_Pick_init (G : Glo K mg) (c : He.SaysD fa fn K) (H_are_names : Fn P w K mg base "are_names" 3 2 false (gNames K)) (H_need : Fn P w K mg base "need" 1 2 false gNeed) : Mkr P w K mg base "Pick" (He.ga K "Pick") 4 1 (gPick K) := by
  obtain ⟨fd, F⟩ := c.defs (d := dfn ("Pick", some "__init__") "__init__" "Pick.__init__" s_Pick_init) (by unfold fn; simp)
  replace F : FunD K "__init__" "Pick.__init__" (defArgs s_Pick_init) (defBody s_Pick_init) (defScope s_Pick_init) [] [] (He.ma K (He.ga K "Pick") "__init__") fd := F
  have kC := He.cls_ok (c.fact 58 (f := .cls "Pick") rfl)
  have n_columns := He.noat_ok (c.fact 68 (f := .noat "Pick" "columns") rfl)
  refine ⟨_, fd, ["self", "columns"], He.mkr_ok (c.fact 48 (f := .mkr "Pick") rfl), ?_, G.g "Pick" (by decide), F.bindsN fun _ _ _ _ _ _ us hl => match us, hl with | [_, _], _ => rfl⟩
  have nd : (["self", "columns"] : List Str).Nodup := sc_Pick_init.nd
  apply fn_okIE (k := 3) (N := ["self", "columns"]) F sc_Pick_init rfl (by decide)
  intro c cdv A outer s H E hr
  have hu := hr.units
  have tk := takes_of (X := cxOf (L2.CX P w) P w K mg base ["self", "columns"] "Pick.__init__" (defScope s_Pick_init) (He.ma K (He.ga K "Pick") "__init__") cdv A outer s H E) rfl rfl rfl rfl
  apply Exists.intro
  apply Exists.intro
  apply And.intro
  · exact (dss_cons (ds_expr (de_f H_need (hr.mono (by decide)) rfl tk (da_cons (de_f H_are_names (hr.mono (by decide)) rfl tk (da_cons (de_var 1) (da_cons de_int da_nil))) (da_cons de_str da_nil))))
    (dss_one (ds_self (pv 0) (de_callTy call_tuple_of cd_tuple rfl (G.n "tuple" (by decide)) (by decide +kernel) (da_cons (de_var 1) da_nil)))))
  · intro ds F1 X1 hn h
    obtain ⟨d_columns, rfl, v_columns, f⟩ := h
    refine ms_at (e := [.self (He.ga K "Pick") [], .dat d_columns]) rfl ?_
    simp only [msRet, msRetN, msSeq, msIf, msNext, msExpr, msSet, mtAnd, mtOr, mtNot, mTru, mB, mCB, mCall, maCons, maNil, mVar, mC, mOp, mChain, mIf, mAndV, mOrV, mNotV, mLst, mTup, mMS, gI0, gLen, gEq, gNe, gEqS, gNeS, gIn, gAll, gStrip, truD, start0, dn, mLc, miS, mgName, wipeD, mYes, lcD, List.map_cons, List.map_nil, List.replicate, List.cons_append, List.nil_append, List.getElem?_cons_zero, List.getElem?_cons_succ, List.getElem?_nil, List.append_nil, gLe, gLt, Bool.not_true, Bool.not_false, Bool.false_eq_true, reduceIte, msSelf, msRaise1]
    simp only [runD] at f
    obtain ⟨e0, f⟩ := f
    refine ⟨rfl, d_columns, 1, rfl, v_columns, rfl, "columns", by rw [e0], ?_⟩
    refine tup_of (names_seq e0) ⟨kC, n_columns, (show 0 < 800 from by decide), rfl, ?_⟩
    exact ⟨rfl, f⟩
def gRename (K : Fg) : FI := fun ds F X => ∃ d_old d_new : D, ds = [d_old, d_new] ∧ V2 K d_old ∧ V2 K d_new ∧ runD (F [("old", d_old), ("new", d_new)]) [nameD d_old = true, nameD d_new = true]
theorem sc_Rename_init : FnScope ["self", "old", "new"] ["self", "old", "new"] (defScope s_Rename_init) := ⟨rfl, rfl, rfl, by decide +kernel, rfl, by decide +kernel, by decide +kernel⟩
theorem ok_Rename_init (G : Glo K mg) (c : He.SaysD fa fn K) (H_is_name : Fn P w K mg base "is_name" 2 1 false (gName K)) (H_need : Fn P w K mg base "need" 1 2 false gNeed) : Mkr P w K mg base "Rename" (He.ga K "Rename") 4 2 (gRename K) := by
  obtain ⟨fd, F⟩ := c.defs (d := dfn ("Rename", some "__init__") "__init__" "Rename.__init__" s_Rename_init) (by unfold fn; simp)
  replace F : FunD K "__init__" "Rename.__init__" (defArgs s_Rename_init) (defBody s_Rename_init) (defScope s_Rename_init) [] [] (He.ma K (He.ga K "Rename") "__init__") fd := F
  have kC := He.cls_ok (c.fact 59 (f := .cls "Rename") rfl)
  have n_old := He.noat_ok (c.fact 69 (f := .noat "Rename" "old") rfl)
  have n_new := He.noat_ok (c.fact 70 (f := .noat "Rename" "new") rfl)
  refine ⟨_, fd, ["self", "old", "new"], He.mkr_ok (c.fact 49 (f := .mkr "Rename") rfl), ?_, G.g "Rename" (by decide), F.bindsN fun _ _ _ _ _ _ us hl => match us, hl with | [_, _, _], _ => rfl⟩
  have nd : (["self", "old", "new"] : List Str).Nodup := sc_Rename_init.nd
  apply fn_okIE (k := 3) (N := ["self", "old", "new"]) F sc_Rename_init rfl (by decide)
  intro c cdv A outer s H E hr
  have hu := hr.units
  have tk := takes_of (X := cxOf (L2.CX P w) P w K mg base ["self", "old", "new"] "Rename.__init__" (defScope s_Rename_init) (He.ma K (He.ga K "Rename") "__init__") cdv A outer s H E) rfl rfl rfl rfl
  apply Exists.intro
  apply Exists.intro
  apply And.intro
  · exact (dss_cons (ds_expr (de_f H_need (hr.mono (by decide)) rfl tk (da_cons (de_f H_is_name (hr.mono (by decide)) rfl tk (da_cons (de_var 1) da_nil)) (da_cons de_str da_nil))))
    (dss_cons (ds_expr (de_f H_need (hr.mono (by decide)) rfl tk (da_cons (de_f H_is_name (hr.mono (by decide)) rfl tk (da_cons (de_var 2) da_nil)) (da_cons de_str da_nil))))
    (dss_cons (ds_self (pv 0) (de_var 1))
    (dss_one (ds_self (pv 0) (de_var 2))))))
  · intro ds F1 X1 hn h
    obtain ⟨d_old, d_new, rfl, v_old, v_new, f⟩ := h
    refine ms_at (e := [.self (He.ga K "Rename") [], .dat d_old, .dat d_new]) rfl ?_
    simp only [msRet, msRetN, msSeq, msIf, msNext, msExpr, msSet, mtAnd, mtOr, mtNot, mTru, mB, mCB, mCall, maCons, maNil, mVar, mC, mOp, mChain, mIf, mAndV, mOrV, mNotV, mLst, mTup, mMS, gI0, gLen, gEq, gNe, gEqS, gNeS, gIn, gAll, gStrip, truD, start0, dn, mLc, miS, mgName, wipeD, mYes, lcD, List.map_cons, List.map_nil, List.replicate, List.cons_append, List.nil_append, List.getElem?_cons_zero, List.getElem?_cons_succ, List.getElem?_nil, List.append_nil, gLe, gLt, Bool.not_true, Bool.not_false, Bool.false_eq_true, reduceIte, msSelf, msRaise1]
    simp only [runD] at f
    obtain ⟨e0, e1, f⟩ := f
    refine ⟨rfl, d_old, rfl, v_old.1, rfl, "old", by rw [e0], ?_⟩
    refine ⟨rfl, d_new, rfl, v_new.1, rfl, "new", by rw [e1], ?_⟩
    refine ⟨kC, n_old, (show 0 < 800 from by decide), rfl, ?_⟩
    refine ⟨kC, n_new, (show 1 < 800 from by decide), rfl, ?_⟩
    exact ⟨rfl, f⟩
def gHas (K : Fg) : FI := fun ds F X => ∃ d_column : D, ds = [d_column] ∧ V2 K d_column ∧ runD (F [("column", d_column)]) [nameD d_column = true]
theorem sc_Has_init : FnScope ["self", "column"] ["self", "column"] (defScope s_Has_init) := ⟨rfl, rfl, rfl, by decide +kernel, rfl, by decide +kernel, by decide +kernel⟩
theorem ok_Has_init (G : Glo K mg) (c : He.SaysD fa fn K) (H_is_name : Fn P w K mg base "is_name" 2 1 false (gName K)) (H_need : Fn P w K mg base "need" 1 2 false gNeed) : Mkr P w K mg base "Has" (He.ga K "Has") 4 1 (gHas K) := by
  obtain ⟨fd, F⟩ := c.defs (d := dfn ("Has", some "__init__") "__init__" "Has.__init__" s_Has_init) (by unfold fn; simp)
  replace F : FunD K "__init__" "Has.__init__" (defArgs s_Has_init) (defBody s_Has_init) (defScope s_Has_init) [] [] (He.ma K (He.ga K "Has") "__init__") fd := F
  have kC := He.cls_ok (c.fact 60 (f := .cls "Has") rfl)
  have n_column := He.noat_ok (c.fact 71 (f := .noat "Has" "column") rfl)
  refine ⟨_, fd, ["self", "column"], He.mkr_ok (c.fact 50 (f := .mkr "Has") rfl), ?_, G.g "Has" (by decide), F.bindsN fun _ _ _ _ _ _ us hl => match us, hl with | [_, _], _ => rfl⟩
  have nd : (["self", "column"] : List Str).Nodup := sc_Has_init.nd
  apply fn_okIE (k := 3) (N := ["self", "column"]) F sc_Has_init rfl (by decide)
  intro c cdv A outer s H E hr
  have hu := hr.units
  have tk := takes_of (X := cxOf (L2.CX P w) P w K mg base ["self", "column"] "Has.__init__" (defScope s_Has_init) (He.ma K (He.ga K "Has") "__init__") cdv A outer s H E) rfl rfl rfl rfl
  apply Exists.intro
  apply Exists.intro
  apply And.intro
  · exact (dss_cons (ds_expr (de_f H_need (hr.mono (by decide)) rfl tk (da_cons (de_f H_is_name (hr.mono (by decide)) rfl tk (da_cons (de_var 1) da_nil)) (da_cons de_str da_nil))))
    (dss_one (ds_self (pv 0) (de_var 1))))
  · intro ds F1 X1 hn h
    obtain ⟨d_column, rfl, v_column, f⟩ := h
    refine ms_at (e := [.self (He.ga K "Has") [], .dat d_column]) rfl ?_
    simp only [msRet, msRetN, msSeq, msIf, msNext, msExpr, msSet, mtAnd, mtOr, mtNot, mTru, mB, mCB, mCall, maCons, maNil, mVar, mC, mOp, mChain, mIf, mAndV, mOrV, mNotV, mLst, mTup, mMS, gI0, gLen, gEq, gNe, gEqS, gNeS, gIn, gAll, gStrip, truD, start0, dn, mLc, miS, mgName, wipeD, mYes, lcD, List.map_cons, List.map_nil, List.replicate, List.cons_append, List.nil_append, List.getElem?_cons_zero, List.getElem?_cons_succ, List.getElem?_nil, List.append_nil, gLe, gLt, Bool.not_true, Bool.not_false, Bool.false_eq_true, reduceIte, msSelf, msRaise1]
    simp only [runD] at f
    obtain ⟨e0, f⟩ := f
    refine ⟨rfl, d_column, rfl, v_column.1, rfl, "column", by rw [e0], ?_⟩
    refine ⟨kC, n_column, (show 0 < 800 from by decide), rfl, ?_⟩
    exact ⟨rfl, f⟩
def gIs (K : Fg) : FI := fun ds F X => ∃ d_column d_text : D, ds = [d_column, d_text] ∧ V2 K d_column ∧ V2 K d_text ∧ runD (F [("column", d_column), ("text", d_text)]) [nameD d_column = true, textD d_text = true]
theorem sc_Is_init : FnScope ["self", "column", "text"] ["self", "column", "text"] (defScope s_Is_init) := ⟨rfl, rfl, rfl, by decide +kernel, rfl, by decide +kernel, by decide +kernel⟩
theorem ok_Is_init (G : Glo K mg) (c : He.SaysD fa fn K) (H_is_name : Fn P w K mg base "is_name" 2 1 false (gName K)) (H_is_text : Fn P w K mg base "is_text" 2 1 false (gText K)) (H_need : Fn P w K mg base "need" 1 2 false gNeed) : Mkr P w K mg base "Is" (He.ga K "Is") 4 2 (gIs K) := by
  obtain ⟨fd, F⟩ := c.defs (d := dfn ("Is", some "__init__") "__init__" "Is.__init__" s_Is_init) (by unfold fn; simp)
  replace F : FunD K "__init__" "Is.__init__" (defArgs s_Is_init) (defBody s_Is_init) (defScope s_Is_init) [] [] (He.ma K (He.ga K "Is") "__init__") fd := F
  have kC := He.cls_ok (c.fact 61 (f := .cls "Is") rfl)
  have n_column := He.noat_ok (c.fact 72 (f := .noat "Is" "column") rfl)
  have n_text := He.noat_ok (c.fact 73 (f := .noat "Is" "text") rfl)
  refine ⟨_, fd, ["self", "column", "text"], He.mkr_ok (c.fact 51 (f := .mkr "Is") rfl), ?_, G.g "Is" (by decide), F.bindsN fun _ _ _ _ _ _ us hl => match us, hl with | [_, _, _], _ => rfl⟩
  have nd : (["self", "column", "text"] : List Str).Nodup := sc_Is_init.nd
  apply fn_okIE (k := 3) (N := ["self", "column", "text"]) F sc_Is_init rfl (by decide)
  intro c cdv A outer s H E hr
  have hu := hr.units
  have tk := takes_of (X := cxOf (L2.CX P w) P w K mg base ["self", "column", "text"] "Is.__init__" (defScope s_Is_init) (He.ma K (He.ga K "Is") "__init__") cdv A outer s H E) rfl rfl rfl rfl
  apply Exists.intro
  apply Exists.intro
  apply And.intro
  · exact (dss_cons (ds_expr (de_f H_need (hr.mono (by decide)) rfl tk (da_cons (de_f H_is_name (hr.mono (by decide)) rfl tk (da_cons (de_var 1) da_nil)) (da_cons de_str da_nil))))
    (dss_cons (ds_expr (de_f H_need (hr.mono (by decide)) rfl tk (da_cons (de_f H_is_text (hr.mono (by decide)) rfl tk (da_cons (de_var 2) da_nil)) (da_cons de_str da_nil))))
    (dss_cons (ds_self (pv 0) (de_var 1))
    (dss_one (ds_self (pv 0) (de_var 2))))))
  · intro ds F1 X1 hn h
    obtain ⟨d_column, d_text, rfl, v_column, v_text, f⟩ := h
    refine ms_at (e := [.self (He.ga K "Is") [], .dat d_column, .dat d_text]) rfl ?_
    simp only [msRet, msRetN, msSeq, msIf, msNext, msExpr, msSet, mtAnd, mtOr, mtNot, mTru, mB, mCB, mCall, maCons, maNil, mVar, mC, mOp, mChain, mIf, mAndV, mOrV, mNotV, mLst, mTup, mMS, gI0, gLen, gEq, gNe, gEqS, gNeS, gIn, gAll, gStrip, truD, start0, dn, mLc, miS, mgName, wipeD, mYes, lcD, List.map_cons, List.map_nil, List.replicate, List.cons_append, List.nil_append, List.getElem?_cons_zero, List.getElem?_cons_succ, List.getElem?_nil, List.append_nil, gLe, gLt, Bool.not_true, Bool.not_false, Bool.false_eq_true, reduceIte, msSelf, msRaise1]
    simp only [runD] at f
    obtain ⟨e0, e1, f⟩ := f
    refine ⟨rfl, d_column, rfl, v_column.1, rfl, "column", by rw [e0], ?_⟩
    refine ⟨rfl, d_text, rfl, v_text.1, rfl, "text", by rw [e1], ?_⟩
    refine ⟨kC, n_column, (show 0 < 800 from by decide), rfl, ?_⟩
    refine ⟨kC, n_text, (show 1 < 800 from by decide), rfl, ?_⟩
    exact ⟨rfl, f⟩
def gPut (K : Fg) : FI := fun ds F X => ∃ d_column d_text : D, ds = [d_column, d_text] ∧ V2 K d_column ∧ V2 K d_text ∧ runD (F [("column", d_column), ("text", d_text)]) [nameD d_column = true, textD d_text = true]
theorem sc_Put_init : FnScope ["self", "column", "text"] ["self", "column", "text"] (defScope s_Put_init) := ⟨rfl, rfl, rfl, by decide +kernel, rfl, by decide +kernel, by decide +kernel⟩
theorem ok_Put_init (G : Glo K mg) (c : He.SaysD fa fn K) (H_is_name : Fn P w K mg base "is_name" 2 1 false (gName K)) (H_is_text : Fn P w K mg base "is_text" 2 1 false (gText K)) (H_need : Fn P w K mg base "need" 1 2 false gNeed) : Mkr P w K mg base "Put" (He.ga K "Put") 4 2 (gPut K) := by
  obtain ⟨fd, F⟩ := c.defs (d := dfn ("Put", some "__init__") "__init__" "Put.__init__" s_Put_init) (by unfold fn; simp)
  replace F : FunD K "__init__" "Put.__init__" (defArgs s_Put_init) (defBody s_Put_init) (defScope s_Put_init) [] [] (He.ma K (He.ga K "Put") "__init__") fd := F
  have kC := He.cls_ok (c.fact 62 (f := .cls "Put") rfl)
  have n_column := He.noat_ok (c.fact 74 (f := .noat "Put" "column") rfl)
  have n_text := He.noat_ok (c.fact 75 (f := .noat "Put" "text") rfl)
  refine ⟨_, fd, ["self", "column", "text"], He.mkr_ok (c.fact 52 (f := .mkr "Put") rfl), ?_, G.g "Put" (by decide), F.bindsN fun _ _ _ _ _ _ us hl => match us, hl with | [_, _, _], _ => rfl⟩
  have nd : (["self", "column", "text"] : List Str).Nodup := sc_Put_init.nd
  apply fn_okIE (k := 3) (N := ["self", "column", "text"]) F sc_Put_init rfl (by decide)
  intro c cdv A outer s H E hr
  have hu := hr.units
  have tk := takes_of (X := cxOf (L2.CX P w) P w K mg base ["self", "column", "text"] "Put.__init__" (defScope s_Put_init) (He.ma K (He.ga K "Put") "__init__") cdv A outer s H E) rfl rfl rfl rfl
  apply Exists.intro
  apply Exists.intro
  apply And.intro
  · exact (dss_cons (ds_expr (de_f H_need (hr.mono (by decide)) rfl tk (da_cons (de_f H_is_name (hr.mono (by decide)) rfl tk (da_cons (de_var 1) da_nil)) (da_cons de_str da_nil))))
    (dss_cons (ds_expr (de_f H_need (hr.mono (by decide)) rfl tk (da_cons (de_f H_is_text (hr.mono (by decide)) rfl tk (da_cons (de_var 2) da_nil)) (da_cons de_str da_nil))))
    (dss_cons (ds_self (pv 0) (de_var 1))
    (dss_one (ds_self (pv 0) (de_var 2))))))
  · intro ds F1 X1 hn h
    obtain ⟨d_column, d_text, rfl, v_column, v_text, f⟩ := h
    refine ms_at (e := [.self (He.ga K "Put") [], .dat d_column, .dat d_text]) rfl ?_
    simp only [msRet, msRetN, msSeq, msIf, msNext, msExpr, msSet, mtAnd, mtOr, mtNot, mTru, mB, mCB, mCall, maCons, maNil, mVar, mC, mOp, mChain, mIf, mAndV, mOrV, mNotV, mLst, mTup, mMS, gI0, gLen, gEq, gNe, gEqS, gNeS, gIn, gAll, gStrip, truD, start0, dn, mLc, miS, mgName, wipeD, mYes, lcD, List.map_cons, List.map_nil, List.replicate, List.cons_append, List.nil_append, List.getElem?_cons_zero, List.getElem?_cons_succ, List.getElem?_nil, List.append_nil, gLe, gLt, Bool.not_true, Bool.not_false, Bool.false_eq_true, reduceIte, msSelf, msRaise1]
    simp only [runD] at f
    obtain ⟨e0, e1, f⟩ := f
    refine ⟨rfl, d_column, rfl, v_column.1, rfl, "column", by rw [e0], ?_⟩
    refine ⟨rfl, d_text, rfl, v_text.1, rfl, "text", by rw [e1], ?_⟩
    refine ⟨kC, n_column, (show 0 < 800 from by decide), rfl, ?_⟩
    refine ⟨kC, n_text, (show 1 < 800 from by decide), rfl, ?_⟩
    exact ⟨rfl, f⟩
def gAlike (K : Fg) : FI := fun ds F X => ∃ d_column d_other : D, ds = [d_column, d_other] ∧ V2 K d_column ∧ V2 K d_other ∧ runD (F [("column", d_column), ("other", d_other)]) [nameD d_column = true, nameD d_other = true]
theorem sc_Alike_init : FnScope ["self", "column", "other"] ["self", "column", "other"] (defScope s_Alike_init) := ⟨rfl, rfl, rfl, by decide +kernel, rfl, by decide +kernel, by decide +kernel⟩
theorem ok_Alike_init (G : Glo K mg) (c : He.SaysD fa fn K) (H_is_name : Fn P w K mg base "is_name" 2 1 false (gName K)) (H_need : Fn P w K mg base "need" 1 2 false gNeed) : Mkr P w K mg base "Alike" (He.ga K "Alike") 4 2 (gAlike K) := by
  obtain ⟨fd, F⟩ := c.defs (d := dfn ("Alike", some "__init__") "__init__" "Alike.__init__" s_Alike_init) (by unfold fn; simp)
  replace F : FunD K "__init__" "Alike.__init__" (defArgs s_Alike_init) (defBody s_Alike_init) (defScope s_Alike_init) [] [] (He.ma K (He.ga K "Alike") "__init__") fd := F
  have kC := He.cls_ok (c.fact 63 (f := .cls "Alike") rfl)
  have n_column := He.noat_ok (c.fact 76 (f := .noat "Alike" "column") rfl)
  have n_other := He.noat_ok (c.fact 77 (f := .noat "Alike" "other") rfl)
  refine ⟨_, fd, ["self", "column", "other"], He.mkr_ok (c.fact 53 (f := .mkr "Alike") rfl), ?_, G.g "Alike" (by decide), F.bindsN fun _ _ _ _ _ _ us hl => match us, hl with | [_, _, _], _ => rfl⟩
  have nd : (["self", "column", "other"] : List Str).Nodup := sc_Alike_init.nd
  apply fn_okIE (k := 3) (N := ["self", "column", "other"]) F sc_Alike_init rfl (by decide)
  intro c cdv A outer s H E hr
  have hu := hr.units
  have tk := takes_of (X := cxOf (L2.CX P w) P w K mg base ["self", "column", "other"] "Alike.__init__" (defScope s_Alike_init) (He.ma K (He.ga K "Alike") "__init__") cdv A outer s H E) rfl rfl rfl rfl
  apply Exists.intro
  apply Exists.intro
  apply And.intro
  · exact (dss_cons (ds_expr (de_f H_need (hr.mono (by decide)) rfl tk (da_cons (de_f H_is_name (hr.mono (by decide)) rfl tk (da_cons (de_var 1) da_nil)) (da_cons de_str da_nil))))
    (dss_cons (ds_expr (de_f H_need (hr.mono (by decide)) rfl tk (da_cons (de_f H_is_name (hr.mono (by decide)) rfl tk (da_cons (de_var 2) da_nil)) (da_cons de_str da_nil))))
    (dss_cons (ds_self (pv 0) (de_var 1))
    (dss_one (ds_self (pv 0) (de_var 2))))))
  · intro ds F1 X1 hn h
    obtain ⟨d_column, d_other, rfl, v_column, v_other, f⟩ := h
    refine ms_at (e := [.self (He.ga K "Alike") [], .dat d_column, .dat d_other]) rfl ?_
    simp only [msRet, msRetN, msSeq, msIf, msNext, msExpr, msSet, mtAnd, mtOr, mtNot, mTru, mB, mCB, mCall, maCons, maNil, mVar, mC, mOp, mChain, mIf, mAndV, mOrV, mNotV, mLst, mTup, mMS, gI0, gLen, gEq, gNe, gEqS, gNeS, gIn, gAll, gStrip, truD, start0, dn, mLc, miS, mgName, wipeD, mYes, lcD, List.map_cons, List.map_nil, List.replicate, List.cons_append, List.nil_append, List.getElem?_cons_zero, List.getElem?_cons_succ, List.getElem?_nil, List.append_nil, gLe, gLt, Bool.not_true, Bool.not_false, Bool.false_eq_true, reduceIte, msSelf, msRaise1]
    simp only [runD] at f
    obtain ⟨e0, e1, f⟩ := f
    refine ⟨rfl, d_column, rfl, v_column.1, rfl, "column", by rw [e0], ?_⟩
    refine ⟨rfl, d_other, rfl, v_other.1, rfl, "other", by rw [e1], ?_⟩
    refine ⟨kC, n_column, (show 0 < 800 from by decide), rfl, ?_⟩
    refine ⟨kC, n_other, (show 1 < 800 from by decide), rfl, ?_⟩
    exact ⟨rfl, f⟩
def gMelt (K : Fg) : FI := fun ds F X => ∃ d_columns d_name d_value : D, ds = [d_columns, d_name, d_value] ∧ V2 K d_columns ∧ V2 K d_name ∧ V2 K d_value ∧ runD (F [("columns", .tup (elD d_columns)), ("name", d_name), ("value", d_value)]) [namesD d_columns 1 = true, nameD d_name = true, nameD d_value = true]
theorem sc_Melt_init : FnScope ["self", "columns", "name", "value"] ["self", "columns", "name", "value"] (defScope s_Melt_init) := ⟨rfl, rfl, rfl, by decide +kernel, rfl, by decide +kernel, by decide +kernel⟩
theorem ok_Melt_init (G : Glo K mg) (c : He.SaysD fa fn K) (H_are_names : Fn P w K mg base "are_names" 3 2 false (gNames K)) (H_is_name : Fn P w K mg base "is_name" 2 1 false (gName K)) (H_need : Fn P w K mg base "need" 1 2 false gNeed) : Mkr P w K mg base "Melt" (He.ga K "Melt") 4 3 (gMelt K) := by
  obtain ⟨fd, F⟩ := c.defs (d := dfn ("Melt", some "__init__") "__init__" "Melt.__init__" s_Melt_init) (by unfold fn; simp)
  replace F : FunD K "__init__" "Melt.__init__" (defArgs s_Melt_init) (defBody s_Melt_init) (defScope s_Melt_init) [] [] (He.ma K (He.ga K "Melt") "__init__") fd := F
  have kC := He.cls_ok (c.fact 64 (f := .cls "Melt") rfl)
  have n_columns := He.noat_ok (c.fact 78 (f := .noat "Melt" "columns") rfl)
  have n_name := He.noat_ok (c.fact 79 (f := .noat "Melt" "name") rfl)
  have n_value := He.noat_ok (c.fact 80 (f := .noat "Melt" "value") rfl)
  refine ⟨_, fd, ["self", "columns", "name", "value"], He.mkr_ok (c.fact 54 (f := .mkr "Melt") rfl), ?_, G.g "Melt" (by decide), F.bindsN fun _ _ _ _ _ _ us hl => match us, hl with | [_, _, _, _], _ => rfl⟩
  have nd : (["self", "columns", "name", "value"] : List Str).Nodup := sc_Melt_init.nd
  apply fn_okIE (k := 3) (N := ["self", "columns", "name", "value"]) F sc_Melt_init rfl (by decide)
  intro c cdv A outer s H E hr
  have hu := hr.units
  have tk := takes_of (X := cxOf (L2.CX P w) P w K mg base ["self", "columns", "name", "value"] "Melt.__init__" (defScope s_Melt_init) (He.ma K (He.ga K "Melt") "__init__") cdv A outer s H E) rfl rfl rfl rfl
  apply Exists.intro
  apply Exists.intro
  apply And.intro
  · exact (dss_cons (ds_expr (de_f H_need (hr.mono (by decide)) rfl tk (da_cons (de_f H_are_names (hr.mono (by decide)) rfl tk (da_cons (de_var 1) (da_cons de_int da_nil))) (da_cons de_str da_nil))))
    (dss_cons (ds_expr (de_f H_need (hr.mono (by decide)) rfl tk (da_cons (de_f H_is_name (hr.mono (by decide)) rfl tk (da_cons (de_var 2) da_nil)) (da_cons de_str da_nil))))
    (dss_cons (ds_expr (de_f H_need (hr.mono (by decide)) rfl tk (da_cons (de_f H_is_name (hr.mono (by decide)) rfl tk (da_cons (de_var 3) da_nil)) (da_cons de_str da_nil))))
    (dss_cons (ds_self (pv 0) (de_callTy call_tuple_of cd_tuple rfl (G.n "tuple" (by decide)) (by decide +kernel) (da_cons (de_var 1) da_nil)))
    (dss_cons (ds_self (pv 0) (de_var 2))
    (dss_one (ds_self (pv 0) (de_var 3))))))))
  · intro ds F1 X1 hn h
    obtain ⟨d_columns, d_name, d_value, rfl, v_columns, v_name, v_value, f⟩ := h
    refine ms_at (e := [.self (He.ga K "Melt") [], .dat d_columns, .dat d_name, .dat d_value]) rfl ?_
    simp only [msRet, msRetN, msSeq, msIf, msNext, msExpr, msSet, mtAnd, mtOr, mtNot, mTru, mB, mCB, mCall, maCons, maNil, mVar, mC, mOp, mChain, mIf, mAndV, mOrV, mNotV, mLst, mTup, mMS, gI0, gLen, gEq, gNe, gEqS, gNeS, gIn, gAll, gStrip, truD, start0, dn, mLc, miS, mgName, wipeD, mYes, lcD, List.map_cons, List.map_nil, List.replicate, List.cons_append, List.nil_append, List.getElem?_cons_zero, List.getElem?_cons_succ, List.getElem?_nil, List.append_nil, gLe, gLt, Bool.not_true, Bool.not_false, Bool.false_eq_true, reduceIte, msSelf, msRaise1]
    simp only [runD] at f
    obtain ⟨e0, e1, e2, f⟩ := f
    refine ⟨rfl, d_columns, 1, rfl, v_columns, rfl, "columns", by rw [e0], ?_⟩
    refine ⟨rfl, d_name, rfl, v_name.1, rfl, "name", by rw [e1], ?_⟩
    refine ⟨rfl, d_value, rfl, v_value.1, rfl, "value", by rw [e2], ?_⟩
    refine tup_of (names_seq e0) ⟨kC, n_columns, (show 0 < 800 from by decide), rfl, ?_⟩
    refine ⟨kC, n_name, (show 1 < 800 from by decide), rfl, ?_⟩
    refine ⟨kC, n_value, (show 2 < 800 from by decide), rfl, ?_⟩
    exact ⟨rfl, f⟩
def gPivot (K : Fg) : FI := fun ds F X => ∃ d_by d_name d_value d_heads : D, ds = [d_by, d_name, d_value, d_heads] ∧ V2 K d_by ∧ V2 K d_name ∧ V2 K d_value ∧ V2 K d_heads ∧ runD (F [("by", .tup (elD d_by)), ("name", d_name), ("value", d_value), ("heads", .tup (elD d_heads))]) [namesD d_by 0 = true, nameD d_name = true, nameD d_value = true, namesD d_heads 1 = true]
theorem sc_Pivot_init : FnScope ["self", "by", "name", "value", "heads"] ["self", "by", "name", "value", "heads"] (defScope s_Pivot_init) := ⟨rfl, rfl, rfl, by decide +kernel, rfl, by decide +kernel, by decide +kernel⟩
theorem ok_Pivot_init (G : Glo K mg) (c : He.SaysD fa fn K) (H_are_names : Fn P w K mg base "are_names" 3 2 false (gNames K)) (H_is_name : Fn P w K mg base "is_name" 2 1 false (gName K)) (H_need : Fn P w K mg base "need" 1 2 false gNeed) : Mkr P w K mg base "Pivot" (He.ga K "Pivot") 4 4 (gPivot K) := by
  obtain ⟨fd, F⟩ := c.defs (d := dfn ("Pivot", some "__init__") "__init__" "Pivot.__init__" s_Pivot_init) (by unfold fn; simp)
  replace F : FunD K "__init__" "Pivot.__init__" (defArgs s_Pivot_init) (defBody s_Pivot_init) (defScope s_Pivot_init) [] [] (He.ma K (He.ga K "Pivot") "__init__") fd := F
  have kC := He.cls_ok (c.fact 65 (f := .cls "Pivot") rfl)
  have n_by := He.noat_ok (c.fact 81 (f := .noat "Pivot" "by") rfl)
  have n_name := He.noat_ok (c.fact 82 (f := .noat "Pivot" "name") rfl)
  have n_value := He.noat_ok (c.fact 83 (f := .noat "Pivot" "value") rfl)
  have n_heads := He.noat_ok (c.fact 84 (f := .noat "Pivot" "heads") rfl)
  refine ⟨_, fd, ["self", "by", "name", "value", "heads"], He.mkr_ok (c.fact 55 (f := .mkr "Pivot") rfl), ?_, G.g "Pivot" (by decide), F.bindsN fun _ _ _ _ _ _ us hl => match us, hl with | [_, _, _, _, _], _ => rfl⟩
  have nd : (["self", "by", "name", "value", "heads"] : List Str).Nodup := sc_Pivot_init.nd
  apply fn_okIE (k := 3) (N := ["self", "by", "name", "value", "heads"]) F sc_Pivot_init rfl (by decide)
  intro c cdv A outer s H E hr
  have hu := hr.units
  have tk := takes_of (X := cxOf (L2.CX P w) P w K mg base ["self", "by", "name", "value", "heads"] "Pivot.__init__" (defScope s_Pivot_init) (He.ma K (He.ga K "Pivot") "__init__") cdv A outer s H E) rfl rfl rfl rfl
  apply Exists.intro
  apply Exists.intro
  apply And.intro
  · exact (dss_cons (ds_expr (de_f H_need (hr.mono (by decide)) rfl tk (da_cons (de_f H_are_names (hr.mono (by decide)) rfl tk (da_cons (de_var 1) (da_cons de_int da_nil))) (da_cons de_str da_nil))))
    (dss_cons (ds_expr (de_f H_need (hr.mono (by decide)) rfl tk (da_cons (de_f H_is_name (hr.mono (by decide)) rfl tk (da_cons (de_var 2) da_nil)) (da_cons de_str da_nil))))
    (dss_cons (ds_expr (de_f H_need (hr.mono (by decide)) rfl tk (da_cons (de_f H_is_name (hr.mono (by decide)) rfl tk (da_cons (de_var 3) da_nil)) (da_cons de_str da_nil))))
    (dss_cons (ds_expr (de_f H_need (hr.mono (by decide)) rfl tk (da_cons (de_f H_are_names (hr.mono (by decide)) rfl tk (da_cons (de_var 4) (da_cons de_int da_nil))) (da_cons de_str da_nil))))
    (dss_cons (ds_self (pv 0) (de_callTy call_tuple_of cd_tuple rfl (G.n "tuple" (by decide)) (by decide +kernel) (da_cons (de_var 1) da_nil)))
    (dss_cons (ds_self (pv 0) (de_var 2))
    (dss_cons (ds_self (pv 0) (de_var 3))
    (dss_one (ds_self (pv 0) (de_callTy call_tuple_of cd_tuple rfl (G.n "tuple" (by decide)) (by decide +kernel) (da_cons (de_var 4) da_nil)))))))))))
  · intro ds F1 X1 hn h
    obtain ⟨d_by, d_name, d_value, d_heads, rfl, v_by, v_name, v_value, v_heads, f⟩ := h
    refine ms_at (e := [.self (He.ga K "Pivot") [], .dat d_by, .dat d_name, .dat d_value, .dat d_heads]) rfl ?_
    simp only [msRet, msRetN, msSeq, msIf, msNext, msExpr, msSet, mtAnd, mtOr, mtNot, mTru, mB, mCB, mCall, maCons, maNil, mVar, mC, mOp, mChain, mIf, mAndV, mOrV, mNotV, mLst, mTup, mMS, gI0, gLen, gEq, gNe, gEqS, gNeS, gIn, gAll, gStrip, truD, start0, dn, mLc, miS, mgName, wipeD, mYes, lcD, List.map_cons, List.map_nil, List.replicate, List.cons_append, List.nil_append, List.getElem?_cons_zero, List.getElem?_cons_succ, List.getElem?_nil, List.append_nil, gLe, gLt, Bool.not_true, Bool.not_false, Bool.false_eq_true, reduceIte, msSelf, msRaise1]
    simp only [runD] at f
    obtain ⟨e0, e1, e2, e3, f⟩ := f
    refine ⟨rfl, d_by, 0, rfl, v_by, rfl, "by", by rw [e0], ?_⟩
    refine ⟨rfl, d_name, rfl, v_name.1, rfl, "name", by rw [e1], ?_⟩
    refine ⟨rfl, d_value, rfl, v_value.1, rfl, "value", by rw [e2], ?_⟩
    refine ⟨rfl, d_heads, 1, rfl, v_heads, rfl, "heads", by rw [e3], ?_⟩
    refine tup_of (names_seq e0) ⟨kC, n_by, (show 0 < 800 from by decide), rfl, ?_⟩
    refine ⟨kC, n_name, (show 1 < 800 from by decide), rfl, ?_⟩
    refine ⟨kC, n_value, (show 2 < 800 from by decide), rfl, ?_⟩
    refine tup_of (names_seq e3) ⟨kC, n_heads, (show 3 < 800 from by decide), rfl, ?_⟩
    exact ⟨rfl, f⟩
def gJoin (K : Fg) : FI := fun ds F X => ∃ d_columns d_steps : D, ds = [d_columns, d_steps] ∧ V2 K d_columns ∧ Kn K d_steps ∧ runD (F [("columns", .tup (elD d_columns)), ("steps", .tup (elD d_steps))]) [namesD d_columns 0 = true, stepsP K d_steps]
theorem sc_Join_init : FnScope ["self", "columns", "steps"] ["self", "columns", "steps"] (defScope s_Join_init) := ⟨rfl, rfl, rfl, by decide +kernel, rfl, by decide +kernel, by decide +kernel⟩
theorem ok_Join_init (G : Glo K mg) (c : He.SaysD fa fn K) (H_are_names : Fn P w K mg base "are_names" 3 2 false (gNames K)) (H_are_steps : Fn P w K mg base "are_steps" 2 1 false (gSteps K)) (H_need : Fn P w K mg base "need" 1 2 false gNeed) : Mkr P w K mg base "Join" (He.ga K "Join") 4 2 (gJoin K) := by
  obtain ⟨fd, F⟩ := c.defs (d := dfn ("Join", some "__init__") "__init__" "Join.__init__" s_Join_init) (by unfold fn; simp)
  replace F : FunD K "__init__" "Join.__init__" (defArgs s_Join_init) (defBody s_Join_init) (defScope s_Join_init) [] [] (He.ma K (He.ga K "Join") "__init__") fd := F
  have kC := He.cls_ok (c.fact 66 (f := .cls "Join") rfl)
  have n_columns := He.noat_ok (c.fact 85 (f := .noat "Join" "columns") rfl)
  have n_steps := He.noat_ok (c.fact 86 (f := .noat "Join" "steps") rfl)
  refine ⟨_, fd, ["self", "columns", "steps"], He.mkr_ok (c.fact 56 (f := .mkr "Join") rfl), ?_, G.g "Join" (by decide), F.bindsN fun _ _ _ _ _ _ us hl => match us, hl with | [_, _, _], _ => rfl⟩
  have nd : (["self", "columns", "steps"] : List Str).Nodup := sc_Join_init.nd
  apply fn_okIE (k := 3) (N := ["self", "columns", "steps"]) F sc_Join_init rfl (by decide)
  intro c cdv A outer s H E hr
  have hu := hr.units
  have tk := takes_of (X := cxOf (L2.CX P w) P w K mg base ["self", "columns", "steps"] "Join.__init__" (defScope s_Join_init) (He.ma K (He.ga K "Join") "__init__") cdv A outer s H E) rfl rfl rfl rfl
  apply Exists.intro
  apply Exists.intro
  apply And.intro
  · exact (dss_cons (ds_expr (de_f H_need (hr.mono (by decide)) rfl tk (da_cons (de_f H_are_names (hr.mono (by decide)) rfl tk (da_cons (de_var 1) (da_cons de_int da_nil))) (da_cons de_str da_nil))))
    (dss_cons (ds_expr (de_f H_need (hr.mono (by decide)) rfl tk (da_cons (de_f H_are_steps (hr.mono (by decide)) rfl tk (da_cons (de_var 2) da_nil)) (da_cons de_str da_nil))))
    (dss_cons (ds_self (pv 0) (de_callTy call_tuple_of cd_tuple rfl (G.n "tuple" (by decide)) (by decide +kernel) (da_cons (de_var 1) da_nil)))
    (dss_one (ds_self (pv 0) (de_callTy call_tuple_of cd_tuple rfl (G.n "tuple" (by decide)) (by decide +kernel) (da_cons (de_var 2) da_nil)))))))
  · intro ds F1 X1 hn h
    obtain ⟨d_columns, d_steps, rfl, v_columns, v_steps, f⟩ := h
    refine ms_at (e := [.self (He.ga K "Join") [], .dat d_columns, .dat d_steps]) rfl ?_
    simp only [msRet, msRetN, msSeq, msIf, msNext, msExpr, msSet, mtAnd, mtOr, mtNot, mTru, mB, mCB, mCall, maCons, maNil, mVar, mC, mOp, mChain, mIf, mAndV, mOrV, mNotV, mLst, mTup, mMS, gI0, gLen, gEq, gNe, gEqS, gNeS, gIn, gAll, gStrip, truD, start0, dn, mLc, miS, mgName, wipeD, mYes, lcD, List.map_cons, List.map_nil, List.replicate, List.cons_append, List.nil_append, List.getElem?_cons_zero, List.getElem?_cons_succ, List.getElem?_nil, List.append_nil, gLe, gLt, Bool.not_true, Bool.not_false, Bool.false_eq_true, reduceIte, msSelf, msRaise1]
    simp only [runD] at f
    obtain ⟨e0, e1, f⟩ := f
    refine ⟨rfl, d_columns, 0, rfl, v_columns, rfl, "columns", by rw [e0], ?_⟩
    refine ⟨rfl, d_steps, rfl, v_steps, e1, rfl, "steps", rfl, ?_⟩
    refine tup_of (names_seq e0) ⟨kC, n_columns, (show 0 < 800 from by decide), rfl, ?_⟩
    refine tup_of (steps_seq e1) ⟨kC, n_steps, (show 1 < 800 from by decide), rfl, ?_⟩
    exact ⟨rfl, f⟩
def gStack (K : Fg) : FI := fun ds F X => ∃ d_steps : D, ds = [d_steps] ∧ Kn K d_steps ∧ runD (F [("steps", .tup (elD d_steps))]) [stepsP K d_steps]
theorem sc_Stack_init : FnScope ["self", "steps"] ["self", "steps"] (defScope s_Stack_init) := ⟨rfl, rfl, rfl, by decide +kernel, rfl, by decide +kernel, by decide +kernel⟩
theorem ok_Stack_init (G : Glo K mg) (c : He.SaysD fa fn K) (H_are_steps : Fn P w K mg base "are_steps" 2 1 false (gSteps K)) (H_need : Fn P w K mg base "need" 1 2 false gNeed) : Mkr P w K mg base "Stack" (He.ga K "Stack") 4 1 (gStack K) := by
  obtain ⟨fd, F⟩ := c.defs (d := dfn ("Stack", some "__init__") "__init__" "Stack.__init__" s_Stack_init) (by unfold fn; simp)
  replace F : FunD K "__init__" "Stack.__init__" (defArgs s_Stack_init) (defBody s_Stack_init) (defScope s_Stack_init) [] [] (He.ma K (He.ga K "Stack") "__init__") fd := F
  have kC := He.cls_ok (c.fact 67 (f := .cls "Stack") rfl)
  have n_steps := He.noat_ok (c.fact 87 (f := .noat "Stack" "steps") rfl)
  refine ⟨_, fd, ["self", "steps"], He.mkr_ok (c.fact 57 (f := .mkr "Stack") rfl), ?_, G.g "Stack" (by decide), F.bindsN fun _ _ _ _ _ _ us hl => match us, hl with | [_, _], _ => rfl⟩
  have nd : (["self", "steps"] : List Str).Nodup := sc_Stack_init.nd
  apply fn_okIE (k := 3) (N := ["self", "steps"]) F sc_Stack_init rfl (by decide)
  intro c cdv A outer s H E hr
  have hu := hr.units
  have tk := takes_of (X := cxOf (L2.CX P w) P w K mg base ["self", "steps"] "Stack.__init__" (defScope s_Stack_init) (He.ma K (He.ga K "Stack") "__init__") cdv A outer s H E) rfl rfl rfl rfl
  apply Exists.intro
  apply Exists.intro
  apply And.intro
  · exact (dss_cons (ds_expr (de_f H_need (hr.mono (by decide)) rfl tk (da_cons (de_f H_are_steps (hr.mono (by decide)) rfl tk (da_cons (de_var 1) da_nil)) (da_cons de_str da_nil))))
    (dss_one (ds_self (pv 0) (de_callTy call_tuple_of cd_tuple rfl (G.n "tuple" (by decide)) (by decide +kernel) (da_cons (de_var 1) da_nil)))))
  · intro ds F1 X1 hn h
    obtain ⟨d_steps, rfl, v_steps, f⟩ := h
    refine ms_at (e := [.self (He.ga K "Stack") [], .dat d_steps]) rfl ?_
    simp only [msRet, msRetN, msSeq, msIf, msNext, msExpr, msSet, mtAnd, mtOr, mtNot, mTru, mB, mCB, mCall, maCons, maNil, mVar, mC, mOp, mChain, mIf, mAndV, mOrV, mNotV, mLst, mTup, mMS, gI0, gLen, gEq, gNe, gEqS, gNeS, gIn, gAll, gStrip, truD, start0, dn, mLc, miS, mgName, wipeD, mYes, lcD, List.map_cons, List.map_nil, List.replicate, List.cons_append, List.nil_append, List.getElem?_cons_zero, List.getElem?_cons_succ, List.getElem?_nil, List.append_nil, gLe, gLt, Bool.not_true, Bool.not_false, Bool.false_eq_true, reduceIte, msSelf, msRaise1]
    simp only [runD] at f
    obtain ⟨e0, f⟩ := f
    refine ⟨rfl, d_steps, rfl, v_steps, e0, rfl, "steps", rfl, ?_⟩
    refine tup_of (steps_seq e0) ⟨kC, n_steps, (show 0 < 800 from by decide), rfl, ?_⟩
    exact ⟨rfl, f⟩
end
end K11

set_option Elab.async false
set_option linter.all false
set_option maxRecDepth 100000
set_option maxHeartbeats 4000000
namespace K11
open PySem PySem.Spec PyProof.Rows L2 DL
/-! ### steps, their objects, their texts -/
inductive Stp where
  | pick (cs : List Str) | rename (o n : Str) | has (a : Str) | is_ (a t : Str) | put (a t : Str) | alike (a b : Str) | melt (cs : List Str) (n v : Str) | pivot (bs : List Str) (n v : Str) (hs : List Str)
  | join (cs : List Str) (ss : List Stp) | stack (ss : List Stp)
def clsN : Stp → Str
  | .pick _ => "Pick"
  | .rename _ _ => "Rename"
  | .has _ => "Has"
  | .is_ _ _ => "Is"
  | .put _ _ => "Put"
  | .alike _ _ => "Alike"
  | .melt _ _ _ => "Melt"
  | .pivot _ _ _ _ => "Pivot"
  | .join _ _ => "Join"
  | .stack _ => "Stack"
def strsT (xs : List Str) : D := .tup (xs.map .str)
def strsL (xs : List Str) : D := .lst (xs.map .str)
mutual
def objD (K : Fg) : Stp → D
  | .pick cs => .obj (He.ga K "Pick") [("columns", strsT cs)]
  | .rename o n => .obj (He.ga K "Rename") [("old", .str o), ("new", .str n)]
  | .has a => .obj (He.ga K "Has") [("column", .str a)]
  | .is_ a t => .obj (He.ga K "Is") [("column", .str a), ("text", .str t)]
  | .put a t => .obj (He.ga K "Put") [("column", .str a), ("text", .str t)]
  | .alike a b => .obj (He.ga K "Alike") [("column", .str a), ("other", .str b)]
  | .melt cs n v => .obj (He.ga K "Melt") [("columns", strsT cs), ("name", .str n), ("value", .str v)]
  | .pivot bs n v hs => .obj (He.ga K "Pivot") [("by", strsT bs), ("name", .str n), ("value", .str v), ("heads", strsT hs)]
  | .join cs ss => .obj (He.ga K "Join") [("columns", strsT cs), ("steps", .tup (objDs K ss))]
  | .stack ss => .obj (He.ga K "Stack") [("steps", .tup (objDs K ss))]
def objDs (K : Fg) : List Stp → List D
  | [] => []
  | s :: r => objD K s :: objDs K r
end
mutual
def linesS : Stp → List Str
  | .pick cs => [Txt.join " " (("pick" : Str) :: cs)]
  | .rename o n => [Txt.join " " [("rename" : Str), o, n]]
  | .has a => [Txt.join " " [("has" : Str), a]]
  | .is_ a t => [Txt.join " " [("is" : Str), a, t]]
  | .put a t => [Txt.join " " [("put" : Str), a, t]]
  | .alike a b => [Txt.join " " [("alike" : Str), a, b]]
  | .melt cs n v => [Txt.join " " (("melt" : Str) :: (cs ++ [("as" : Str), n, v]))]
  | .pivot bs n v hs => [Txt.join " " (("pivot" : Str) :: (bs ++ (("by" : Str) :: n :: v :: ("to" : Str) :: hs)))]
  | .join cs ss => Txt.join " " (("join" : Str) :: cs) :: (linesSs ss ++ [("end" : Str)])
  | .stack ss => ("stack" : Str) :: (linesSs ss ++ [("end" : Str)])
def linesSs : List Stp → List Str
  | [] => []
  | s :: r => linesS s ++ linesSs r
end
def textS (s : Stp) : Str := Txt.join "\n" (linesS s)
theorem objDs_eq (K : Fg) : ∀ ss, objDs K ss = ss.map (objD K)
  | [] => by unfold objDs; rfl
  | s :: r => by unfold objDs; rw [objDs_eq K r, List.map_cons]
theorem linesSs_eq : ∀ ss, linesSs ss = ss.flatMap linesS
  | [] => by unfold linesSs; rfl
  | s :: r => by unfold linesSs; rw [linesSs_eq r, List.flatMap_cons]
/-! texts put together -/
theorem tj (z : Str) (ys : List Str) : Txt.join z ys = Str.join z ys := TL.join_eq z ys
theorem jn_nil (z : Str) : Str.join z [] = Str.empty := rfl
theorem jn_cons (z x y : Str) (r : List Str) : Str.join z (x :: y :: r) = x ++ z ++ Str.join z (y :: r) := rfl
theorem jn_append (z : Str) : ∀ {xs ys : List Str}, xs ≠ [] → ys ≠ [] → Str.join z (xs ++ ys) = Str.join z xs ++ z ++ Str.join z ys
  | [], _, h, _ => absurd rfl h
  | [x], y :: ys, _, _ => rfl
  | [x], [], _, h => absurd rfl h
  | x :: x2 :: xs, ys, _, h => by
    show Str.join z (x :: x2 :: (xs ++ ys)) = _
    rw [jn_cons, jn_cons, show x2 :: (xs ++ ys) = (x2 :: xs) ++ ys from rfl, jn_append z (by simp) h]
    simp only [Str.append_assoc]
theorem jn_flat (z : Str) : ∀ P : List (List Str), (∀ p ∈ P, p ≠ []) → Str.join z (P.map (Str.join z)) = Str.join z P.flatten
  | [], _ => rfl
  | [p], _ => by
    show Str.join z p = Str.join z (p ++ [])
    rw [List.append_nil]
  | p :: q :: r, h => by
    have hq : (q :: r).flatten ≠ [] := by
      rw [List.flatten_cons]
      intro e
      exact h q (by simp) (List.append_eq_nil_iff.mp e).1
    rw [List.map_cons, List.map_cons, jn_cons, List.flatten_cons, jn_append z (h p (by simp)) hq, ← jn_flat z (q :: r) fun a ha => h a (List.mem_cons_of_mem _ ha), List.map_cons]
theorem jn_len (z : Str) : ∀ ys : List Str, (Str.join z ys).length ≤ (ys.map (·.length)).sum + ys.length * z.length
  | [] => Nat.zero_le _
  | [x] => by
    show x.length ≤ x.length + 0 + 1 * z.length
    omega
  | x :: y :: r => by
    have := jn_len z (y :: r)
    rw [jn_cons, Str.length_append, Str.length_append, List.map_cons, List.sum_cons, List.length_cons, Nat.add_mul]
    omega
theorem lines_ne : ∀ s : Stp, linesS s ≠ []
  | .pick _ => by unfold linesS; simp
  | .rename _ _ => by unfold linesS; simp
  | .has _ => by unfold linesS; simp
  | .is_ _ _ => by unfold linesS; simp
  | .put _ _ => by unfold linesS; simp
  | .alike _ _ => by unfold linesS; simp
  | .melt _ _ _ => by unfold linesS; simp
  | .pivot _ _ _ _ => by unfold linesS; simp
  | .join _ _ => by unfold linesS; simp
  | .stack _ => by unfold linesS; simp
theorem text_flat (first : Str) (ss : List Stp) : Txt.join "\n" (first :: (ss.map textS ++ [("end" : Str)])) = Txt.join "\n" (first :: (linesSs ss ++ [("end" : Str)])) := by
  have e := jn_flat "\n" ([first] :: (ss.map linesS ++ [[("end" : Str)]])) (fun p hp => by
    rcases List.mem_cons.mp hp with rfl | hp
    · simp
    rcases List.mem_append.mp hp with hp | hp
    · obtain ⟨s, _, rfl⟩ := List.mem_map.mp hp
      exact lines_ne s
    · cases List.mem_singleton.mp hp
      simp)
  rw [tj, tj, linesSs_eq]
  have e1 : ([first] :: (ss.map linesS ++ [[("end" : Str)]])).map (Str.join "\n") = first :: (ss.map textS ++ [("end" : Str)]) := by
    rw [List.map_cons, List.map_append, List.map_map]
    have : (Str.join "\n" ∘ linesS) = textS := funext fun s => (tj "\n" (linesS s)).symm
    rw [this]
    rfl
  have e2 : ([first] :: (ss.map linesS ++ [[("end" : Str)]])).flatten = first :: (ss.flatMap linesS ++ [("end" : Str)]) := by
    rw [List.flatten_cons, List.flatten_append, List.flatMap_def]
    rfl
  rw [e1, e2] at e
  exact e
theorem sp1 (a b : Str) : Txt.join " " [a, b] = a ++ " " ++ b := by rw [tj]; rfl
theorem sp2 (a b c : Str) : Txt.join " " [a, b, c] = a ++ " " ++ b ++ " " ++ c := by
  rw [tj]
  show a ++ " " ++ (b ++ " " ++ c) = _
  simp only [Str.append_assoc]
/-! ### what is drawn fits -/
def Nm (x : Str) : Prop := nameD (.str x) = true ∧ x.length ≤ 4 ∧ PyData.strOk x = true
def Tx (x : Str) : Prop := textD (.str x) = true ∧ x.length ≤ 6 ∧ PyData.strOk x = true
def Nms (m : Nat) (cs : List Str) : Prop := m ≤ cs.length ∧ cs.length ≤ 9 ∧ cs.Nodup ∧ ∀ x ∈ cs, Nm x
def okS : Nat → Stp → Prop
  | _, .pick cs => Nms 1 cs
  | _, .rename o n => Nm o ∧ Nm n
  | _, .has a => Nm a
  | _, .is_ a t => Nm a ∧ Tx t
  | _, .put a t => Nm a ∧ Tx t
  | _, .alike a b => Nm a ∧ Nm b
  | _, .melt cs n v => Nms 1 cs ∧ Nm n ∧ Nm v
  | _, .pivot bs n v hs => Nms 0 bs ∧ Nm n ∧ Nm v ∧ Nms 1 hs
  | n + 1, .join cs ss => Nms 0 cs ∧ ss.length ≤ 6 ∧ ∀ s ∈ ss, okS n s
  | n + 1, .stack ss => ss.length ≤ 6 ∧ ∀ s ∈ ss, okS n s
  | 0, .join _ _ => False
  | 0, .stack _ => False
def Bd : Nat → Nat
  | 0 => 300
  | n + 1 => 100 + 6 * (Bd n + 1)
theorem Bd_le : ∀ {n : Nat}, n ≤ 3 → Bd n ≤ 100000
  | 0, _ => by decide
  | 1, _ => by decide
  | 2, _ => by decide
  | 3, _ => by decide
theorem sum_le {ys : List Str} {m : Nat} (h : ∀ y ∈ ys, y.length ≤ m) : (ys.map (·.length)).sum ≤ ys.length * m := by
  induction ys with
  | nil => exact Nat.zero_le _
  | cons y ys ih =>
    have h1 := h y (by simp)
    have h2 := ih fun z hz => h z (List.mem_cons_of_mem _ hz)
    rw [List.map_cons, List.sum_cons, List.length_cons, Nat.add_mul]
    omega
end K11

set_option Elab.async false
set_option linter.all false
set_option maxRecDepth 100000
set_option maxHeartbeats 4000000
namespace K11
open PySem PySem.Spec PyProof.Rows L2 DL
/-! ### what the head says of the classes -/
structure OneC (K : Fg) (C : Addr) : Prop where
  str : PySem.W.findIn K (.ref C) "__str__" = some (some (.ref (He.ma K C "__str__"))) ∧ PySem.W.typeIn K (.ref (He.ma K C "__str__")) = some (.type "function")
  eq : PySem.W.findIn K (.ref C) "__eq__" = some (some (.ref (He.ma K C "__eq__"))) ∧ PySem.W.typeIn K (.ref (He.ma K C "__eq__")) = some (.type "function")
  ne : PySem.W.findIn K (.ref C) "__ne__" = some (some (.builtin "object.__ne__")) ∧ PySem.W.mroIn K C (.type "object") = some true
  ty : ∀ T ∈ tys4, PySem.W.notFirst K C (.type T) = true ∧ PySem.W.kitAny K (.type T) [.ref C] = some false
  cl : ∀ D ∈ cl10 K, PySem.W.notFirst K C (.ref D) = true ∧ PySem.W.kitAny K (.ref D) [.ref C] = some (D == C)
structure Exf (K : Fg) : Prop where
  kls : Kls K
  kst : Kst K
  own : ∀ C ∈ cl10 K, OneC K C
  nod : (cl10 K).Nodup
theorem get_exf {K : Fg} (e : ex K = true) : Exf K := by
  unfold ex at e
  obtain ⟨e1, e⟩ := b2 e
  obtain ⟨e2, e3⟩ := b2 e
  have al := List.all_eq_true.mp e2
  have one := fun C (hC : C ∈ cl10 K) => b2 (show ((clsB K C && cobB K C) && _) = true from al C hC)
  refine ⟨⟨fun H => He.tupB_ok (vs := [.str "as", .str "by", .str "to", .str "end"]) e1 H, fun C hC => kitB_ok (b2 (b2 (one C hC).2).1).1, fun C hC => kitB_ok (b2 (b2 (one C hC).2).1).2, fun C hC => isC_ok (one C hC).1⟩, ⟨fun C hC => ?_⟩, fun C hC => ?_, of_decide_eq_true e3⟩
  · exact kitB_ok (b2 (b2 (one C hC).2).2).1
  · obtain ⟨q1, q2⟩ := b2 (b2 (b2 (one C hC).2).2).2
    obtain ⟨q3, q4⟩ := b2 q1
    obtain ⟨q5, q6⟩ := b2 q2
    obtain ⟨q7, q8⟩ := b2 q6
    obtain ⟨q9, q10⟩ := b2 q8
    refine ⟨⟨of_decide_eq_true (b2 q3).1, of_decide_eq_true (b2 q3).2⟩, ⟨of_decide_eq_true (b2 q4).1, of_decide_eq_true (b2 q4).2⟩, ⟨of_decide_eq_true q5, of_decide_eq_true q7⟩, fun T hT => ?_, fun D hD => ?_⟩
    · obtain ⟨r1, r2⟩ := b2 (List.all_eq_true.mp q9 T hT)
      exact ⟨r1, kitB_ok r2⟩
    · obtain ⟨r1, r2⟩ := b2 (List.all_eq_true.mp q10 D hD)
      exact ⟨r1, kitB_ok r2⟩
theorem mem_cl10 {K : Fg} {z : Str} (h : z ∈ cNames) : He.ga K z ∈ cl10 K := List.mem_map_of_mem h
theorem inj_of_nodup {α β : Type} {f : α → β} : ∀ {l : List α}, (l.map f).Nodup → ∀ {a b : α}, a ∈ l → b ∈ l → f a = f b → a = b
  | [], _, _, _, h, _, _ => by cases h
  | x :: l, n, a, b, ha, hb, e => by
    rw [List.map_cons, List.nodup_cons] at n
    rcases List.mem_cons.mp ha with h1 | h1
    · rcases List.mem_cons.mp hb with h2 | h2
      · rw [h1, h2]
      · exact absurd (List.mem_map.mpr ⟨b, h2, by rw [← e, h1]⟩) n.1
    · rcases List.mem_cons.mp hb with h2 | h2
      · exact absurd (List.mem_map.mpr ⟨a, h1, by rw [e, h2]⟩) n.1
      · exact inj_of_nodup n.2 h1 h2 e
theorem cls_mem : ∀ s : Stp, clsN s ∈ cNames
  | .pick _ => (show ("Pick" : Str) ∈ cNames from by decide)
  | .rename _ _ => (show ("Rename" : Str) ∈ cNames from by decide)
  | .has _ => (show ("Has" : Str) ∈ cNames from by decide)
  | .is_ _ _ => (show ("Is" : Str) ∈ cNames from by decide)
  | .put _ _ => (show ("Put" : Str) ∈ cNames from by decide)
  | .alike _ _ => (show ("Alike" : Str) ∈ cNames from by decide)
  | .melt _ _ _ => (show ("Melt" : Str) ∈ cNames from by decide)
  | .pivot _ _ _ _ => (show ("Pivot" : Str) ∈ cNames from by decide)
  | .join _ _ => (show ("Join" : Str) ∈ cNames from by decide)
  | .stack _ => (show ("Stack" : Str) ∈ cNames from by decide)
theorem Exf.inj {K : Fg} (x : Exf K) {a b : Str} (ha : a ∈ cNames) (hb : b ∈ cNames) (e : He.ga K a = He.ga K b) : a = b := inj_of_nodup x.nod ha hb e
def gStrC (K : Fg) (n : Nat) (C : Addr) : FF := fun ds F _ => ∃ s, ds = [objD K s] ∧ He.ga K (clsN s) = C ∧ okS n s ∧ F (.str (textS s))
theorem words_len {ys : List Str} (h : ∀ y ∈ ys, y.length ≤ 6) : (Txt.join " " ys).length ≤ ys.length * 7 := by
  have h1 := jn_len " " ys
  have h2 := sum_le h
  rw [tj]
  have : (" " : Str).length = 1 := by decide
  rw [this] at h1
  omega
theorem words_ok {ys : List Str} (h : ∀ y ∈ ys, y.length ≤ 6) (hl : ys.length ≤ 30) : (ys.map (·.length)).sum + ys.length * (" " : Str).length ≤ 16777216 := by
  have h2 := sum_le h
  have : (" " : Str).length = 1 := by decide
  rw [this]
  omega
theorem nm6 {m : Nat} {cs : List Str} (h : Nms m cs) : ∀ y ∈ cs, y.length ≤ 6 := fun y hy => Nat.le_trans (h.2.2.2 y hy).2.1 (by decide)
theorem join_len {cs : List Str} (h : Nms 0 cs) : (Txt.join " " (("join" : Str) :: cs)).length ≤ 70 := by
  refine Nat.le_trans (words_len fun y hy => ?_) ?_
  · rcases List.mem_cons.mp hy with rfl | hy
    · decide
    · exact nm6 h y hy
  · have := h.2.1
    simp only [List.length_cons]
    omega
theorem sum_map_le {α : Type} {f : α → Nat} {m : Nat} : ∀ {l : List α}, (∀ a ∈ l, f a ≤ m) → (l.map f).sum ≤ l.length * m
  | [], _ => Nat.zero_le _
  | a :: l, h => by
    have h1 := h a (by simp)
    have h2 := sum_map_le fun b hb => h b (List.mem_cons_of_mem a hb)
    rw [List.map_cons, List.sum_cons, List.length_cons, Nat.add_mul]
    omega
theorem recs_le {first : Str} {ss : List Stp} {n : Nat} (ls : ss.length ≤ 6) (hT : ∀ s ∈ ss, (textS s).length ≤ Bd n) (h1 : first.length ≤ 70) : ((first :: (ss.map textS ++ [("end" : Str)])).map (·.length)).sum + (first :: (ss.map textS ++ [("end" : Str)])).length * ("\n" : Str).length ≤ 100 + 6 * (Bd n + 1) := by
  have h2 := sum_map_le (f := fun s => (textS s).length) hT
  have e1 : ("\n" : Str).length = 1 := by decide
  have e2 : ("end" : Str).length = 3 := by decide
  have h3 : ss.length * Bd n ≤ 6 * Bd n := Nat.mul_le_mul_right _ ls
  have e3 : ((·.length) ∘ textS : Stp → Nat) = fun s => (textS s).length := rfl
  rw [e1]
  simp only [List.map_cons, List.map_append, List.map_map, List.sum_cons, List.sum_append, List.map_nil, List.sum_nil, List.length_cons, List.length_append, List.length_map, List.length_nil, e2, e3]
  omega
theorem recs_ok {first : Str} {ss : List Stp} {n : Nat} (hB : Bd n ≤ 100000) (ls : ss.length ≤ 6) (hT : ∀ s ∈ ss, (textS s).length ≤ Bd n) (h1 : first.length ≤ 70) : ((first :: (ss.map textS ++ [("end" : Str)])).map (·.length)).sum + (first :: (ss.map textS ++ [("end" : Str)])).length * ("\n" : Str).length ≤ 16777216 := by
  have := recs_le ls hT h1
  omega
theorem text1 {s : Stp} {z : Str} (h : linesS s = [z]) : textS s = z := by
  unfold textS
  rw [h, tj]
  rfl
theorem Bd_300 : ∀ n, 300 ≤ Bd n
  | 0 => Nat.le_refl _
  | n + 1 => by
    have := Bd_300 n
    show 300 ≤ 100 + 6 * (Bd n + 1)
    omega
theorem text_w {n : Nat} {s : Stp} {ys : List Str} (e : linesS s = [Txt.join " " ys]) (h : ∀ y ∈ ys, y.length ≤ 6) (hl : ys.length ≤ 30) : (textS s).length ≤ Bd n := by
  rw [text1 e]
  have h1 := words_len h
  have h2 := Bd_300 n
  omega
theorem three {a b c : Str} (ha : a.length ≤ 6) (hb : b.length ≤ 6) (hc : c.length ≤ 6) : ∀ y ∈ [a, b, c], y.length ≤ 6 := fun y hy => by
  simp only [List.mem_cons, List.not_mem_nil, or_false] at hy
  rcases hy with rfl | rfl | rfl <;> assumption
theorem nm_6 {a : Str} (h : Nm a) : a.length ≤ 6 := Nat.le_trans h.2.1 (by decide)
theorem text_len : ∀ {n : Nat} {s : Stp}, okS n s → (textS s).length ≤ Bd n
  | n, .pick cs, h => by
    replace h : Nms 1 cs := by cases n <;> exact h
    refine text_w (ys := ("pick" : Str) :: cs) (by unfold linesS; rfl) (fun y hy => ?_) (by have := h.2.1; simp only [List.length_cons]; omega)
    rcases List.mem_cons.mp hy with rfl | hy
    · decide
    · exact nm6 h y hy
  | n, .rename o n2, h => by
    replace h : Nm o ∧ Nm n2 := by cases n <;> exact h
    exact text_w (by unfold linesS; rfl) (three (by decide) (nm_6 h.1) (nm_6 h.2)) (by simp)
  | n, .has a, h => by
    replace h : Nm a := by cases n <;> exact h
    refine text_w (ys := [("has" : Str), a]) (by unfold linesS; rfl) (fun y hy => ?_) (by simp)
    simp only [List.mem_cons, List.not_mem_nil, or_false] at hy
    rcases hy with rfl | rfl
    · decide
    · exact nm_6 h
  | n, .is_ a t, h => by
    replace h : Nm a ∧ Tx t := by cases n <;> exact h
    exact text_w (by unfold linesS; rfl) (three (by decide) (nm_6 h.1) h.2.2.1) (by simp)
  | n, .put a t, h => by
    replace h : Nm a ∧ Tx t := by cases n <;> exact h
    exact text_w (by unfold linesS; rfl) (three (by decide) (nm_6 h.1) h.2.2.1) (by simp)
  | n, .alike a b, h => by
    replace h : Nm a ∧ Nm b := by cases n <;> exact h
    exact text_w (by unfold linesS; rfl) (three (by decide) (nm_6 h.1) (nm_6 h.2)) (by simp)
  | n, .melt cs n2 v, h => by
    replace h : Nms 1 cs ∧ Nm n2 ∧ Nm v := by cases n <;> exact h
    refine text_w (ys := ("melt" : Str) :: (cs ++ [("as" : Str), n2, v])) (by unfold linesS; rfl) (fun y hy => ?_) (by have := h.1.2.1; simp only [List.length_cons, List.length_append, List.length_nil]; omega)
    rcases List.mem_cons.mp hy with rfl | hy
    · decide
    rcases List.mem_append.mp hy with hy | hy
    · exact nm6 h.1 y hy
    · exact three (by decide) (nm_6 h.2.1) (nm_6 h.2.2) y hy
  | n, .pivot bs n2 v hs, h => by
    replace h : Nms 0 bs ∧ Nm n2 ∧ Nm v ∧ Nms 1 hs := by cases n <;> exact h
    refine text_w (ys := ("pivot" : Str) :: (bs ++ (("by" : Str) :: n2 :: v :: ("to" : Str) :: hs))) (by unfold linesS; rfl) (fun y hy => ?_) (by have := h.1.2.1; have := h.2.2.2.2.1; simp only [List.length_cons, List.length_append]; omega)
    rcases List.mem_cons.mp hy with rfl | hy
    · decide
    rcases List.mem_append.mp hy with hy | hy
    · exact nm6 h.1 y hy
    simp only [List.mem_cons] at hy
    rcases hy with rfl | rfl | rfl | rfl | hy
    · decide
    · exact nm_6 h.2.1
    · exact nm_6 h.2.2.1
    · decide
    · exact nm6 h.2.2.2 y hy
  | n + 1, .join cs ss, h => by
    replace h : Nms 0 cs ∧ ss.length ≤ 6 ∧ ∀ s ∈ ss, okS n s := h
    have e : textS (.join cs ss) = Txt.join "\n" (Txt.join " " (("join" : Str) :: cs) :: (linesSs ss ++ [("end" : Str)])) := by unfold textS linesS; rfl
    rw [e, ← text_flat, tj]
    exact Nat.le_trans (jn_len _ _) (recs_le h.2.1 (fun s hs => text_len (h.2.2 s hs)) (join_len h.1))
  | n + 1, .stack ss, h => by
    replace h : ss.length ≤ 6 ∧ ∀ s ∈ ss, okS n s := h
    have e : textS (.stack ss) = Txt.join "\n" (("stack" : Str) :: (linesSs ss ++ [("end" : Str)])) := by unfold textS linesS; rfl
    rw [e, ← text_flat, tj]
    exact Nat.le_trans (jn_len _ _) (recs_le h.1 (fun s hs => text_len (h.2 s hs)) (by decide))
  | 0, .join _ _, h => h.elim
  | 0, .stack _, h => h.elim
theorem obj_of (K : Fg) : ∀ s : Stp, ∃ fs, objD K s = .obj (He.ga K (clsN s)) fs
  | .pick _ => ⟨_, by unfold objD; rfl⟩
  | .rename _ _ => ⟨_, by unfold objD; rfl⟩
  | .has _ => ⟨_, by unfold objD; rfl⟩
  | .is_ _ _ => ⟨_, by unfold objD; rfl⟩
  | .put _ _ => ⟨_, by unfold objD; rfl⟩
  | .alike _ _ => ⟨_, by unfold objD; rfl⟩
  | .melt _ _ _ => ⟨_, by unfold objD; rfl⟩
  | .pivot _ _ _ _ => ⟨_, by unfold objD; rfl⟩
  | .join _ _ => ⟨_, by unfold objD; rfl⟩
  | .stack _ => ⟨_, by unfold objD; rfl⟩
theorem str_goal {K : Fg} (x : Exf K) {n : Nat} {s : Stp} {F : D → Prop} (h : okS n s) (f : F (.str (textS s))) : gStrO (fun C => C ∈ cl10 K) (gStrC K n) [objD K s] F := by
  obtain ⟨fs, e⟩ := obj_of K s
  rw [e]
  refine ⟨mem_cl10 (cls_mem s), s, by rw [e], rfl, h, ⟨_, rfl⟩, f⟩
section
variable {P : Program} {w : World} {K : Fg} {mg : Str → Option Value} {base : Heap}
theorem sc_Pick_str : FnScope ["self"] ["self"] (defScope s_Pick_str) := ⟨rfl, rfl, rfl, by decide +kernel, rfl, by decide +kernel, by decide +kernel⟩
theorem ok_Pick_str (G : Glo K mg) (c : He.SaysD fa fn K) (x : Exf K) {n : Nat} (hn3 : n ≤ 3) : Own1 P w K mg base (He.ga K "Pick") "__str__" (3 * n + 1) 1 (gStrC K n (He.ga K "Pick")) := by
  obtain ⟨fd, F⟩ := c.defs (d := dfn ("Pick", some "__str__") "__str__" "Pick.__str__" s_Pick_str) (by unfold fn; simp)
  replace F : FunD K "__str__" "Pick.__str__" (defArgs s_Pick_str) (defBody s_Pick_str) (defScope s_Pick_str) [] [] (He.ma K (He.ga K "Pick") "__str__") fd := F
  have mPick : He.ga K "Pick" ∈ cl10 K := mem_cl10 (by decide)
  have kC := He.cls_ok (c.facts (f := .cls "Pick") (List.mem_append_right _ (List.mem_append_right _ (by simp))))
  have n_columns := He.noat_ok (c.facts (f := .noat "Pick" "columns") (List.mem_append_right _ (List.mem_append_right _ (by simp))))
  refine ⟨_, fd, ["self"], (x.own _ mPick).str.1, (x.own _ mPick).str.2, F.bindsN fun _ _ _ _ _ _ us hl => match us, hl with | [_], _ => rfl, ?_⟩
  have nd : (["self"] : List Str).Nodup := sc_Pick_str.nd
  apply fn_okE (k := 3 * n) (N := ["self"]) F sc_Pick_str rfl (by decide)
  intro c cdv A outer s H E hr
  have hu := hr.units
  have tk := takes_of (X := cxOf (L2.CX P w) P w K mg base ["self"] "Pick.__str__" (defScope s_Pick_str) (He.ma K (He.ga K "Pick") "__str__") cdv A outer s H E) rfl rfl rfl rfl
  apply Exists.intro
  apply Exists.intro
  apply And.intro
  · exact (dss_one (ds_ret (de_ms PySem.F.slot_str_join PySem.F.type_str_join mt_join md_join de_str (da_cons (de_lst (da_cons de_str (da_star (de_fld (de_var 0)) da_nil))) da_nil))))
  · intro ds F1 X1 hn h
    obtain ⟨s, rfl, hc, hok, f⟩ := h
    have hN : clsN s = "Pick" := x.inj (cls_mem s) (by decide) hc
    cases s with
    | pick cs =>
      replace hok : Nms 1 cs := by cases n <;> exact hok
      refine ms_at (e := [.dat (objD K (.pick cs))]) rfl ?_
      unfold objD
      dsimp only [msRet, msRetN, msSeq, msIf, msNext, msExpr, msSet, mtAnd, mtOr, mtNot, mTru, mB, mCB, mCall, maCons, maNil, mVar, mC, mOp, mChain, mIf, mAndV, mOrV, mNotV, mLst, mTup, mMS, gI0, gLen, gEq, gNe, gEqS, gNeS, gIn, gAll, gStrip, truD, start0, dn, mLc, miS, mgName, wipeD, mYes, lcD, List.map_cons, List.map_nil, List.replicate, List.cons_append, List.nil_append, List.getElem?_cons_zero, List.getElem?_cons_succ, List.getElem?_nil, List.append_nil, gLe, gLt, Bool.not_true, Bool.not_false, Bool.false_eq_true, reduceIte, mJoined, mJs, mFmt, maStar, gJoin, mFld, moSome, mSl, gStrO, gIx, z5]
      have hy6 : ∀ y ∈ ("pick" : Str) :: cs, y.length ≤ 6 := fun y hy => by
        obtain ⟨_, h9, _, hn⟩ := hok
        rcases List.mem_cons.mp hy with rfl | hy
        · decide
        · exact Nat.le_trans (hn y hy).2.1 (by decide)
      have hl : (("pick" : Str) :: cs).length ≤ 30 := by
        have := hok.2.1
        simp only [List.length_cons]
        omega
      refine ⟨kC, n_columns, _, rfl, _, rfl, ?_, _, ("pick" : Str) :: cs, rfl, ?_, words_ok hy6 hl, ?_⟩
      · refine Nat.le_trans ?_ (show 30 ≤ sizeLine from by decide)
        refine Nat.le_trans (Nat.le_of_eq ?_) hl
        simp only [List.length_cons, List.length_append, List.length_nil, List.length_map]
      · have e := strsD_map (("pick" : Str) :: cs)
        simp only [List.map_cons, List.map_append, List.map_nil] at e
        try simp only [List.append_nil]
        exact e
      · have e : textS (.pick cs) = Txt.join " " (("pick" : Str) :: cs) := by
          unfold textS linesS
          rw [tj]
          rfl
        rw [e] at f
        exact f
    | _ =>
      simp only [clsN] at hN
      exact absurd hN (by decide)
theorem sc_Rename_str : FnScope ["self"] ["self"] (defScope s_Rename_str) := ⟨rfl, rfl, rfl, by decide +kernel, rfl, by decide +kernel, by decide +kernel⟩
theorem ok_Rename_str (G : Glo K mg) (c : He.SaysD fa fn K) (x : Exf K) {n : Nat} (hn3 : n ≤ 3) : Own1 P w K mg base (He.ga K "Rename") "__str__" (3 * n + 1) 1 (gStrC K n (He.ga K "Rename")) := by
  obtain ⟨fd, F⟩ := c.defs (d := dfn ("Rename", some "__str__") "__str__" "Rename.__str__" s_Rename_str) (by unfold fn; simp)
  replace F : FunD K "__str__" "Rename.__str__" (defArgs s_Rename_str) (defBody s_Rename_str) (defScope s_Rename_str) [] [] (He.ma K (He.ga K "Rename") "__str__") fd := F
  have mRename : He.ga K "Rename" ∈ cl10 K := mem_cl10 (by decide)
  have kC := He.cls_ok (c.facts (f := .cls "Rename") (List.mem_append_right _ (List.mem_append_right _ (by simp))))
  have n_old := He.noat_ok (c.facts (f := .noat "Rename" "old") (List.mem_append_right _ (List.mem_append_right _ (by simp))))
  have n_new := He.noat_ok (c.facts (f := .noat "Rename" "new") (List.mem_append_right _ (List.mem_append_right _ (by simp))))
  refine ⟨_, fd, ["self"], (x.own _ mRename).str.1, (x.own _ mRename).str.2, F.bindsN fun _ _ _ _ _ _ us hl => match us, hl with | [_], _ => rfl, ?_⟩
  have nd : (["self"] : List Str).Nodup := sc_Rename_str.nd
  apply fn_okE (k := 3 * n) (N := ["self"]) F sc_Rename_str rfl (by decide)
  intro c cdv A outer s H E hr
  have hu := hr.units
  have tk := takes_of (X := cxOf (L2.CX P w) P w K mg base ["self"] "Rename.__str__" (defScope s_Rename_str) (He.ma K (He.ga K "Rename") "__str__") cdv A outer s H E) rfl rfl rfl rfl
  apply Exists.intro
  apply Exists.intro
  apply And.intro
  · exact (dss_one (ds_ret (de_joined (DJ.cons de_str (DJ.cons (de_fmt (de_fld (de_var 0))) (DJ.cons de_str (DJ.cons (de_fmt (de_fld (de_var 0))) DJ.nil)))))))
  · intro ds F1 X1 hn h
    obtain ⟨s, rfl, hc, hok, f⟩ := h
    have hN : clsN s = "Rename" := x.inj (cls_mem s) (by decide) hc
    cases s with
    | rename o n2 =>
      replace hok : Nm o ∧ Nm n2 := by cases n <;> exact hok
      refine ms_at (e := [.dat (objD K (.rename o n2))]) rfl ?_
      unfold objD
      dsimp only [msRet, msRetN, msSeq, msIf, msNext, msExpr, msSet, mtAnd, mtOr, mtNot, mTru, mB, mCB, mCall, maCons, maNil, mVar, mC, mOp, mChain, mIf, mAndV, mOrV, mNotV, mLst, mTup, mMS, gI0, gLen, gEq, gNe, gEqS, gNeS, gIn, gAll, gStrip, truD, start0, dn, mLc, miS, mgName, wipeD, mYes, lcD, List.map_cons, List.map_nil, List.replicate, List.cons_append, List.nil_append, List.getElem?_cons_zero, List.getElem?_cons_succ, List.getElem?_nil, List.append_nil, gLe, gLt, Bool.not_true, Bool.not_false, Bool.false_eq_true, reduceIte, mJoined, mJs, mFmt, maStar, gJoin, mFld, moSome, mSl, gStrO, gIx, z5]
      have l0 := hok.1.2.1
      have l1 := hok.2.2.1
      have w0 : ("rename " : Str).length ≤ 10 := by decide
      have w1 : (" " : Str).length = 1 := by decide
      have w2 : (Str.empty : Str).length = 0 := by decide
      have big : ∀ z : Str, z.length ≤ 60 → z.length ≤ sizeLine := fun z hz => Nat.le_trans hz (by decide)
      refine ⟨by
        apply big
        try simp only [Str.length_append]
        omega, kC, n_old, _, rfl, by
        apply big
        try simp only [Str.length_append]
        omega, by
        apply big
        try simp only [Str.length_append]
        omega, ?_⟩
      refine ⟨by
        apply big
        try simp only [Str.length_append]
        omega, kC, n_new, _, rfl, by
        apply big
        try simp only [Str.length_append]
        omega, by
        apply big
        try simp only [Str.length_append]
        omega, ?_⟩
      have e : textS (.rename o n2) = Str.empty ++ ("rename " : Str) ++ o ++ (" " : Str) ++ n2 := by
        unfold textS linesS
        rw [tj, sp2, Str.empty_append, show ("rename " : Str) = ("rename" : Str) ++ (" " : Str) from by decide]
        rfl
      rw [e] at f
      exact f
    | _ =>
      simp only [clsN] at hN
      exact absurd hN (by decide)
theorem sc_Has_str : FnScope ["self"] ["self"] (defScope s_Has_str) := ⟨rfl, rfl, rfl, by decide +kernel, rfl, by decide +kernel, by decide +kernel⟩
theorem ok_Has_str (G : Glo K mg) (c : He.SaysD fa fn K) (x : Exf K) {n : Nat} (hn3 : n ≤ 3) : Own1 P w K mg base (He.ga K "Has") "__str__" (3 * n + 1) 1 (gStrC K n (He.ga K "Has")) := by
  obtain ⟨fd, F⟩ := c.defs (d := dfn ("Has", some "__str__") "__str__" "Has.__str__" s_Has_str) (by unfold fn; simp)
  replace F : FunD K "__str__" "Has.__str__" (defArgs s_Has_str) (defBody s_Has_str) (defScope s_Has_str) [] [] (He.ma K (He.ga K "Has") "__str__") fd := F
  have mHas : He.ga K "Has" ∈ cl10 K := mem_cl10 (by decide)
  have kC := He.cls_ok (c.facts (f := .cls "Has") (List.mem_append_right _ (List.mem_append_right _ (by simp))))
  have n_column := He.noat_ok (c.facts (f := .noat "Has" "column") (List.mem_append_right _ (List.mem_append_right _ (by simp))))
  refine ⟨_, fd, ["self"], (x.own _ mHas).str.1, (x.own _ mHas).str.2, F.bindsN fun _ _ _ _ _ _ us hl => match us, hl with | [_], _ => rfl, ?_⟩
  have nd : (["self"] : List Str).Nodup := sc_Has_str.nd
  apply fn_okE (k := 3 * n) (N := ["self"]) F sc_Has_str rfl (by decide)
  intro c cdv A outer s H E hr
  have hu := hr.units
  have tk := takes_of (X := cxOf (L2.CX P w) P w K mg base ["self"] "Has.__str__" (defScope s_Has_str) (He.ma K (He.ga K "Has") "__str__") cdv A outer s H E) rfl rfl rfl rfl
  apply Exists.intro
  apply Exists.intro
  apply And.intro
  · exact (dss_one (ds_ret (de_joined (DJ.cons de_str (DJ.cons (de_fmt (de_fld (de_var 0))) DJ.nil)))))
  · intro ds F1 X1 hn h
    obtain ⟨s, rfl, hc, hok, f⟩ := h
    have hN : clsN s = "Has" := x.inj (cls_mem s) (by decide) hc
    cases s with
    | has a =>
      replace hok : Nm a := by cases n <;> exact hok
      refine ms_at (e := [.dat (objD K (.has a))]) rfl ?_
      unfold objD
      dsimp only [msRet, msRetN, msSeq, msIf, msNext, msExpr, msSet, mtAnd, mtOr, mtNot, mTru, mB, mCB, mCall, maCons, maNil, mVar, mC, mOp, mChain, mIf, mAndV, mOrV, mNotV, mLst, mTup, mMS, gI0, gLen, gEq, gNe, gEqS, gNeS, gIn, gAll, gStrip, truD, start0, dn, mLc, miS, mgName, wipeD, mYes, lcD, List.map_cons, List.map_nil, List.replicate, List.cons_append, List.nil_append, List.getElem?_cons_zero, List.getElem?_cons_succ, List.getElem?_nil, List.append_nil, gLe, gLt, Bool.not_true, Bool.not_false, Bool.false_eq_true, reduceIte, mJoined, mJs, mFmt, maStar, gJoin, mFld, moSome, mSl, gStrO, gIx, z5]
      have l0 := hok.2.1
      have w0 : ("has " : Str).length ≤ 10 := by decide
      have w1 : (" " : Str).length = 1 := by decide
      have w2 : (Str.empty : Str).length = 0 := by decide
      have big : ∀ z : Str, z.length ≤ 60 → z.length ≤ sizeLine := fun z hz => Nat.le_trans hz (by decide)
      refine ⟨by
        apply big
        try simp only [Str.length_append]
        omega, kC, n_column, _, rfl, by
        apply big
        try simp only [Str.length_append]
        omega, by
        apply big
        try simp only [Str.length_append]
        omega, ?_⟩
      have e : textS (.has a) = Str.empty ++ ("has " : Str) ++ a := by
        unfold textS linesS
        rw [tj, sp1, Str.empty_append, show ("has " : Str) = ("has" : Str) ++ (" " : Str) from by decide]
        rfl
      rw [e] at f
      exact f
    | _ =>
      simp only [clsN] at hN
      exact absurd hN (by decide)
theorem sc_Is_str : FnScope ["self"] ["self"] (defScope s_Is_str) := ⟨rfl, rfl, rfl, by decide +kernel, rfl, by decide +kernel, by decide +kernel⟩
theorem ok_Is_str (G : Glo K mg) (c : He.SaysD fa fn K) (x : Exf K) {n : Nat} (hn3 : n ≤ 3) : Own1 P w K mg base (He.ga K "Is") "__str__" (3 * n + 1) 1 (gStrC K n (He.ga K "Is")) := by
  obtain ⟨fd, F⟩ := c.defs (d := dfn ("Is", some "__str__") "__str__" "Is.__str__" s_Is_str) (by unfold fn; simp)
  replace F : FunD K "__str__" "Is.__str__" (defArgs s_Is_str) (defBody s_Is_str) (defScope s_Is_str) [] [] (He.ma K (He.ga K "Is") "__str__") fd := F
  have mIs : He.ga K "Is" ∈ cl10 K := mem_cl10 (by decide)
  have kC := He.cls_ok (c.facts (f := .cls "Is") (List.mem_append_right _ (List.mem_append_right _ (by simp))))
  have n_column := He.noat_ok (c.facts (f := .noat "Is" "column") (List.mem_append_right _ (List.mem_append_right _ (by simp))))
  have n_text := He.noat_ok (c.facts (f := .noat "Is" "text") (List.mem_append_right _ (List.mem_append_right _ (by simp))))
  refine ⟨_, fd, ["self"], (x.own _ mIs).str.1, (x.own _ mIs).str.2, F.bindsN fun _ _ _ _ _ _ us hl => match us, hl with | [_], _ => rfl, ?_⟩
  have nd : (["self"] : List Str).Nodup := sc_Is_str.nd
  apply fn_okE (k := 3 * n) (N := ["self"]) F sc_Is_str rfl (by decide)
  intro c cdv A outer s H E hr
  have hu := hr.units
  have tk := takes_of (X := cxOf (L2.CX P w) P w K mg base ["self"] "Is.__str__" (defScope s_Is_str) (He.ma K (He.ga K "Is") "__str__") cdv A outer s H E) rfl rfl rfl rfl
  apply Exists.intro
  apply Exists.intro
  apply And.intro
  · exact (dss_one (ds_ret (de_joined (DJ.cons de_str (DJ.cons (de_fmt (de_fld (de_var 0))) (DJ.cons de_str (DJ.cons (de_fmt (de_fld (de_var 0))) DJ.nil)))))))
  · intro ds F1 X1 hn h
    obtain ⟨s, rfl, hc, hok, f⟩ := h
    have hN : clsN s = "Is" := x.inj (cls_mem s) (by decide) hc
    cases s with
    | is_ a t =>
      replace hok : Nm a ∧ Tx t := by cases n <;> exact hok
      refine ms_at (e := [.dat (objD K (.is_ a t))]) rfl ?_
      unfold objD
      dsimp only [msRet, msRetN, msSeq, msIf, msNext, msExpr, msSet, mtAnd, mtOr, mtNot, mTru, mB, mCB, mCall, maCons, maNil, mVar, mC, mOp, mChain, mIf, mAndV, mOrV, mNotV, mLst, mTup, mMS, gI0, gLen, gEq, gNe, gEqS, gNeS, gIn, gAll, gStrip, truD, start0, dn, mLc, miS, mgName, wipeD, mYes, lcD, List.map_cons, List.map_nil, List.replicate, List.cons_append, List.nil_append, List.getElem?_cons_zero, List.getElem?_cons_succ, List.getElem?_nil, List.append_nil, gLe, gLt, Bool.not_true, Bool.not_false, Bool.false_eq_true, reduceIte, mJoined, mJs, mFmt, maStar, gJoin, mFld, moSome, mSl, gStrO, gIx, z5]
      have l0 := hok.1.2.1
      have l1 := hok.2.2.1
      have w0 : ("is " : Str).length ≤ 10 := by decide
      have w1 : (" " : Str).length = 1 := by decide
      have w2 : (Str.empty : Str).length = 0 := by decide
      have big : ∀ z : Str, z.length ≤ 60 → z.length ≤ sizeLine := fun z hz => Nat.le_trans hz (by decide)
      refine ⟨by
        apply big
        try simp only [Str.length_append]
        omega, kC, n_column, _, rfl, by
        apply big
        try simp only [Str.length_append]
        omega, by
        apply big
        try simp only [Str.length_append]
        omega, ?_⟩
      refine ⟨by
        apply big
        try simp only [Str.length_append]
        omega, kC, n_text, _, rfl, by
        apply big
        try simp only [Str.length_append]
        omega, by
        apply big
        try simp only [Str.length_append]
        omega, ?_⟩
      have e : textS (.is_ a t) = Str.empty ++ ("is " : Str) ++ a ++ (" " : Str) ++ t := by
        unfold textS linesS
        rw [tj, sp2, Str.empty_append, show ("is " : Str) = ("is" : Str) ++ (" " : Str) from by decide]
        rfl
      rw [e] at f
      exact f
    | _ =>
      simp only [clsN] at hN
      exact absurd hN (by decide)
theorem sc_Put_str : FnScope ["self"] ["self"] (defScope s_Put_str) := ⟨rfl, rfl, rfl, by decide +kernel, rfl, by decide +kernel, by decide +kernel⟩
theorem ok_Put_str (G : Glo K mg) (c : He.SaysD fa fn K) (x : Exf K) {n : Nat} (hn3 : n ≤ 3) : Own1 P w K mg base (He.ga K "Put") "__str__" (3 * n + 1) 1 (gStrC K n (He.ga K "Put")) := by
  obtain ⟨fd, F⟩ := c.defs (d := dfn ("Put", some "__str__") "__str__" "Put.__str__" s_Put_str) (by unfold fn; simp)
  replace F : FunD K "__str__" "Put.__str__" (defArgs s_Put_str) (defBody s_Put_str) (defScope s_Put_str) [] [] (He.ma K (He.ga K "Put") "__str__") fd := F
  have mPut : He.ga K "Put" ∈ cl10 K := mem_cl10 (by decide)
  have kC := He.cls_ok (c.facts (f := .cls "Put") (List.mem_append_right _ (List.mem_append_right _ (by simp))))
  have n_column := He.noat_ok (c.facts (f := .noat "Put" "column") (List.mem_append_right _ (List.mem_append_right _ (by simp))))
  have n_text := He.noat_ok (c.facts (f := .noat "Put" "text") (List.mem_append_right _ (List.mem_append_right _ (by simp))))
  refine ⟨_, fd, ["self"], (x.own _ mPut).str.1, (x.own _ mPut).str.2, F.bindsN fun _ _ _ _ _ _ us hl => match us, hl with | [_], _ => rfl, ?_⟩
  have nd : (["self"] : List Str).Nodup := sc_Put_str.nd
  apply fn_okE (k := 3 * n) (N := ["self"]) F sc_Put_str rfl (by decide)
  intro c cdv A outer s H E hr
  have hu := hr.units
  have tk := takes_of (X := cxOf (L2.CX P w) P w K mg base ["self"] "Put.__str__" (defScope s_Put_str) (He.ma K (He.ga K "Put") "__str__") cdv A outer s H E) rfl rfl rfl rfl
  apply Exists.intro
  apply Exists.intro
  apply And.intro
  · exact (dss_one (ds_ret (de_joined (DJ.cons de_str (DJ.cons (de_fmt (de_fld (de_var 0))) (DJ.cons de_str (DJ.cons (de_fmt (de_fld (de_var 0))) DJ.nil)))))))
  · intro ds F1 X1 hn h
    obtain ⟨s, rfl, hc, hok, f⟩ := h
    have hN : clsN s = "Put" := x.inj (cls_mem s) (by decide) hc
    cases s with
    | put a t =>
      replace hok : Nm a ∧ Tx t := by cases n <;> exact hok
      refine ms_at (e := [.dat (objD K (.put a t))]) rfl ?_
      unfold objD
      dsimp only [msRet, msRetN, msSeq, msIf, msNext, msExpr, msSet, mtAnd, mtOr, mtNot, mTru, mB, mCB, mCall, maCons, maNil, mVar, mC, mOp, mChain, mIf, mAndV, mOrV, mNotV, mLst, mTup, mMS, gI0, gLen, gEq, gNe, gEqS, gNeS, gIn, gAll, gStrip, truD, start0, dn, mLc, miS, mgName, wipeD, mYes, lcD, List.map_cons, List.map_nil, List.replicate, List.cons_append, List.nil_append, List.getElem?_cons_zero, List.getElem?_cons_succ, List.getElem?_nil, List.append_nil, gLe, gLt, Bool.not_true, Bool.not_false, Bool.false_eq_true, reduceIte, mJoined, mJs, mFmt, maStar, gJoin, mFld, moSome, mSl, gStrO, gIx, z5]
      have l0 := hok.1.2.1
      have l1 := hok.2.2.1
      have w0 : ("put " : Str).length ≤ 10 := by decide
      have w1 : (" " : Str).length = 1 := by decide
      have w2 : (Str.empty : Str).length = 0 := by decide
      have big : ∀ z : Str, z.length ≤ 60 → z.length ≤ sizeLine := fun z hz => Nat.le_trans hz (by decide)
      refine ⟨by
        apply big
        try simp only [Str.length_append]
        omega, kC, n_column, _, rfl, by
        apply big
        try simp only [Str.length_append]
        omega, by
        apply big
        try simp only [Str.length_append]
        omega, ?_⟩
      refine ⟨by
        apply big
        try simp only [Str.length_append]
        omega, kC, n_text, _, rfl, by
        apply big
        try simp only [Str.length_append]
        omega, by
        apply big
        try simp only [Str.length_append]
        omega, ?_⟩
      have e : textS (.put a t) = Str.empty ++ ("put " : Str) ++ a ++ (" " : Str) ++ t := by
        unfold textS linesS
        rw [tj, sp2, Str.empty_append, show ("put " : Str) = ("put" : Str) ++ (" " : Str) from by decide]
        rfl
      rw [e] at f
      exact f
    | _ =>
      simp only [clsN] at hN
      exact absurd hN (by decide)
theorem sc_Alike_str : FnScope ["self"] ["self"] (defScope s_Alike_str) := ⟨rfl, rfl, rfl, by decide +kernel, rfl, by decide +kernel, by decide +kernel⟩
theorem ok_Alike_str (G : Glo K mg) (c : He.SaysD fa fn K) (x : Exf K) {n : Nat} (hn3 : n ≤ 3) : Own1 P w K mg base (He.ga K "Alike") "__str__" (3 * n + 1) 1 (gStrC K n (He.ga K "Alike")) := by
  obtain ⟨fd, F⟩ := c.defs (d := dfn ("Alike", some "__str__") "__str__" "Alike.__str__" s_Alike_str) (by unfold fn; simp)
  replace F : FunD K "__str__" "Alike.__str__" (defArgs s_Alike_str) (defBody s_Alike_str) (defScope s_Alike_str) [] [] (He.ma K (He.ga K "Alike") "__str__") fd := F
  have mAlike : He.ga K "Alike" ∈ cl10 K := mem_cl10 (by decide)
  have kC := He.cls_ok (c.facts (f := .cls "Alike") (List.mem_append_right _ (List.mem_append_right _ (by simp))))
  have n_column := He.noat_ok (c.facts (f := .noat "Alike" "column") (List.mem_append_right _ (List.mem_append_right _ (by simp))))
  have n_other := He.noat_ok (c.facts (f := .noat "Alike" "other") (List.mem_append_right _ (List.mem_append_right _ (by simp))))
  refine ⟨_, fd, ["self"], (x.own _ mAlike).str.1, (x.own _ mAlike).str.2, F.bindsN fun _ _ _ _ _ _ us hl => match us, hl with | [_], _ => rfl, ?_⟩
  have nd : (["self"] : List Str).Nodup := sc_Alike_str.nd
  apply fn_okE (k := 3 * n) (N := ["self"]) F sc_Alike_str rfl (by decide)
  intro c cdv A outer s H E hr
  have hu := hr.units
  have tk := takes_of (X := cxOf (L2.CX P w) P w K mg base ["self"] "Alike.__str__" (defScope s_Alike_str) (He.ma K (He.ga K "Alike") "__str__") cdv A outer s H E) rfl rfl rfl rfl
  apply Exists.intro
  apply Exists.intro
  apply And.intro
  · exact (dss_one (ds_ret (de_joined (DJ.cons de_str (DJ.cons (de_fmt (de_fld (de_var 0))) (DJ.cons de_str (DJ.cons (de_fmt (de_fld (de_var 0))) DJ.nil)))))))
  · intro ds F1 X1 hn h
    obtain ⟨s, rfl, hc, hok, f⟩ := h
    have hN : clsN s = "Alike" := x.inj (cls_mem s) (by decide) hc
    cases s with
    | alike a b =>
      replace hok : Nm a ∧ Nm b := by cases n <;> exact hok
      refine ms_at (e := [.dat (objD K (.alike a b))]) rfl ?_
      unfold objD
      dsimp only [msRet, msRetN, msSeq, msIf, msNext, msExpr, msSet, mtAnd, mtOr, mtNot, mTru, mB, mCB, mCall, maCons, maNil, mVar, mC, mOp, mChain, mIf, mAndV, mOrV, mNotV, mLst, mTup, mMS, gI0, gLen, gEq, gNe, gEqS, gNeS, gIn, gAll, gStrip, truD, start0, dn, mLc, miS, mgName, wipeD, mYes, lcD, List.map_cons, List.map_nil, List.replicate, List.cons_append, List.nil_append, List.getElem?_cons_zero, List.getElem?_cons_succ, List.getElem?_nil, List.append_nil, gLe, gLt, Bool.not_true, Bool.not_false, Bool.false_eq_true, reduceIte, mJoined, mJs, mFmt, maStar, gJoin, mFld, moSome, mSl, gStrO, gIx, z5]
      have l0 := hok.1.2.1
      have l1 := hok.2.2.1
      have w0 : ("alike " : Str).length ≤ 10 := by decide
      have w1 : (" " : Str).length = 1 := by decide
      have w2 : (Str.empty : Str).length = 0 := by decide
      have big : ∀ z : Str, z.length ≤ 60 → z.length ≤ sizeLine := fun z hz => Nat.le_trans hz (by decide)
      refine ⟨by
        apply big
        try simp only [Str.length_append]
        omega, kC, n_column, _, rfl, by
        apply big
        try simp only [Str.length_append]
        omega, by
        apply big
        try simp only [Str.length_append]
        omega, ?_⟩
      refine ⟨by
        apply big
        try simp only [Str.length_append]
        omega, kC, n_other, _, rfl, by
        apply big
        try simp only [Str.length_append]
        omega, by
        apply big
        try simp only [Str.length_append]
        omega, ?_⟩
      have e : textS (.alike a b) = Str.empty ++ ("alike " : Str) ++ a ++ (" " : Str) ++ b := by
        unfold textS linesS
        rw [tj, sp2, Str.empty_append, show ("alike " : Str) = ("alike" : Str) ++ (" " : Str) from by decide]
        rfl
      rw [e] at f
      exact f
    | _ =>
      simp only [clsN] at hN
      exact absurd hN (by decide)
theorem sc_Melt_str : FnScope ["self"] ["self"] (defScope s_Melt_str) := ⟨rfl, rfl, rfl, by decide +kernel, rfl, by decide +kernel, by decide +kernel⟩
theorem ok_Melt_str (G : Glo K mg) (c : He.SaysD fa fn K) (x : Exf K) {n : Nat} (hn3 : n ≤ 3) : Own1 P w K mg base (He.ga K "Melt") "__str__" (3 * n + 1) 1 (gStrC K n (He.ga K "Melt")) := by
  obtain ⟨fd, F⟩ := c.defs (d := dfn ("Melt", some "__str__") "__str__" "Melt.__str__" s_Melt_str) (by unfold fn; simp)
  replace F : FunD K "__str__" "Melt.__str__" (defArgs s_Melt_str) (defBody s_Melt_str) (defScope s_Melt_str) [] [] (He.ma K (He.ga K "Melt") "__str__") fd := F
  have mMelt : He.ga K "Melt" ∈ cl10 K := mem_cl10 (by decide)
  have kC := He.cls_ok (c.facts (f := .cls "Melt") (List.mem_append_right _ (List.mem_append_right _ (by simp))))
  have n_columns := He.noat_ok (c.facts (f := .noat "Melt" "columns") (List.mem_append_right _ (List.mem_append_right _ (by simp))))
  have n_name := He.noat_ok (c.facts (f := .noat "Melt" "name") (List.mem_append_right _ (List.mem_append_right _ (by simp))))
  have n_value := He.noat_ok (c.facts (f := .noat "Melt" "value") (List.mem_append_right _ (List.mem_append_right _ (by simp))))
  refine ⟨_, fd, ["self"], (x.own _ mMelt).str.1, (x.own _ mMelt).str.2, F.bindsN fun _ _ _ _ _ _ us hl => match us, hl with | [_], _ => rfl, ?_⟩
  have nd : (["self"] : List Str).Nodup := sc_Melt_str.nd
  apply fn_okE (k := 3 * n) (N := ["self"]) F sc_Melt_str rfl (by decide)
  intro c cdv A outer s H E hr
  have hu := hr.units
  have tk := takes_of (X := cxOf (L2.CX P w) P w K mg base ["self"] "Melt.__str__" (defScope s_Melt_str) (He.ma K (He.ga K "Melt") "__str__") cdv A outer s H E) rfl rfl rfl rfl
  apply Exists.intro
  apply Exists.intro
  apply And.intro
  · exact (dss_one (ds_ret (de_ms PySem.F.slot_str_join PySem.F.type_str_join mt_join md_join de_str (da_cons (de_lst (da_cons de_str (da_star (de_fld (de_var 0)) (da_cons de_str (da_cons (de_fld (de_var 0)) (da_cons (de_fld (de_var 0)) da_nil)))))) da_nil))))
  · intro ds F1 X1 hn h
    obtain ⟨s, rfl, hc, hok, f⟩ := h
    have hN : clsN s = "Melt" := x.inj (cls_mem s) (by decide) hc
    cases s with
    | melt cs n2 v =>
      replace hok : Nms 1 cs ∧ Nm n2 ∧ Nm v := by cases n <;> exact hok
      refine ms_at (e := [.dat (objD K (.melt cs n2 v))]) rfl ?_
      unfold objD
      dsimp only [msRet, msRetN, msSeq, msIf, msNext, msExpr, msSet, mtAnd, mtOr, mtNot, mTru, mB, mCB, mCall, maCons, maNil, mVar, mC, mOp, mChain, mIf, mAndV, mOrV, mNotV, mLst, mTup, mMS, gI0, gLen, gEq, gNe, gEqS, gNeS, gIn, gAll, gStrip, truD, start0, dn, mLc, miS, mgName, wipeD, mYes, lcD, List.map_cons, List.map_nil, List.replicate, List.cons_append, List.nil_append, List.getElem?_cons_zero, List.getElem?_cons_succ, List.getElem?_nil, List.append_nil, gLe, gLt, Bool.not_true, Bool.not_false, Bool.false_eq_true, reduceIte, mJoined, mJs, mFmt, maStar, gJoin, mFld, moSome, mSl, gStrO, gIx, z5]
      have hy6 : ∀ y ∈ ("melt" : Str) :: (cs ++ [("as" : Str), n2, v]), y.length ≤ 6 := fun y hy => by
        rcases List.mem_cons.mp hy with rfl | hy
        · decide
        rcases List.mem_append.mp hy with hy | hy
        · exact nm6 hok.1 y hy
        simp only [List.mem_cons, List.not_mem_nil, or_false] at hy
        rcases hy with rfl | rfl | rfl
        · decide
        · exact Nat.le_trans hok.2.1.2.1 (by decide)
        · exact Nat.le_trans hok.2.2.2.1 (by decide)
      have hl : (("melt" : Str) :: (cs ++ [("as" : Str), n2, v])).length ≤ 30 := by
        have := hok.1.2.1
        simp only [List.length_cons, List.length_append, List.length_nil]
        omega
      refine ⟨kC, n_columns, _, rfl, _, rfl, kC, n_name, _, rfl, kC, n_value, _, rfl, ?_, _, ("melt" : Str) :: (cs ++ [("as" : Str), n2, v]), rfl, ?_, words_ok hy6 hl, ?_⟩
      · refine Nat.le_trans ?_ (show 30 ≤ sizeLine from by decide)
        refine Nat.le_trans (Nat.le_of_eq ?_) hl
        simp only [List.length_cons, List.length_append, List.length_nil, List.length_map]
      · have e := strsD_map (("melt" : Str) :: (cs ++ [("as" : Str), n2, v]))
        simp only [List.map_cons, List.map_append, List.map_nil] at e
        try simp only [List.append_nil]
        exact e
      · have e : textS (.melt cs n2 v) = Txt.join " " (("melt" : Str) :: (cs ++ [("as" : Str), n2, v])) := by
          unfold textS linesS
          rw [tj]
          rfl
        rw [e] at f
        exact f
    | _ =>
      simp only [clsN] at hN
      exact absurd hN (by decide)
theorem sc_Pivot_str : FnScope ["self"] ["self"] (defScope s_Pivot_str) := ⟨rfl, rfl, rfl, by decide +kernel, rfl, by decide +kernel, by decide +kernel⟩
theorem ok_Pivot_str (G : Glo K mg) (c : He.SaysD fa fn K) (x : Exf K) {n : Nat} (hn3 : n ≤ 3) : Own1 P w K mg base (He.ga K "Pivot") "__str__" (3 * n + 1) 1 (gStrC K n (He.ga K "Pivot")) := by
  obtain ⟨fd, F⟩ := c.defs (d := dfn ("Pivot", some "__str__") "__str__" "Pivot.__str__" s_Pivot_str) (by unfold fn; simp)
  replace F : FunD K "__str__" "Pivot.__str__" (defArgs s_Pivot_str) (defBody s_Pivot_str) (defScope s_Pivot_str) [] [] (He.ma K (He.ga K "Pivot") "__str__") fd := F
  have mPivot : He.ga K "Pivot" ∈ cl10 K := mem_cl10 (by decide)
  have kC := He.cls_ok (c.facts (f := .cls "Pivot") (List.mem_append_right _ (List.mem_append_right _ (by simp))))
  have n_by := He.noat_ok (c.facts (f := .noat "Pivot" "by") (List.mem_append_right _ (List.mem_append_right _ (by simp))))
  have n_name := He.noat_ok (c.facts (f := .noat "Pivot" "name") (List.mem_append_right _ (List.mem_append_right _ (by simp))))
  have n_value := He.noat_ok (c.facts (f := .noat "Pivot" "value") (List.mem_append_right _ (List.mem_append_right _ (by simp))))
  have n_heads := He.noat_ok (c.facts (f := .noat "Pivot" "heads") (List.mem_append_right _ (List.mem_append_right _ (by simp))))
  refine ⟨_, fd, ["self"], (x.own _ mPivot).str.1, (x.own _ mPivot).str.2, F.bindsN fun _ _ _ _ _ _ us hl => match us, hl with | [_], _ => rfl, ?_⟩
  have nd : (["self"] : List Str).Nodup := sc_Pivot_str.nd
  apply fn_okE (k := 3 * n) (N := ["self"]) F sc_Pivot_str rfl (by decide)
  intro c cdv A outer s H E hr
  have hu := hr.units
  have tk := takes_of (X := cxOf (L2.CX P w) P w K mg base ["self"] "Pivot.__str__" (defScope s_Pivot_str) (He.ma K (He.ga K "Pivot") "__str__") cdv A outer s H E) rfl rfl rfl rfl
  apply Exists.intro
  apply Exists.intro
  apply And.intro
  · exact (dss_one (ds_ret (de_ms PySem.F.slot_str_join PySem.F.type_str_join mt_join md_join de_str (da_cons (de_lst (da_cons de_str (da_star (de_fld (de_var 0)) (da_cons de_str (da_cons (de_fld (de_var 0)) (da_cons (de_fld (de_var 0)) (da_cons de_str (da_star (de_fld (de_var 0)) da_nil)))))))) da_nil))))
  · intro ds F1 X1 hn h
    obtain ⟨s, rfl, hc, hok, f⟩ := h
    have hN : clsN s = "Pivot" := x.inj (cls_mem s) (by decide) hc
    cases s with
    | pivot bs n2 v hs =>
      replace hok : Nms 0 bs ∧ Nm n2 ∧ Nm v ∧ Nms 1 hs := by cases n <;> exact hok
      refine ms_at (e := [.dat (objD K (.pivot bs n2 v hs))]) rfl ?_
      unfold objD
      dsimp only [msRet, msRetN, msSeq, msIf, msNext, msExpr, msSet, mtAnd, mtOr, mtNot, mTru, mB, mCB, mCall, maCons, maNil, mVar, mC, mOp, mChain, mIf, mAndV, mOrV, mNotV, mLst, mTup, mMS, gI0, gLen, gEq, gNe, gEqS, gNeS, gIn, gAll, gStrip, truD, start0, dn, mLc, miS, mgName, wipeD, mYes, lcD, List.map_cons, List.map_nil, List.replicate, List.cons_append, List.nil_append, List.getElem?_cons_zero, List.getElem?_cons_succ, List.getElem?_nil, List.append_nil, gLe, gLt, Bool.not_true, Bool.not_false, Bool.false_eq_true, reduceIte, mJoined, mJs, mFmt, maStar, gJoin, mFld, moSome, mSl, gStrO, gIx, z5]
      have hy6 : ∀ y ∈ ("pivot" : Str) :: (bs ++ (("by" : Str) :: n2 :: v :: ("to" : Str) :: hs)), y.length ≤ 6 := fun y hy => by
        rcases List.mem_cons.mp hy with rfl | hy
        · decide
        rcases List.mem_append.mp hy with hy | hy
        · exact nm6 hok.1 y hy
        simp only [List.mem_cons] at hy
        rcases hy with rfl | rfl | rfl | rfl | hy
        · decide
        · exact Nat.le_trans hok.2.1.2.1 (by decide)
        · exact Nat.le_trans hok.2.2.1.2.1 (by decide)
        · decide
        · exact nm6 hok.2.2.2 y hy
      have hl : (("pivot" : Str) :: (bs ++ (("by" : Str) :: n2 :: v :: ("to" : Str) :: hs))).length ≤ 30 := by
        have := hok.1.2.1
        have := hok.2.2.2.2.1
        simp only [List.length_cons, List.length_append]
        omega
      refine ⟨kC, n_by, _, rfl, _, rfl, kC, n_name, _, rfl, kC, n_value, _, rfl, kC, n_heads, _, rfl, _, rfl, ?_, _, ("pivot" : Str) :: (bs ++ (("by" : Str) :: n2 :: v :: ("to" : Str) :: hs)), rfl, ?_, words_ok hy6 hl, ?_⟩
      · refine Nat.le_trans ?_ (show 30 ≤ sizeLine from by decide)
        refine Nat.le_trans (Nat.le_of_eq ?_) hl
        simp only [List.length_cons, List.length_append, List.length_nil, List.length_map]
      · have e := strsD_map (("pivot" : Str) :: (bs ++ (("by" : Str) :: n2 :: v :: ("to" : Str) :: hs)))
        simp only [List.map_cons, List.map_append, List.map_nil] at e
        try simp only [List.append_nil]
        exact e
      · have e : textS (.pivot bs n2 v hs) = Txt.join " " (("pivot" : Str) :: (bs ++ (("by" : Str) :: n2 :: v :: ("to" : Str) :: hs))) := by
          unfold textS linesS
          rw [tj]
          rfl
        rw [e] at f
        exact f
    | _ =>
      simp only [clsN] at hN
      exact absurd hN (by decide)
theorem sc_Join_str : FnScope ["self", "step"] ["self"] (defScope s_Join_str) := ⟨rfl, rfl, rfl, by decide +kernel, rfl, by decide +kernel, by decide +kernel⟩
theorem ok_Join_str (G : Glo K mg) (c : He.SaysD fa fn K) (x : Exf K) {n : Nat} (hn3 : n ≤ 3) (M : OwnM P w K mg base (fun C => C ∈ cl10 K) "__str__" (3 * n + 1) 1 (gStrC K n)) : Own1 P w K mg base (He.ga K "Join") "__str__" (3 * n + 4) 1 (gStrC K (n + 1) (He.ga K "Join")) := by
  obtain ⟨fd, F⟩ := c.defs (d := dfn ("Join", some "__str__") "__str__" "Join.__str__" s_Join_str) (by unfold fn; simp)
  replace F : FunD K "__str__" "Join.__str__" (defArgs s_Join_str) (defBody s_Join_str) (defScope s_Join_str) [] [] (He.ma K (He.ga K "Join") "__str__") fd := F
  have mJoin : He.ga K "Join" ∈ cl10 K := mem_cl10 (by decide)
  have kC := He.cls_ok (c.facts (f := .cls "Join") (List.mem_append_right _ (List.mem_append_right _ (by simp))))
  have n_columns := He.noat_ok (c.facts (f := .noat "Join" "columns") (List.mem_append_right _ (List.mem_append_right _ (by simp))))
  have n_steps := He.noat_ok (c.facts (f := .noat "Join" "steps") (List.mem_append_right _ (List.mem_append_right _ (by simp))))
  refine ⟨_, fd, ["self"], (x.own _ mJoin).str.1, (x.own _ mJoin).str.2, F.bindsN fun _ _ _ _ _ _ us hl => match us, hl with | [_], _ => rfl, ?_⟩
  have nd : (["self", "step"] : List Str).Nodup := sc_Join_str.nd
  apply fn_okE (k := 3 * n + 3) (N := ["self", "step"]) F sc_Join_str rfl (by decide)
  intro c cdv A outer s H E hr
  have hu := hr.units
  have tk := takes_of (X := cxOf (L2.CX P w) P w K mg base ["self", "step"] "Join.__str__" (defScope s_Join_str) (He.ma K (He.ga K "Join") "__str__") cdv A outer s H E) rfl rfl rfl rfl
  apply Exists.intro
  apply Exists.intro
  apply And.intro
  · exact (dss_one (ds_ret (de_ms PySem.F.slot_str_join PySem.F.type_str_join mt_join md_join de_str (da_cons (de_lst (da_cons (de_ms PySem.F.slot_str_join PySem.F.type_str_join mt_join md_join de_str (da_cons (de_lst (da_cons de_str (da_star (de_fld (de_var 0)) da_nil))) da_nil)) (da_star (de_lcF (own := [("step", 1)]) rfl nd (dic_of (di_seq (de_fld (de_var 0)))) (blkOk_by (show blkC ["self", "step"] (defScope s_Join_str) _ _ = true from by decide +kernel)) (by decide) (fun s H C cl fp => (dg_name 1 nd rfl (by first | exact .inl rfl | exact .inr rfl))) (fun s H C cl fp => dts_nil) (fun s H C cl fp => (de_strO M (hr.mono (by omega)) rfl (G.n "str" (by decide)) (da_cons (de_var 1) da_nil)))) (da_cons de_str da_nil)))) da_nil))))
  · intro ds F1 X1 hn h
    obtain ⟨s, rfl, hc, hok, f⟩ := h
    have hN : clsN s = "Join" := x.inj (cls_mem s) (by decide) hc
    cases s with
    | join cs ss =>
      replace hok : Nms 0 cs ∧ ss.length ≤ 6 ∧ ∀ s ∈ ss, okS n s := by exact hok
      refine ms_at (e := [.dat (objD K (.join cs ss)), .un]) rfl ?_
      unfold objD
      dsimp only [msRet, msRetN, msSeq, msIf, msNext, msExpr, msSet, mtAnd, mtOr, mtNot, mTru, mB, mCB, mCall, maCons, maNil, mVar, mC, mOp, mChain, mIf, mAndV, mOrV, mNotV, mLst, mTup, mMS, gI0, gLen, gEq, gNe, gEqS, gNeS, gIn, gAll, gStrip, truD, start0, dn, mLc, miS, mgName, wipeD, mYes, lcD, List.map_cons, List.map_nil, List.replicate, List.cons_append, List.nil_append, List.getElem?_cons_zero, List.getElem?_cons_succ, List.getElem?_nil, List.append_nil, gLe, gLt, Bool.not_true, Bool.not_false, Bool.false_eq_true, reduceIte, mJoined, mJs, mFmt, maStar, gJoin, mFld, moSome, mSl, gStrO, gIx, z5]
      have hB : Bd n ≤ 100000 := Bd_le hn3
      have hT : ∀ s ∈ ss, (textS s).length ≤ Bd n := fun s hs => text_len (hok.2.2 s hs)
      have ls : ss.length ≤ 6 := hok.2.1
      have hlen : ((Txt.join " " (("join" : Str) :: cs) :: (ss.map textS ++ [("end" : Str)])).map (·.length)).sum + (Txt.join " " (("join" : Str) :: cs) :: (ss.map textS ++ [("end" : Str)])).length * ("\n" : Str).length ≤ 16777216 := recs_ok (n := n) hB ls hT (join_len hok.1)
      have hel : (D.str (Txt.join " " (("join" : Str) :: cs)) :: (ss.map (fun s => D.str (textS s)) ++ [D.str ("end" : Str)])).length ≤ sizeLine := by
        refine Nat.le_trans ?_ (show 30 ≤ sizeLine from by decide)
        simp only [List.length_cons, List.length_append, List.length_map, List.length_nil]
        omega
      have l9 := hok.1.2.1
      have hy6 : ∀ y ∈ ("join" : Str) :: cs, y.length ≤ 6 := fun y hy => by
        rcases List.mem_cons.mp hy with rfl | hy
        · decide
        · exact nm6 hok.1 y hy
      refine ⟨kC, n_columns, _, rfl, _, rfl, ?_, _, ("join" : Str) :: cs, rfl, ?_, words_ok hy6 (by simp only [List.length_cons]; omega), kC, n_steps, _, rfl, _, rfl, ?_, ?_⟩
      · refine Nat.le_trans ?_ (show 30 ≤ sizeLine from by decide)
        simp only [List.length_cons, List.length_append, List.length_nil, List.length_map]
        omega
      · have e := strsD_map (("join" : Str) :: cs)
        simp only [List.map_cons, List.append_nil] at e ⊢
        exact e
      · rw [objDs_eq, List.length_map]
        exact Nat.lt_of_le_of_lt ls (by decide)
      rw [objDs_eq]
      refine lcD_mapA (objD K) (fun s => D.str (textS s)) ss [] (fun s hs F2 q => ?_) ?_
      · exact str_goal x (hok.2.2 s hs) q
      · refine ⟨_, rfl, hel, _, Txt.join " " (("join" : Str) :: cs) :: (ss.map textS ++ [("end" : Str)]), rfl, ?_, hlen, ?_⟩
        · have e := strsD_map (Txt.join " " (("join" : Str) :: cs) :: (ss.map textS ++ [("end" : Str)]))
          simp only [List.map_cons, List.map_append, List.map_nil, List.map_map] at e
          exact e
        · rw [text_flat]
          have e : textS (.join cs ss) = Txt.join "\n" (Txt.join " " (("join" : Str) :: cs) :: (linesSs ss ++ [("end" : Str)])) := by
            unfold textS linesS
            rfl
          rw [e] at f
          exact f
    | _ =>
      simp only [clsN] at hN
      exact absurd hN (by decide)
theorem sc_Stack_str : FnScope ["self", "step"] ["self"] (defScope s_Stack_str) := ⟨rfl, rfl, rfl, by decide +kernel, rfl, by decide +kernel, by decide +kernel⟩
theorem ok_Stack_str (G : Glo K mg) (c : He.SaysD fa fn K) (x : Exf K) {n : Nat} (hn3 : n ≤ 3) (M : OwnM P w K mg base (fun C => C ∈ cl10 K) "__str__" (3 * n + 1) 1 (gStrC K n)) : Own1 P w K mg base (He.ga K "Stack") "__str__" (3 * n + 4) 1 (gStrC K (n + 1) (He.ga K "Stack")) := by
  obtain ⟨fd, F⟩ := c.defs (d := dfn ("Stack", some "__str__") "__str__" "Stack.__str__" s_Stack_str) (by unfold fn; simp)
  replace F : FunD K "__str__" "Stack.__str__" (defArgs s_Stack_str) (defBody s_Stack_str) (defScope s_Stack_str) [] [] (He.ma K (He.ga K "Stack") "__str__") fd := F
  have mStack : He.ga K "Stack" ∈ cl10 K := mem_cl10 (by decide)
  have kC := He.cls_ok (c.facts (f := .cls "Stack") (List.mem_append_right _ (List.mem_append_right _ (by simp))))
  have n_steps := He.noat_ok (c.facts (f := .noat "Stack" "steps") (List.mem_append_right _ (List.mem_append_right _ (by simp))))
  refine ⟨_, fd, ["self"], (x.own _ mStack).str.1, (x.own _ mStack).str.2, F.bindsN fun _ _ _ _ _ _ us hl => match us, hl with | [_], _ => rfl, ?_⟩
  have nd : (["self", "step"] : List Str).Nodup := sc_Stack_str.nd
  apply fn_okE (k := 3 * n + 3) (N := ["self", "step"]) F sc_Stack_str rfl (by decide)
  intro c cdv A outer s H E hr
  have hu := hr.units
  have tk := takes_of (X := cxOf (L2.CX P w) P w K mg base ["self", "step"] "Stack.__str__" (defScope s_Stack_str) (He.ma K (He.ga K "Stack") "__str__") cdv A outer s H E) rfl rfl rfl rfl
  apply Exists.intro
  apply Exists.intro
  apply And.intro
  · exact (dss_one (ds_ret (de_ms PySem.F.slot_str_join PySem.F.type_str_join mt_join md_join de_str (da_cons (de_lst (da_cons de_str (da_star (de_lcF (own := [("step", 1)]) rfl nd (dic_of (di_seq (de_fld (de_var 0)))) (blkOk_by (show blkC ["self", "step"] (defScope s_Stack_str) _ _ = true from by decide +kernel)) (by decide) (fun s H C cl fp => (dg_name 1 nd rfl (by first | exact .inl rfl | exact .inr rfl))) (fun s H C cl fp => dts_nil) (fun s H C cl fp => (de_strO M (hr.mono (by omega)) rfl (G.n "str" (by decide)) (da_cons (de_var 1) da_nil)))) (da_cons de_str da_nil)))) da_nil))))
  · intro ds F1 X1 hn h
    obtain ⟨s, rfl, hc, hok, f⟩ := h
    have hN : clsN s = "Stack" := x.inj (cls_mem s) (by decide) hc
    cases s with
    | stack ss =>
      replace hok : ss.length ≤ 6 ∧ ∀ s ∈ ss, okS n s := by exact hok
      refine ms_at (e := [.dat (objD K (.stack ss)), .un]) rfl ?_
      unfold objD
      dsimp only [msRet, msRetN, msSeq, msIf, msNext, msExpr, msSet, mtAnd, mtOr, mtNot, mTru, mB, mCB, mCall, maCons, maNil, mVar, mC, mOp, mChain, mIf, mAndV, mOrV, mNotV, mLst, mTup, mMS, gI0, gLen, gEq, gNe, gEqS, gNeS, gIn, gAll, gStrip, truD, start0, dn, mLc, miS, mgName, wipeD, mYes, lcD, List.map_cons, List.map_nil, List.replicate, List.cons_append, List.nil_append, List.getElem?_cons_zero, List.getElem?_cons_succ, List.getElem?_nil, List.append_nil, gLe, gLt, Bool.not_true, Bool.not_false, Bool.false_eq_true, reduceIte, mJoined, mJs, mFmt, maStar, gJoin, mFld, moSome, mSl, gStrO, gIx, z5]
      have hB : Bd n ≤ 100000 := Bd_le hn3
      have hT : ∀ s ∈ ss, (textS s).length ≤ Bd n := fun s hs => text_len (hok.2 s hs)
      have ls : ss.length ≤ 6 := hok.1
      have hlen : ((("stack" : Str) :: (ss.map textS ++ [("end" : Str)])).map (·.length)).sum + (("stack" : Str) :: (ss.map textS ++ [("end" : Str)])).length * ("\n" : Str).length ≤ 16777216 := recs_ok (n := n) hB ls hT (by decide)
      have hel : (D.str (("stack" : Str)) :: (ss.map (fun s => D.str (textS s)) ++ [D.str ("end" : Str)])).length ≤ sizeLine := by
        refine Nat.le_trans ?_ (show 30 ≤ sizeLine from by decide)
        simp only [List.length_cons, List.length_append, List.length_map, List.length_nil]
        omega
      refine ⟨kC, n_steps, _, rfl, _, rfl, ?_, ?_⟩
      · rw [objDs_eq, List.length_map]
        exact Nat.lt_of_le_of_lt ls (by decide)
      rw [objDs_eq]
      refine lcD_mapA (objD K) (fun s => D.str (textS s)) ss [] (fun s hs F2 q => ?_) ?_
      · exact str_goal x (hok.2 s hs) q
      · refine ⟨_, rfl, hel, _, ("stack" : Str) :: (ss.map textS ++ [("end" : Str)]), rfl, ?_, hlen, ?_⟩
        · have e := strsD_map (("stack" : Str) :: (ss.map textS ++ [("end" : Str)]))
          simp only [List.map_cons, List.map_append, List.map_nil, List.map_map] at e
          exact e
        · rw [text_flat]
          have e : textS (.stack ss) = Txt.join "\n" (("stack" : Str) :: (linesSs ss ++ [("end" : Str)])) := by
            unfold textS linesS
            rfl
          rw [e] at f
          exact f
    | _ =>
      simp only [clsN] at hN
      exact absurd hN (by decide)
end
end K11

set_option Elab.async false
set_option linter.all false
set_option maxRecDepth 100000
set_option maxHeartbeats 4000000
namespace K11
open PySem PySem.Spec PyProof.Rows L2 DL
theorem no_str {K : Fg} {C : Str} (hC : C = "Join" ∨ C = "Stack") (x : Exf K) {vs : List V} {H : Hp} {Q : VK} {E : XK} (h : spD K 1 false (gStrC K 0 (He.ga K C)) vs H Q E) : False := by
  obtain ⟨G, ds, dl, vs', F, X, _, _, _, _, _, ⟨s, rfl, hc, hok, _⟩, _⟩ := h
  have hN : clsN s = C := x.inj (cls_mem s) (by rcases hC with rfl | rfl <;> decide) hc
  cases s with
  | join cs ss => exact hok
  | stack ss => exact hok
  | _ =>
    simp only [clsN] at hN
    rcases hC with rfl | rfl <;> exact absurd hN (by decide)
section
variable {P : Program} {w : World} {K : Fg} {mg : Str → Option Value} {base : Heap}
theorem ok_Join_str0 (c : He.SaysD fa fn K) (x : Exf K) : Own1 P w K mg base (He.ga K "Join") "__str__" 1 1 (gStrC K 0 (He.ga K "Join")) := by
  obtain ⟨fd, F⟩ := c.defs (d := dfn ("Join", some "__str__") "__str__" "Join.__str__" s_Join_str) (by unfold fn; simp)
  replace F : FunD K "__str__" "Join.__str__" (defArgs s_Join_str) (defBody s_Join_str) (defScope s_Join_str) [] [] (He.ma K (He.ga K "Join") "__str__") fd := F
  have m0 : He.ga K "Join" ∈ cl10 K := mem_cl10 (by decide)
  exact ⟨_, fd, ["self"], (x.own _ m0).str.1, (x.own _ m0).str.2, F.bindsN fun _ _ _ _ _ _ us hl => match us, hl with | [_], _ => rfl, ⟨fun vs H Q E h => (no_str (by simp) x h).elim, fun _ _ _ _ _ _ _ _ _ _ _ _ _ h => (no_str (by simp) x h).elim⟩⟩
theorem ok_Stack_str0 (c : He.SaysD fa fn K) (x : Exf K) : Own1 P w K mg base (He.ga K "Stack") "__str__" 1 1 (gStrC K 0 (He.ga K "Stack")) := by
  obtain ⟨fd, F⟩ := c.defs (d := dfn ("Stack", some "__str__") "__str__" "Stack.__str__" s_Stack_str) (by unfold fn; simp)
  replace F : FunD K "__str__" "Stack.__str__" (defArgs s_Stack_str) (defBody s_Stack_str) (defScope s_Stack_str) [] [] (He.ma K (He.ga K "Stack") "__str__") fd := F
  have m0 : He.ga K "Stack" ∈ cl10 K := mem_cl10 (by decide)
  exact ⟨_, fd, ["self"], (x.own _ m0).str.1, (x.own _ m0).str.2, F.bindsN fun _ _ _ _ _ _ us hl => match us, hl with | [_], _ => rfl, ⟨fun vs H Q E h => (no_str (by simp) x h).elim, fun _ _ _ _ _ _ _ _ _ _ _ _ _ h => (no_str (by simp) x h).elim⟩⟩
theorem of_mem {K : Fg} {p : Addr → Prop} {C : Addr} (h : C ∈ cl10 K) (q : ∀ z ∈ cNames, p (He.ga K z)) : p C := by
  obtain ⟨z, hz, rfl⟩ := List.mem_map.mp h
  exact q z hz
theorem str_all (G : Glo K mg) (c : He.SaysD fa fn K) (x : Exf K) : ∀ n : Nat, n ≤ 3 → OwnM P w K mg base (fun C => C ∈ cl10 K) "__str__" (3 * n + 1) 1 (gStrC K n)
  | 0, h => ⟨fun C hC => of_mem (p := fun C => Own1 P w K mg base C "__str__" 1 1 (gStrC K 0 C)) hC fun z hz => by
    simp only [cNames, List.mem_cons, List.not_mem_nil, or_false] at hz
    rcases hz with rfl | rfl | rfl | rfl | rfl | rfl | rfl | rfl | rfl | rfl
    · exact ok_Pick_str G c x (n := 0) h
    · exact ok_Rename_str G c x (n := 0) h
    · exact ok_Has_str G c x (n := 0) h
    · exact ok_Is_str G c x (n := 0) h
    · exact ok_Put_str G c x (n := 0) h
    · exact ok_Alike_str G c x (n := 0) h
    · exact ok_Melt_str G c x (n := 0) h
    · exact ok_Pivot_str G c x (n := 0) h
    · exact ok_Join_str0 c x
    · exact ok_Stack_str0 c x
⟩
  | n + 1, h => ⟨fun C hC => of_mem (p := fun C => Own1 P w K mg base C "__str__" (3 * n + 4) 1 (gStrC K (n + 1) C)) hC fun z hz => by
    have M : OwnM P w K mg base (fun C => C ∈ cl10 K) "__str__" (3 * n + 1) 1 (gStrC K n) := str_all G c x n (by omega)
    simp only [cNames, List.mem_cons, List.not_mem_nil, or_false] at hz
    rcases hz with rfl | rfl | rfl | rfl | rfl | rfl | rfl | rfl | rfl | rfl
    · exact ok_Pick_str G c x (n := n + 1) h
    · exact ok_Rename_str G c x (n := n + 1) h
    · exact ok_Has_str G c x (n := n + 1) h
    · exact ok_Is_str G c x (n := n + 1) h
    · exact ok_Put_str G c x (n := n + 1) h
    · exact ok_Alike_str G c x (n := n + 1) h
    · exact ok_Melt_str G c x (n := n + 1) h
    · exact ok_Pivot_str G c x (n := n + 1) h
    · exact ok_Join_str G c x (n := n) (by omega) M
    · exact ok_Stack_str G c x (n := n) (by omega) M
⟩
/-! ### == -/
def tyT : D → Option String
  | .non => some "NoneType"
  | .str _ => some "str"
  | .tup _ => some "tuple"
  | .int _ => some "int"
  | _ => none
def EqR (K : Fg) (n : Nat) (s : Stp) (e : D) (r : Bool) : Prop := (∃ t, e = objD K t ∧ okS n t ∧ r = (decide (clsN t = clsN s) && decide (textS s = textS t))) ∨ ((tyT e).isSome = true ∧ r = false)
def gEqC (K : Fg) (n : Nat) (C : Addr) : FF := fun ds F _ => ∃ s e r, ds = [objD K s, e] ∧ He.ga K (clsN s) = C ∧ okS n s ∧ EqR K n s e r ∧ F (.bl r)
theorem isi_goal (x : Exf K) {n : Nat} {s : Stp} {e : D} {r : Bool} {F : D → Prop} (h : EqR K n s e r) (f1 : ∀ t, e = objD K t → okS n t → clsN t = clsN s → r = decide (textS s = textS t) → F (.bl true)) (f2 : r = false → F (.bl false)) : gIsi K [e, .fx (.ref (He.ga K (clsN s)))] F := by
  rcases h with ⟨t, rfl, ht, hr⟩ | ⟨ht, hr⟩
  · obtain ⟨fs, e1⟩ := obj_of K t
    have mt := mem_cl10 (K := K) (cls_mem t)
    have ms := mem_cl10 (K := K) (cls_mem s)
    refine ⟨.ref (He.ga K (clsN t)), .ref (He.ga K (clsN s)), _, .own _, ?_, kit1_of ((x.own _ ms).cl _ mt).2, ?_⟩
    · rw [e1]
      exact ⟨rfl, x.kls.isC _ mt⟩
    · by_cases hc : clsN t = clsN s
      · rw [hc, beq_self_eq_true]
        exact f1 t rfl ht hc (by rw [hr, decide_eq_true hc, Bool.true_and])
      · have : (He.ga K (clsN t) == He.ga K (clsN s)) = false := beq_eq_false_iff_ne.mpr fun z => hc (x.inj (cls_mem t) (cls_mem s) z)
        rw [this]
        exact f2 (by rw [hr, decide_eq_false hc, Bool.false_and])
  · have ms := mem_cl10 (K := K) (cls_mem s)
    have ty := fun T hT => kit1_of ((x.own _ ms).ty T hT).2
    cases e with
    | non => exact ⟨.type "NoneType", .ref (He.ga K (clsN s)), false, .own _, rfl, ty _ (by decide), f2 hr⟩
    | str z => exact ⟨.type "str", .ref (He.ga K (clsN s)), false, .own _, rfl, ty _ (by decide), f2 hr⟩
    | tup z => exact ⟨.type "tuple", .ref (He.ga K (clsN s)), false, .own _, rfl, ty _ (by decide), f2 hr⟩
    | int z => exact ⟨.type "int", .ref (He.ga K (clsN s)), false, .own _, rfl, ty _ (by decide), f2 hr⟩
    | _ => cases ht
theorem sc_Pick_eq : FnScope ["self", "other"] ["self", "other"] (defScope s_Pick_eq) := ⟨rfl, rfl, rfl, by decide +kernel, rfl, by decide +kernel, by decide +kernel⟩
theorem ok_Pick_eq (G : Glo K mg) (c : He.SaysD fa fn K) (x : Exf K) {n : Nat} (M : OwnM P w K mg base (fun C => C ∈ cl10 K) "__str__" (3 * n + 1) 1 (gStrC K n)) : Own1 P w K mg base (He.ga K "Pick") "__eq__" (3 * n + 4) 2 (gEqC K n (He.ga K "Pick")) := by
  obtain ⟨fd, F⟩ := c.defs (d := dfn ("Pick", some "__eq__") "__eq__" "Pick.__eq__" s_Pick_eq) (by unfold fn; simp)
  replace F : FunD K "__eq__" "Pick.__eq__" (defArgs s_Pick_eq) (defBody s_Pick_eq) (defScope s_Pick_eq) [] [] (He.ma K (He.ga K "Pick") "__eq__") fd := F
  have mPick : He.ga K "Pick" ∈ cl10 K := mem_cl10 (by decide)
  have kC := He.cls_ok (c.facts (f := .cls "Pick") (List.mem_append_right _ (List.mem_append_right _ (by simp))))
  have n_columns := He.noat_ok (c.facts (f := .noat "Pick" "columns") (List.mem_append_right _ (List.mem_append_right _ (by simp))))
  refine ⟨_, fd, ["self", "other"], (x.own _ mPick).eq.1, (x.own _ mPick).eq.2, F.bindsN fun _ _ _ _ _ _ us hl => match us, hl with | [_, _], _ => rfl, ?_⟩
  have nd : (["self", "other"] : List Str).Nodup := sc_Pick_eq.nd
  apply fn_okE (k := 3 * n + 3) (N := ["self", "other"]) F sc_Pick_eq rfl (by decide)
  intro c cdv A outer s H E hr
  have hu := hr.units
  have tk := takes_of (X := cxOf (L2.CX P w) P w K mg base ["self", "other"] "Pick.__eq__" (defScope s_Pick_eq) (He.ma K (He.ga K "Pick") "__eq__") cdv A outer s H E) rfl rfl rfl rfl
  apply Exists.intro
  apply Exists.intro
  apply And.intro
  · exact (dss_one (ds_ret (de_and (de_callB call_isi cd_isi rfl (G.n "isinstance" (by decide)) (by decide +kernel) (da_cons (de_var 1) (da_cons (de_glob (v := .ref (He.ga K "Pick")) rfl (G.g "Pick" (by decide)) rfl (fun _ => .fx _)) da_nil))) (de_one (de_cmp op_eq rd_eqS (de_strO M (hr.mono (by omega)) rfl (G.n "str" (by decide)) (da_cons (de_var 0) da_nil)) (de_strO M (hr.mono (by omega)) rfl (G.n "str" (by decide)) (da_cons (de_var 1) da_nil)) (nomark _))))))
  · intro ds F1 X1 hn h
    obtain ⟨s, e, r, rfl, hc, hok, he, f⟩ := h
    refine ms_at (e := [.dat (objD K s), .dat e]) rfl ?_
    dsimp only [msRet, msRetN, msSeq, msIf, msNext, msExpr, msSet, mtAnd, mtOr, mtNot, mTru, mB, mCB, mCall, maCons, maNil, mVar, mC, mOp, mChain, mIf, mAndV, mOrV, mNotV, mLst, mTup, mMS, gI0, gLen, gEq, gNe, gEqS, gNeS, gIn, gAll, gStrip, truD, start0, dn, mLc, miS, mgName, wipeD, mYes, lcD, List.map_cons, List.map_nil, List.replicate, List.cons_append, List.nil_append, List.getElem?_cons_zero, List.getElem?_cons_succ, List.getElem?_nil, List.append_nil, gLe, gLt, Bool.not_true, Bool.not_false, Bool.false_eq_true, reduceIte, mJoined, mJs, mFmt, maStar, gJoin, mFld, moSome, mSl, gIx, z5]
    rw [← hc]
    refine isi_goal x he (fun t ht hot hct hr => ?_) fun hr => ?_
    · subst ht
      refine str_goal x hok (str_goal x hot ?_)
      rw [hr] at f
      exact f
    · rw [hr] at f
      exact f
theorem sc_Rename_eq : FnScope ["self", "other"] ["self", "other"] (defScope s_Rename_eq) := ⟨rfl, rfl, rfl, by decide +kernel, rfl, by decide +kernel, by decide +kernel⟩
theorem ok_Rename_eq (G : Glo K mg) (c : He.SaysD fa fn K) (x : Exf K) {n : Nat} (M : OwnM P w K mg base (fun C => C ∈ cl10 K) "__str__" (3 * n + 1) 1 (gStrC K n)) : Own1 P w K mg base (He.ga K "Rename") "__eq__" (3 * n + 4) 2 (gEqC K n (He.ga K "Rename")) := by
  obtain ⟨fd, F⟩ := c.defs (d := dfn ("Rename", some "__eq__") "__eq__" "Rename.__eq__" s_Rename_eq) (by unfold fn; simp)
  replace F : FunD K "__eq__" "Rename.__eq__" (defArgs s_Rename_eq) (defBody s_Rename_eq) (defScope s_Rename_eq) [] [] (He.ma K (He.ga K "Rename") "__eq__") fd := F
  have mRename : He.ga K "Rename" ∈ cl10 K := mem_cl10 (by decide)
  have kC := He.cls_ok (c.facts (f := .cls "Rename") (List.mem_append_right _ (List.mem_append_right _ (by simp))))
  have n_old := He.noat_ok (c.facts (f := .noat "Rename" "old") (List.mem_append_right _ (List.mem_append_right _ (by simp))))
  have n_new := He.noat_ok (c.facts (f := .noat "Rename" "new") (List.mem_append_right _ (List.mem_append_right _ (by simp))))
  refine ⟨_, fd, ["self", "other"], (x.own _ mRename).eq.1, (x.own _ mRename).eq.2, F.bindsN fun _ _ _ _ _ _ us hl => match us, hl with | [_, _], _ => rfl, ?_⟩
  have nd : (["self", "other"] : List Str).Nodup := sc_Rename_eq.nd
  apply fn_okE (k := 3 * n + 3) (N := ["self", "other"]) F sc_Rename_eq rfl (by decide)
  intro c cdv A outer s H E hr
  have hu := hr.units
  have tk := takes_of (X := cxOf (L2.CX P w) P w K mg base ["self", "other"] "Rename.__eq__" (defScope s_Rename_eq) (He.ma K (He.ga K "Rename") "__eq__") cdv A outer s H E) rfl rfl rfl rfl
  apply Exists.intro
  apply Exists.intro
  apply And.intro
  · exact (dss_one (ds_ret (de_and (de_callB call_isi cd_isi rfl (G.n "isinstance" (by decide)) (by decide +kernel) (da_cons (de_var 1) (da_cons (de_glob (v := .ref (He.ga K "Rename")) rfl (G.g "Rename" (by decide)) rfl (fun _ => .fx _)) da_nil))) (de_one (de_cmp op_eq rd_eqS (de_strO M (hr.mono (by omega)) rfl (G.n "str" (by decide)) (da_cons (de_var 0) da_nil)) (de_strO M (hr.mono (by omega)) rfl (G.n "str" (by decide)) (da_cons (de_var 1) da_nil)) (nomark _))))))
  · intro ds F1 X1 hn h
    obtain ⟨s, e, r, rfl, hc, hok, he, f⟩ := h
    refine ms_at (e := [.dat (objD K s), .dat e]) rfl ?_
    dsimp only [msRet, msRetN, msSeq, msIf, msNext, msExpr, msSet, mtAnd, mtOr, mtNot, mTru, mB, mCB, mCall, maCons, maNil, mVar, mC, mOp, mChain, mIf, mAndV, mOrV, mNotV, mLst, mTup, mMS, gI0, gLen, gEq, gNe, gEqS, gNeS, gIn, gAll, gStrip, truD, start0, dn, mLc, miS, mgName, wipeD, mYes, lcD, List.map_cons, List.map_nil, List.replicate, List.cons_append, List.nil_append, List.getElem?_cons_zero, List.getElem?_cons_succ, List.getElem?_nil, List.append_nil, gLe, gLt, Bool.not_true, Bool.not_false, Bool.false_eq_true, reduceIte, mJoined, mJs, mFmt, maStar, gJoin, mFld, moSome, mSl, gIx, z5]
    rw [← hc]
    refine isi_goal x he (fun t ht hot hct hr => ?_) fun hr => ?_
    · subst ht
      refine str_goal x hok (str_goal x hot ?_)
      rw [hr] at f
      exact f
    · rw [hr] at f
      exact f
theorem sc_Has_eq : FnScope ["self", "other"] ["self", "other"] (defScope s_Has_eq) := ⟨rfl, rfl, rfl, by decide +kernel, rfl, by decide +kernel, by decide +kernel⟩
theorem ok_Has_eq (G : Glo K mg) (c : He.SaysD fa fn K) (x : Exf K) {n : Nat} (M : OwnM P w K mg base (fun C => C ∈ cl10 K) "__str__" (3 * n + 1) 1 (gStrC K n)) : Own1 P w K mg base (He.ga K "Has") "__eq__" (3 * n + 4) 2 (gEqC K n (He.ga K "Has")) := by
  obtain ⟨fd, F⟩ := c.defs (d := dfn ("Has", some "__eq__") "__eq__" "Has.__eq__" s_Has_eq) (by unfold fn; simp)
  replace F : FunD K "__eq__" "Has.__eq__" (defArgs s_Has_eq) (defBody s_Has_eq) (defScope s_Has_eq) [] [] (He.ma K (He.ga K "Has") "__eq__") fd := F
  have mHas : He.ga K "Has" ∈ cl10 K := mem_cl10 (by decide)
  have kC := He.cls_ok (c.facts (f := .cls "Has") (List.mem_append_right _ (List.mem_append_right _ (by simp))))
  have n_column := He.noat_ok (c.facts (f := .noat "Has" "column") (List.mem_append_right _ (List.mem_append_right _ (by simp))))
  refine ⟨_, fd, ["self", "other"], (x.own _ mHas).eq.1, (x.own _ mHas).eq.2, F.bindsN fun _ _ _ _ _ _ us hl => match us, hl with | [_, _], _ => rfl, ?_⟩
  have nd : (["self", "other"] : List Str).Nodup := sc_Has_eq.nd
  apply fn_okE (k := 3 * n + 3) (N := ["self", "other"]) F sc_Has_eq rfl (by decide)
  intro c cdv A outer s H E hr
  have hu := hr.units
  have tk := takes_of (X := cxOf (L2.CX P w) P w K mg base ["self", "other"] "Has.__eq__" (defScope s_Has_eq) (He.ma K (He.ga K "Has") "__eq__") cdv A outer s H E) rfl rfl rfl rfl
  apply Exists.intro
  apply Exists.intro
  apply And.intro
  · exact (dss_one (ds_ret (de_and (de_callB call_isi cd_isi rfl (G.n "isinstance" (by decide)) (by decide +kernel) (da_cons (de_var 1) (da_cons (de_glob (v := .ref (He.ga K "Has")) rfl (G.g "Has" (by decide)) rfl (fun _ => .fx _)) da_nil))) (de_one (de_cmp op_eq rd_eqS (de_strO M (hr.mono (by omega)) rfl (G.n "str" (by decide)) (da_cons (de_var 0) da_nil)) (de_strO M (hr.mono (by omega)) rfl (G.n "str" (by decide)) (da_cons (de_var 1) da_nil)) (nomark _))))))
  · intro ds F1 X1 hn h
    obtain ⟨s, e, r, rfl, hc, hok, he, f⟩ := h
    refine ms_at (e := [.dat (objD K s), .dat e]) rfl ?_
    dsimp only [msRet, msRetN, msSeq, msIf, msNext, msExpr, msSet, mtAnd, mtOr, mtNot, mTru, mB, mCB, mCall, maCons, maNil, mVar, mC, mOp, mChain, mIf, mAndV, mOrV, mNotV, mLst, mTup, mMS, gI0, gLen, gEq, gNe, gEqS, gNeS, gIn, gAll, gStrip, truD, start0, dn, mLc, miS, mgName, wipeD, mYes, lcD, List.map_cons, List.map_nil, List.replicate, List.cons_append, List.nil_append, List.getElem?_cons_zero, List.getElem?_cons_succ, List.getElem?_nil, List.append_nil, gLe, gLt, Bool.not_true, Bool.not_false, Bool.false_eq_true, reduceIte, mJoined, mJs, mFmt, maStar, gJoin, mFld, moSome, mSl, gIx, z5]
    rw [← hc]
    refine isi_goal x he (fun t ht hot hct hr => ?_) fun hr => ?_
    · subst ht
      refine str_goal x hok (str_goal x hot ?_)
      rw [hr] at f
      exact f
    · rw [hr] at f
      exact f
theorem sc_Is_eq : FnScope ["self", "other"] ["self", "other"] (defScope s_Is_eq) := ⟨rfl, rfl, rfl, by decide +kernel, rfl, by decide +kernel, by decide +kernel⟩
theorem ok_Is_eq (G : Glo K mg) (c : He.SaysD fa fn K) (x : Exf K) {n : Nat} (M : OwnM P w K mg base (fun C => C ∈ cl10 K) "__str__" (3 * n + 1) 1 (gStrC K n)) : Own1 P w K mg base (He.ga K "Is") "__eq__" (3 * n + 4) 2 (gEqC K n (He.ga K "Is")) := by
  obtain ⟨fd, F⟩ := c.defs (d := dfn ("Is", some "__eq__") "__eq__" "Is.__eq__" s_Is_eq) (by unfold fn; simp)
  replace F : FunD K "__eq__" "Is.__eq__" (defArgs s_Is_eq) (defBody s_Is_eq) (defScope s_Is_eq) [] [] (He.ma K (He.ga K "Is") "__eq__") fd := F
  have mIs : He.ga K "Is" ∈ cl10 K := mem_cl10 (by decide)
  have kC := He.cls_ok (c.facts (f := .cls "Is") (List.mem_append_right _ (List.mem_append_right _ (by simp))))
  have n_column := He.noat_ok (c.facts (f := .noat "Is" "column") (List.mem_append_right _ (List.mem_append_right _ (by simp))))
  have n_text := He.noat_ok (c.facts (f := .noat "Is" "text") (List.mem_append_right _ (List.mem_append_right _ (by simp))))
  refine ⟨_, fd, ["self", "other"], (x.own _ mIs).eq.1, (x.own _ mIs).eq.2, F.bindsN fun _ _ _ _ _ _ us hl => match us, hl with | [_, _], _ => rfl, ?_⟩
  have nd : (["self", "other"] : List Str).Nodup := sc_Is_eq.nd
  apply fn_okE (k := 3 * n + 3) (N := ["self", "other"]) F sc_Is_eq rfl (by decide)
  intro c cdv A outer s H E hr
  have hu := hr.units
  have tk := takes_of (X := cxOf (L2.CX P w) P w K mg base ["self", "other"] "Is.__eq__" (defScope s_Is_eq) (He.ma K (He.ga K "Is") "__eq__") cdv A outer s H E) rfl rfl rfl rfl
  apply Exists.intro
  apply Exists.intro
  apply And.intro
  · exact (dss_one (ds_ret (de_and (de_callB call_isi cd_isi rfl (G.n "isinstance" (by decide)) (by decide +kernel) (da_cons (de_var 1) (da_cons (de_glob (v := .ref (He.ga K "Is")) rfl (G.g "Is" (by decide)) rfl (fun _ => .fx _)) da_nil))) (de_one (de_cmp op_eq rd_eqS (de_strO M (hr.mono (by omega)) rfl (G.n "str" (by decide)) (da_cons (de_var 0) da_nil)) (de_strO M (hr.mono (by omega)) rfl (G.n "str" (by decide)) (da_cons (de_var 1) da_nil)) (nomark _))))))
  · intro ds F1 X1 hn h
    obtain ⟨s, e, r, rfl, hc, hok, he, f⟩ := h
    refine ms_at (e := [.dat (objD K s), .dat e]) rfl ?_
    dsimp only [msRet, msRetN, msSeq, msIf, msNext, msExpr, msSet, mtAnd, mtOr, mtNot, mTru, mB, mCB, mCall, maCons, maNil, mVar, mC, mOp, mChain, mIf, mAndV, mOrV, mNotV, mLst, mTup, mMS, gI0, gLen, gEq, gNe, gEqS, gNeS, gIn, gAll, gStrip, truD, start0, dn, mLc, miS, mgName, wipeD, mYes, lcD, List.map_cons, List.map_nil, List.replicate, List.cons_append, List.nil_append, List.getElem?_cons_zero, List.getElem?_cons_succ, List.getElem?_nil, List.append_nil, gLe, gLt, Bool.not_true, Bool.not_false, Bool.false_eq_true, reduceIte, mJoined, mJs, mFmt, maStar, gJoin, mFld, moSome, mSl, gIx, z5]
    rw [← hc]
    refine isi_goal x he (fun t ht hot hct hr => ?_) fun hr => ?_
    · subst ht
      refine str_goal x hok (str_goal x hot ?_)
      rw [hr] at f
      exact f
    · rw [hr] at f
      exact f
theorem sc_Put_eq : FnScope ["self", "other"] ["self", "other"] (defScope s_Put_eq) := ⟨rfl, rfl, rfl, by decide +kernel, rfl, by decide +kernel, by decide +kernel⟩
theorem ok_Put_eq (G : Glo K mg) (c : He.SaysD fa fn K) (x : Exf K) {n : Nat} (M : OwnM P w K mg base (fun C => C ∈ cl10 K) "__str__" (3 * n + 1) 1 (gStrC K n)) : Own1 P w K mg base (He.ga K "Put") "__eq__" (3 * n + 4) 2 (gEqC K n (He.ga K "Put")) := by
  obtain ⟨fd, F⟩ := c.defs (d := dfn ("Put", some "__eq__") "__eq__" "Put.__eq__" s_Put_eq) (by unfold fn; simp)
  replace F : FunD K "__eq__" "Put.__eq__" (defArgs s_Put_eq) (defBody s_Put_eq) (defScope s_Put_eq) [] [] (He.ma K (He.ga K "Put") "__eq__") fd := F
  have mPut : He.ga K "Put" ∈ cl10 K := mem_cl10 (by decide)
  have kC := He.cls_ok (c.facts (f := .cls "Put") (List.mem_append_right _ (List.mem_append_right _ (by simp))))
  have n_column := He.noat_ok (c.facts (f := .noat "Put" "column") (List.mem_append_right _ (List.mem_append_right _ (by simp))))
  have n_text := He.noat_ok (c.facts (f := .noat "Put" "text") (List.mem_append_right _ (List.mem_append_right _ (by simp))))
  refine ⟨_, fd, ["self", "other"], (x.own _ mPut).eq.1, (x.own _ mPut).eq.2, F.bindsN fun _ _ _ _ _ _ us hl => match us, hl with | [_, _], _ => rfl, ?_⟩
  have nd : (["self", "other"] : List Str).Nodup := sc_Put_eq.nd
  apply fn_okE (k := 3 * n + 3) (N := ["self", "other"]) F sc_Put_eq rfl (by decide)
  intro c cdv A outer s H E hr
  have hu := hr.units
  have tk := takes_of (X := cxOf (L2.CX P w) P w K mg base ["self", "other"] "Put.__eq__" (defScope s_Put_eq) (He.ma K (He.ga K "Put") "__eq__") cdv A outer s H E) rfl rfl rfl rfl
  apply Exists.intro
  apply Exists.intro
  apply And.intro
  · exact (dss_one (ds_ret (de_and (de_callB call_isi cd_isi rfl (G.n "isinstance" (by decide)) (by decide +kernel) (da_cons (de_var 1) (da_cons (de_glob (v := .ref (He.ga K "Put")) rfl (G.g "Put" (by decide)) rfl (fun _ => .fx _)) da_nil))) (de_one (de_cmp op_eq rd_eqS (de_strO M (hr.mono (by omega)) rfl (G.n "str" (by decide)) (da_cons (de_var 0) da_nil)) (de_strO M (hr.mono (by omega)) rfl (G.n "str" (by decide)) (da_cons (de_var 1) da_nil)) (nomark _))))))
  · intro ds F1 X1 hn h
    obtain ⟨s, e, r, rfl, hc, hok, he, f⟩ := h
    refine ms_at (e := [.dat (objD K s), .dat e]) rfl ?_
    dsimp only [msRet, msRetN, msSeq, msIf, msNext, msExpr, msSet, mtAnd, mtOr, mtNot, mTru, mB, mCB, mCall, maCons, maNil, mVar, mC, mOp, mChain, mIf, mAndV, mOrV, mNotV, mLst, mTup, mMS, gI0, gLen, gEq, gNe, gEqS, gNeS, gIn, gAll, gStrip, truD, start0, dn, mLc, miS, mgName, wipeD, mYes, lcD, List.map_cons, List.map_nil, List.replicate, List.cons_append, List.nil_append, List.getElem?_cons_zero, List.getElem?_cons_succ, List.getElem?_nil, List.append_nil, gLe, gLt, Bool.not_true, Bool.not_false, Bool.false_eq_true, reduceIte, mJoined, mJs, mFmt, maStar, gJoin, mFld, moSome, mSl, gIx, z5]
    rw [← hc]
    refine isi_goal x he (fun t ht hot hct hr => ?_) fun hr => ?_
    · subst ht
      refine str_goal x hok (str_goal x hot ?_)
      rw [hr] at f
      exact f
    · rw [hr] at f
      exact f
theorem sc_Alike_eq : FnScope ["self", "other"] ["self", "other"] (defScope s_Alike_eq) := ⟨rfl, rfl, rfl, by decide +kernel, rfl, by decide +kernel, by decide +kernel⟩
theorem ok_Alike_eq (G : Glo K mg) (c : He.SaysD fa fn K) (x : Exf K) {n : Nat} (M : OwnM P w K mg base (fun C => C ∈ cl10 K) "__str__" (3 * n + 1) 1 (gStrC K n)) : Own1 P w K mg base (He.ga K "Alike") "__eq__" (3 * n + 4) 2 (gEqC K n (He.ga K "Alike")) := by
  obtain ⟨fd, F⟩ := c.defs (d := dfn ("Alike", some "__eq__") "__eq__" "Alike.__eq__" s_Alike_eq) (by unfold fn; simp)
  replace F : FunD K "__eq__" "Alike.__eq__" (defArgs s_Alike_eq) (defBody s_Alike_eq) (defScope s_Alike_eq) [] [] (He.ma K (He.ga K "Alike") "__eq__") fd := F
  have mAlike : He.ga K "Alike" ∈ cl10 K := mem_cl10 (by decide)
  have kC := He.cls_ok (c.facts (f := .cls "Alike") (List.mem_append_right _ (List.mem_append_right _ (by simp))))
  have n_column := He.noat_ok (c.facts (f := .noat "Alike" "column") (List.mem_append_right _ (List.mem_append_right _ (by simp))))
  have n_other := He.noat_ok (c.facts (f := .noat "Alike" "other") (List.mem_append_right _ (List.mem_append_right _ (by simp))))
  refine ⟨_, fd, ["self", "other"], (x.own _ mAlike).eq.1, (x.own _ mAlike).eq.2, F.bindsN fun _ _ _ _ _ _ us hl => match us, hl with | [_, _], _ => rfl, ?_⟩
  have nd : (["self", "other"] : List Str).Nodup := sc_Alike_eq.nd
  apply fn_okE (k := 3 * n + 3) (N := ["self", "other"]) F sc_Alike_eq rfl (by decide)
  intro c cdv A outer s H E hr
  have hu := hr.units
  have tk := takes_of (X := cxOf (L2.CX P w) P w K mg base ["self", "other"] "Alike.__eq__" (defScope s_Alike_eq) (He.ma K (He.ga K "Alike") "__eq__") cdv A outer s H E) rfl rfl rfl rfl
  apply Exists.intro
  apply Exists.intro
  apply And.intro
  · exact (dss_one (ds_ret (de_and (de_callB call_isi cd_isi rfl (G.n "isinstance" (by decide)) (by decide +kernel) (da_cons (de_var 1) (da_cons (de_glob (v := .ref (He.ga K "Alike")) rfl (G.g "Alike" (by decide)) rfl (fun _ => .fx _)) da_nil))) (de_one (de_cmp op_eq rd_eqS (de_strO M (hr.mono (by omega)) rfl (G.n "str" (by decide)) (da_cons (de_var 0) da_nil)) (de_strO M (hr.mono (by omega)) rfl (G.n "str" (by decide)) (da_cons (de_var 1) da_nil)) (nomark _))))))
  · intro ds F1 X1 hn h
    obtain ⟨s, e, r, rfl, hc, hok, he, f⟩ := h
    refine ms_at (e := [.dat (objD K s), .dat e]) rfl ?_
    dsimp only [msRet, msRetN, msSeq, msIf, msNext, msExpr, msSet, mtAnd, mtOr, mtNot, mTru, mB, mCB, mCall, maCons, maNil, mVar, mC, mOp, mChain, mIf, mAndV, mOrV, mNotV, mLst, mTup, mMS, gI0, gLen, gEq, gNe, gEqS, gNeS, gIn, gAll, gStrip, truD, start0, dn, mLc, miS, mgName, wipeD, mYes, lcD, List.map_cons, List.map_nil, List.replicate, List.cons_append, List.nil_append, List.getElem?_cons_zero, List.getElem?_cons_succ, List.getElem?_nil, List.append_nil, gLe, gLt, Bool.not_true, Bool.not_false, Bool.false_eq_true, reduceIte, mJoined, mJs, mFmt, maStar, gJoin, mFld, moSome, mSl, gIx, z5]
    rw [← hc]
    refine isi_goal x he (fun t ht hot hct hr => ?_) fun hr => ?_
    · subst ht
      refine str_goal x hok (str_goal x hot ?_)
      rw [hr] at f
      exact f
    · rw [hr] at f
      exact f
theorem sc_Melt_eq : FnScope ["self", "other"] ["self", "other"] (defScope s_Melt_eq) := ⟨rfl, rfl, rfl, by decide +kernel, rfl, by decide +kernel, by decide +kernel⟩
theorem ok_Melt_eq (G : Glo K mg) (c : He.SaysD fa fn K) (x : Exf K) {n : Nat} (M : OwnM P w K mg base (fun C => C ∈ cl10 K) "__str__" (3 * n + 1) 1 (gStrC K n)) : Own1 P w K mg base (He.ga K "Melt") "__eq__" (3 * n + 4) 2 (gEqC K n (He.ga K "Melt")) := by
  obtain ⟨fd, F⟩ := c.defs (d := dfn ("Melt", some "__eq__") "__eq__" "Melt.__eq__" s_Melt_eq) (by unfold fn; simp)
  replace F : FunD K "__eq__" "Melt.__eq__" (defArgs s_Melt_eq) (defBody s_Melt_eq) (defScope s_Melt_eq) [] [] (He.ma K (He.ga K "Melt") "__eq__") fd := F
  have mMelt : He.ga K "Melt" ∈ cl10 K := mem_cl10 (by decide)
  have kC := He.cls_ok (c.facts (f := .cls "Melt") (List.mem_append_right _ (List.mem_append_right _ (by simp))))
  have n_columns := He.noat_ok (c.facts (f := .noat "Melt" "columns") (List.mem_append_right _ (List.mem_append_right _ (by simp))))
  have n_name := He.noat_ok (c.facts (f := .noat "Melt" "name") (List.mem_append_right _ (List.mem_append_right _ (by simp))))
  have n_value := He.noat_ok (c.facts (f := .noat "Melt" "value") (List.mem_append_right _ (List.mem_append_right _ (by simp))))
  refine ⟨_, fd, ["self", "other"], (x.own _ mMelt).eq.1, (x.own _ mMelt).eq.2, F.bindsN fun _ _ _ _ _ _ us hl => match us, hl with | [_, _], _ => rfl, ?_⟩
  have nd : (["self", "other"] : List Str).Nodup := sc_Melt_eq.nd
  apply fn_okE (k := 3 * n + 3) (N := ["self", "other"]) F sc_Melt_eq rfl (by decide)
  intro c cdv A outer s H E hr
  have hu := hr.units
  have tk := takes_of (X := cxOf (L2.CX P w) P w K mg base ["self", "other"] "Melt.__eq__" (defScope s_Melt_eq) (He.ma K (He.ga K "Melt") "__eq__") cdv A outer s H E) rfl rfl rfl rfl
  apply Exists.intro
  apply Exists.intro
  apply And.intro
  · exact (dss_one (ds_ret (de_and (de_callB call_isi cd_isi rfl (G.n "isinstance" (by decide)) (by decide +kernel) (da_cons (de_var 1) (da_cons (de_glob (v := .ref (He.ga K "Melt")) rfl (G.g "Melt" (by decide)) rfl (fun _ => .fx _)) da_nil))) (de_one (de_cmp op_eq rd_eqS (de_strO M (hr.mono (by omega)) rfl (G.n "str" (by decide)) (da_cons (de_var 0) da_nil)) (de_strO M (hr.mono (by omega)) rfl (G.n "str" (by decide)) (da_cons (de_var 1) da_nil)) (nomark _))))))
  · intro ds F1 X1 hn h
    obtain ⟨s, e, r, rfl, hc, hok, he, f⟩ := h
    refine ms_at (e := [.dat (objD K s), .dat e]) rfl ?_
    dsimp only [msRet, msRetN, msSeq, msIf, msNext, msExpr, msSet, mtAnd, mtOr, mtNot, mTru, mB, mCB, mCall, maCons, maNil, mVar, mC, mOp, mChain, mIf, mAndV, mOrV, mNotV, mLst, mTup, mMS, gI0, gLen, gEq, gNe, gEqS, gNeS, gIn, gAll, gStrip, truD, start0, dn, mLc, miS, mgName, wipeD, mYes, lcD, List.map_cons, List.map_nil, List.replicate, List.cons_append, List.nil_append, List.getElem?_cons_zero, List.getElem?_cons_succ, List.getElem?_nil, List.append_nil, gLe, gLt, Bool.not_true, Bool.not_false, Bool.false_eq_true, reduceIte, mJoined, mJs, mFmt, maStar, gJoin, mFld, moSome, mSl, gIx, z5]
    rw [← hc]
    refine isi_goal x he (fun t ht hot hct hr => ?_) fun hr => ?_
    · subst ht
      refine str_goal x hok (str_goal x hot ?_)
      rw [hr] at f
      exact f
    · rw [hr] at f
      exact f
theorem sc_Pivot_eq : FnScope ["self", "other"] ["self", "other"] (defScope s_Pivot_eq) := ⟨rfl, rfl, rfl, by decide +kernel, rfl, by decide +kernel, by decide +kernel⟩
theorem ok_Pivot_eq (G : Glo K mg) (c : He.SaysD fa fn K) (x : Exf K) {n : Nat} (M : OwnM P w K mg base (fun C => C ∈ cl10 K) "__str__" (3 * n + 1) 1 (gStrC K n)) : Own1 P w K mg base (He.ga K "Pivot") "__eq__" (3 * n + 4) 2 (gEqC K n (He.ga K "Pivot")) := by
  obtain ⟨fd, F⟩ := c.defs (d := dfn ("Pivot", some "__eq__") "__eq__" "Pivot.__eq__" s_Pivot_eq) (by unfold fn; simp)
  replace F : FunD K "__eq__" "Pivot.__eq__" (defArgs s_Pivot_eq) (defBody s_Pivot_eq) (defScope s_Pivot_eq) [] [] (He.ma K (He.ga K "Pivot") "__eq__") fd := F
  have mPivot : He.ga K "Pivot" ∈ cl10 K := mem_cl10 (by decide)
  have kC := He.cls_ok (c.facts (f := .cls "Pivot") (List.mem_append_right _ (List.mem_append_right _ (by simp))))
  have n_by := He.noat_ok (c.facts (f := .noat "Pivot" "by") (List.mem_append_right _ (List.mem_append_right _ (by simp))))
  have n_name := He.noat_ok (c.facts (f := .noat "Pivot" "name") (List.mem_append_right _ (List.mem_append_right _ (by simp))))
  have n_value := He.noat_ok (c.facts (f := .noat "Pivot" "value") (List.mem_append_right _ (List.mem_append_right _ (by simp))))
  have n_heads := He.noat_ok (c.facts (f := .noat "Pivot" "heads") (List.mem_append_right _ (List.mem_append_right _ (by simp))))
  refine ⟨_, fd, ["self", "other"], (x.own _ mPivot).eq.1, (x.own _ mPivot).eq.2, F.bindsN fun _ _ _ _ _ _ us hl => match us, hl with | [_, _], _ => rfl, ?_⟩
  have nd : (["self", "other"] : List Str).Nodup := sc_Pivot_eq.nd
  apply fn_okE (k := 3 * n + 3) (N := ["self", "other"]) F sc_Pivot_eq rfl (by decide)
  intro c cdv A outer s H E hr
  have hu := hr.units
  have tk := takes_of (X := cxOf (L2.CX P w) P w K mg base ["self", "other"] "Pivot.__eq__" (defScope s_Pivot_eq) (He.ma K (He.ga K "Pivot") "__eq__") cdv A outer s H E) rfl rfl rfl rfl
  apply Exists.intro
  apply Exists.intro
  apply And.intro
  · exact (dss_one (ds_ret (de_and (de_callB call_isi cd_isi rfl (G.n "isinstance" (by decide)) (by decide +kernel) (da_cons (de_var 1) (da_cons (de_glob (v := .ref (He.ga K "Pivot")) rfl (G.g "Pivot" (by decide)) rfl (fun _ => .fx _)) da_nil))) (de_one (de_cmp op_eq rd_eqS (de_strO M (hr.mono (by omega)) rfl (G.n "str" (by decide)) (da_cons (de_var 0) da_nil)) (de_strO M (hr.mono (by omega)) rfl (G.n "str" (by decide)) (da_cons (de_var 1) da_nil)) (nomark _))))))
  · intro ds F1 X1 hn h
    obtain ⟨s, e, r, rfl, hc, hok, he, f⟩ := h
    refine ms_at (e := [.dat (objD K s), .dat e]) rfl ?_
    dsimp only [msRet, msRetN, msSeq, msIf, msNext, msExpr, msSet, mtAnd, mtOr, mtNot, mTru, mB, mCB, mCall, maCons, maNil, mVar, mC, mOp, mChain, mIf, mAndV, mOrV, mNotV, mLst, mTup, mMS, gI0, gLen, gEq, gNe, gEqS, gNeS, gIn, gAll, gStrip, truD, start0, dn, mLc, miS, mgName, wipeD, mYes, lcD, List.map_cons, List.map_nil, List.replicate, List.cons_append, List.nil_append, List.getElem?_cons_zero, List.getElem?_cons_succ, List.getElem?_nil, List.append_nil, gLe, gLt, Bool.not_true, Bool.not_false, Bool.false_eq_true, reduceIte, mJoined, mJs, mFmt, maStar, gJoin, mFld, moSome, mSl, gIx, z5]
    rw [← hc]
    refine isi_goal x he (fun t ht hot hct hr => ?_) fun hr => ?_
    · subst ht
      refine str_goal x hok (str_goal x hot ?_)
      rw [hr] at f
      exact f
    · rw [hr] at f
      exact f
theorem sc_Join_eq : FnScope ["self", "other"] ["self", "other"] (defScope s_Join_eq) := ⟨rfl, rfl, rfl, by decide +kernel, rfl, by decide +kernel, by decide +kernel⟩
theorem ok_Join_eq (G : Glo K mg) (c : He.SaysD fa fn K) (x : Exf K) {n : Nat} (M : OwnM P w K mg base (fun C => C ∈ cl10 K) "__str__" (3 * n + 1) 1 (gStrC K n)) : Own1 P w K mg base (He.ga K "Join") "__eq__" (3 * n + 4) 2 (gEqC K n (He.ga K "Join")) := by
  obtain ⟨fd, F⟩ := c.defs (d := dfn ("Join", some "__eq__") "__eq__" "Join.__eq__" s_Join_eq) (by unfold fn; simp)
  replace F : FunD K "__eq__" "Join.__eq__" (defArgs s_Join_eq) (defBody s_Join_eq) (defScope s_Join_eq) [] [] (He.ma K (He.ga K "Join") "__eq__") fd := F
  have mJoin : He.ga K "Join" ∈ cl10 K := mem_cl10 (by decide)
  have kC := He.cls_ok (c.facts (f := .cls "Join") (List.mem_append_right _ (List.mem_append_right _ (by simp))))
  have n_columns := He.noat_ok (c.facts (f := .noat "Join" "columns") (List.mem_append_right _ (List.mem_append_right _ (by simp))))
  have n_steps := He.noat_ok (c.facts (f := .noat "Join" "steps") (List.mem_append_right _ (List.mem_append_right _ (by simp))))
  refine ⟨_, fd, ["self", "other"], (x.own _ mJoin).eq.1, (x.own _ mJoin).eq.2, F.bindsN fun _ _ _ _ _ _ us hl => match us, hl with | [_, _], _ => rfl, ?_⟩
  have nd : (["self", "other"] : List Str).Nodup := sc_Join_eq.nd
  apply fn_okE (k := 3 * n + 3) (N := ["self", "other"]) F sc_Join_eq rfl (by decide)
  intro c cdv A outer s H E hr
  have hu := hr.units
  have tk := takes_of (X := cxOf (L2.CX P w) P w K mg base ["self", "other"] "Join.__eq__" (defScope s_Join_eq) (He.ma K (He.ga K "Join") "__eq__") cdv A outer s H E) rfl rfl rfl rfl
  apply Exists.intro
  apply Exists.intro
  apply And.intro
  · exact (dss_one (ds_ret (de_and (de_callB call_isi cd_isi rfl (G.n "isinstance" (by decide)) (by decide +kernel) (da_cons (de_var 1) (da_cons (de_glob (v := .ref (He.ga K "Join")) rfl (G.g "Join" (by decide)) rfl (fun _ => .fx _)) da_nil))) (de_one (de_cmp op_eq rd_eqS (de_strO M (hr.mono (by omega)) rfl (G.n "str" (by decide)) (da_cons (de_var 0) da_nil)) (de_strO M (hr.mono (by omega)) rfl (G.n "str" (by decide)) (da_cons (de_var 1) da_nil)) (nomark _))))))
  · intro ds F1 X1 hn h
    obtain ⟨s, e, r, rfl, hc, hok, he, f⟩ := h
    refine ms_at (e := [.dat (objD K s), .dat e]) rfl ?_
    dsimp only [msRet, msRetN, msSeq, msIf, msNext, msExpr, msSet, mtAnd, mtOr, mtNot, mTru, mB, mCB, mCall, maCons, maNil, mVar, mC, mOp, mChain, mIf, mAndV, mOrV, mNotV, mLst, mTup, mMS, gI0, gLen, gEq, gNe, gEqS, gNeS, gIn, gAll, gStrip, truD, start0, dn, mLc, miS, mgName, wipeD, mYes, lcD, List.map_cons, List.map_nil, List.replicate, List.cons_append, List.nil_append, List.getElem?_cons_zero, List.getElem?_cons_succ, List.getElem?_nil, List.append_nil, gLe, gLt, Bool.not_true, Bool.not_false, Bool.false_eq_true, reduceIte, mJoined, mJs, mFmt, maStar, gJoin, mFld, moSome, mSl, gIx, z5]
    rw [← hc]
    refine isi_goal x he (fun t ht hot hct hr => ?_) fun hr => ?_
    · subst ht
      refine str_goal x hok (str_goal x hot ?_)
      rw [hr] at f
      exact f
    · rw [hr] at f
      exact f
theorem sc_Stack_eq : FnScope ["self", "other"] ["self", "other"] (defScope s_Stack_eq) := ⟨rfl, rfl, rfl, by decide +kernel, rfl, by decide +kernel, by decide +kernel⟩
theorem ok_Stack_eq (G : Glo K mg) (c : He.SaysD fa fn K) (x : Exf K) {n : Nat} (M : OwnM P w K mg base (fun C => C ∈ cl10 K) "__str__" (3 * n + 1) 1 (gStrC K n)) : Own1 P w K mg base (He.ga K "Stack") "__eq__" (3 * n + 4) 2 (gEqC K n (He.ga K "Stack")) := by
  obtain ⟨fd, F⟩ := c.defs (d := dfn ("Stack", some "__eq__") "__eq__" "Stack.__eq__" s_Stack_eq) (by unfold fn; simp)
  replace F : FunD K "__eq__" "Stack.__eq__" (defArgs s_Stack_eq) (defBody s_Stack_eq) (defScope s_Stack_eq) [] [] (He.ma K (He.ga K "Stack") "__eq__") fd := F
  have mStack : He.ga K "Stack" ∈ cl10 K := mem_cl10 (by decide)
  have kC := He.cls_ok (c.facts (f := .cls "Stack") (List.mem_append_right _ (List.mem_append_right _ (by simp))))
  have n_steps := He.noat_ok (c.facts (f := .noat "Stack" "steps") (List.mem_append_right _ (List.mem_append_right _ (by simp))))
  refine ⟨_, fd, ["self", "other"], (x.own _ mStack).eq.1, (x.own _ mStack).eq.2, F.bindsN fun _ _ _ _ _ _ us hl => match us, hl with | [_, _], _ => rfl, ?_⟩
  have nd : (["self", "other"] : List Str).Nodup := sc_Stack_eq.nd
  apply fn_okE (k := 3 * n + 3) (N := ["self", "other"]) F sc_Stack_eq rfl (by decide)
  intro c cdv A outer s H E hr
  have hu := hr.units
  have tk := takes_of (X := cxOf (L2.CX P w) P w K mg base ["self", "other"] "Stack.__eq__" (defScope s_Stack_eq) (He.ma K (He.ga K "Stack") "__eq__") cdv A outer s H E) rfl rfl rfl rfl
  apply Exists.intro
  apply Exists.intro
  apply And.intro
  · exact (dss_one (ds_ret (de_and (de_callB call_isi cd_isi rfl (G.n "isinstance" (by decide)) (by decide +kernel) (da_cons (de_var 1) (da_cons (de_glob (v := .ref (He.ga K "Stack")) rfl (G.g "Stack" (by decide)) rfl (fun _ => .fx _)) da_nil))) (de_one (de_cmp op_eq rd_eqS (de_strO M (hr.mono (by omega)) rfl (G.n "str" (by decide)) (da_cons (de_var 0) da_nil)) (de_strO M (hr.mono (by omega)) rfl (G.n "str" (by decide)) (da_cons (de_var 1) da_nil)) (nomark _))))))
  · intro ds F1 X1 hn h
    obtain ⟨s, e, r, rfl, hc, hok, he, f⟩ := h
    refine ms_at (e := [.dat (objD K s), .dat e]) rfl ?_
    dsimp only [msRet, msRetN, msSeq, msIf, msNext, msExpr, msSet, mtAnd, mtOr, mtNot, mTru, mB, mCB, mCall, maCons, maNil, mVar, mC, mOp, mChain, mIf, mAndV, mOrV, mNotV, mLst, mTup, mMS, gI0, gLen, gEq, gNe, gEqS, gNeS, gIn, gAll, gStrip, truD, start0, dn, mLc, miS, mgName, wipeD, mYes, lcD, List.map_cons, List.map_nil, List.replicate, List.cons_append, List.nil_append, List.getElem?_cons_zero, List.getElem?_cons_succ, List.getElem?_nil, List.append_nil, gLe, gLt, Bool.not_true, Bool.not_false, Bool.false_eq_true, reduceIte, mJoined, mJs, mFmt, maStar, gJoin, mFld, moSome, mSl, gIx, z5]
    rw [← hc]
    refine isi_goal x he (fun t ht hot hct hr => ?_) fun hr => ?_
    · subst ht
      refine str_goal x hok (str_goal x hot ?_)
      rw [hr] at f
      exact f
    · rw [hr] at f
      exact f
theorem eq_all (G : Glo K mg) (c : He.SaysD fa fn K) (x : Exf K) {n : Nat} (hn : n ≤ 3) : OwnM P w K mg base (fun C => C ∈ cl10 K) "__eq__" (3 * n + 4) 2 (gEqC K n) :=
  ⟨fun C hC => of_mem (p := fun C => Own1 P w K mg base C "__eq__" (3 * n + 4) 2 (gEqC K n C)) hC fun z hz => by
    have M : OwnM P w K mg base (fun C => C ∈ cl10 K) "__str__" (3 * n + 1) 1 (gStrC K n) := str_all G c x n hn
    simp only [cNames, List.mem_cons, List.not_mem_nil, or_false] at hz
    rcases hz with rfl | rfl | rfl | rfl | rfl | rfl | rfl | rfl | rfl | rfl
    · exact ok_Pick_eq G c x M
    · exact ok_Rename_eq G c x M
    · exact ok_Has_eq G c x M
    · exact ok_Is_eq G c x M
    · exact ok_Put_eq G c x M
    · exact ok_Alike_eq G c x M
    · exact ok_Melt_eq G c x M
    · exact ok_Pivot_eq G c x M
    · exact ok_Join_eq G c x M
    · exact ok_Stack_eq G c x M
⟩
end
end K11


set_option Elab.async false
set_option linter.all false
set_option maxRecDepth 100000
set_option maxHeartbeats 4000000
namespace K11
open PySem PySem.Spec PyProof.Rows L2 DL
section
variable {P : Program} {w : World} {K : Fg} {mg : Str → Option Value} {base : Heap}
theorem sc_law_draw : FnScope ["_law_deal_here", "_law_many", "_law_rest"] ["_law_deal_here", "_law_many"] (defScope s_law_draw) := ⟨rfl, rfl, rfl, by decide +kernel, rfl, by decide +kernel, by decide +kernel⟩
theorem ok_law_draw (G : Glo K mg) (c : He.SaysD fa fn K) : Fn P w K mg base "_law_draw" 1 1 true gDraw := by
  obtain ⟨fd, F⟩ := c.defs (d := dfn ("_law_draw", none) "_law_draw" "_law_draw" s_law_draw) (by unfold fn; simp)
  replace F : FunD K "_law_draw" "_law_draw" (defArgs s_law_draw) (defBody s_law_draw) (defScope s_law_draw) [] [] (He.ga K "_law_draw") fd := F
  refine ⟨_, fd, ["_law_deal_here", "_law_many"], F.ok (k := 0) sc_law_draw (fun vs H Q E h => spD_len h) (fun cdv A outer s H vs Q E hr h => ⟨tDraw K, ?_, draw_reads h⟩), G.g "_law_draw" (by decide), F.kp, F.bindsN fun _ _ _ _ _ _ us hl => match us, hl with | [_, _], _ => rfl⟩
  have nd := sc_law_draw.nd
  have hu := hr.units
  have d0 : ∀ {p q p1 : Pos} {j : Nat}, PE (cxOf (L2.CX P w) P w K mg base ["_law_deal_here", "_law_many", "_law_rest"] "_law_draw" (defScope s_law_draw) (He.ga K "_law_draw") cdv A outer s H E) (.Subscript (.Name "_law_deal_here" p) (.Constant (.int 0) j p1) q) (tD0 K) := fun {_ _ _ _} => pe_ix ix_list (pv 0) pe_int (fun _ _ => rfl)
  have d1 : ∀ {p q p1 : Pos} {j : Nat}, PE (cxOf (L2.CX P w) P w K mg base ["_law_deal_here", "_law_many", "_law_rest"] "_law_draw" (defScope s_law_draw) (He.ga K "_law_draw") cdv A outer s H E) (.Subscript (.Name "_law_deal_here" p) (.Constant (.int 1) j p1) q) (tD1 K) := fun {_ _ _ _} => pe_ix ix_list (pv 0) pe_int (fun _ _ => rfl)
  have hI := G.n "int" (by decide)
  exact pss_cons (ps_while (passes_of rfl) (PW.pt (pw_and (pt_cmpR (op_neD hu) d0 (pe_lst pa_nil) (nomark _)) (pw_and1 (pt_cmpR op_eq (pe_ix ix_list d0 (pe_un un_neg pe_int) (fun _ _ => rfl)) pe_int (nomark _))))) (pss_one (ps_expr (pe_bm0 PySem.F.plainAttrs_list slot_pop type_pop mt_pop d0))))
    (pss_cons (ps_if (pt_cmpR (op_neD hu) d0 (pe_lst pa_nil) (nomark _)) (pss_cons (ps_set nd rfl (.inl rfl) (pe_bm0 PySem.F.plainAttrs_list slot_pop type_pop mt_pop d0))
      (pss_cons (ps_expr (pe_bm PySem.F.plainAttrs_list slot_append type_append mt_append d0 (pa_cons (pe_op op_fdiv (pv 2) (pv 1)) pa_nil))) (pss_one (ps_ret (pe_op op_mod (pe_callTy call_int1 rfl hI (by decide +kernel) (pa_cons (pv 2) pa_nil)) (pv 1)))))) pss_nil)
    (pss_cons (ps_asg (pe_op op_mod (pe_callTy call_int1 rfl hI (by decide +kernel) (pa_cons (pe_op op_add (pe_op op_mul d1 pe_int) pe_int) pa_nil)) pe_int) (pg_sub (pv 0) pe_int set_list))
    (pss_one (ps_ret (pe_op op_mod (pe_callTy call_int1 rfl hI (by decide +kernel) (pa_cons (pe_op op_fdiv d1 pe_int) pa_nil)) (pv 1))))))
end
end K11

set_option Elab.async false
set_option linter.all false
set_option maxRecDepth 100000
set_option maxHeartbeats 4000000
namespace K11
open PySem PySem.Spec PyProof.Rows L2 DL
theorem atI_in {l : List D} {r : Int} (h0 : 0 ≤ r) (h1 : r < l.length) (hl : l.length < 1073741824) : ∃ d, L2.atI l r = some d ∧ d ∈ l := by
  obtain ⟨n, rfl⟩ := Int.eq_ofNat_of_zero_le h0
  have hn : n < l.length := by omega
  refine ⟨l[n], ?_, List.getElem_mem hn⟩
  unfold L2.atI
  rw [show L2.ixN l.length (n : Int) = some n from by
    unfold L2.ixN
    rw [if_pos h0, if_pos h1]
    simp]
  exact List.getElem?_eq_getElem hn
def gOneOf : FF := fun ds F _ => ∃ d l, ds = [d] ∧ seqD d = some l ∧ 0 < l.length ∧ l.length < 1073741824 ∧ ∀ e ∈ l, F e
def intsD (ns : List Int) : List D := ns.map D.int
def gDeal : FF := fun ds F _ => ∃ ns : List Int, ns.length ≤ 63 ∧ ds = [.scr (intsD ns), .int 0] ∧ ∀ (ms : List Int) (m : Int), ms.length ≤ 1000 → (∀ n ∈ ms, 0 ≤ n) → 0 ≤ m → m < 2147483647 → F (.lst [.lst (intsD ms), .int m])
def absI (i : Int) : Int := if i < 0 then -i else i
theorem absI_pos (i : Int) : 0 ≤ absI i := by unfold absI; split <;> omega
def absD : D → D
  | .int i => .int (absI i)
  | d => d
def bigD : D → Bool
  | .int i => decide ((10 : Int) ^ 18 ≤ i)
  | _ => false
theorem abs_ints (ns : List Int) : (intsD ns).map absD = intsD (ns.map absI) := by unfold intsD; rw [List.map_map, List.map_map]; rfl
theorem big_ints (ns : List Int) : (intsD ns).filter bigD = intsD (ns.filter fun i => decide ((10 : Int) ^ 18 ≤ i)) := by
  unfold intsD
  rw [List.filter_map]
  rfl
theorem cut_ints (ns : List Int) (lo hi : Option Int) : DL.cutD (intsD ns) lo hi = intsD (DL.cutD ns lo hi) := by
  unfold DL.cutD intsD
  rw [List.length_map, List.map_take, List.map_drop]
theorem cut_len (ns : List Int) (lo hi : Option Int) : (DL.cutD ns lo hi).length ≤ ns.length := by
  unfold DL.cutD
  rw [List.length_take, List.length_drop]
  omega
theorem of_ints {ns : List Int} {d : D} (h : d ∈ intsD ns) : ∃ i, d = .int i ∧ i ∈ ns := by
  obtain ⟨i, h1, h2⟩ := List.mem_map.mp h
  exact ⟨i, h2.symm, h1⟩
def gMixed : FF := fun ds F _ => ∃ d l, ds = [d] ∧ seqD d = some l ∧ l.length < 1000 ∧ ∀ l' : List D, l'.Perm l → F (.lst l')
section
variable {P : Program} {w : World} {K : Fg} {mg : Str → Option Value} {base : Heap}
theorem sc_law_pick : FnScope ["_law_deal_here", "_law_some"] ["_law_deal_here", "_law_some"] (defScope s_law_pick) := ⟨rfl, rfl, rfl, by decide +kernel, rfl, by decide +kernel, by decide +kernel⟩
theorem ok_law_pick (G : Glo K mg) (c : He.SaysD fa fn K) (H_law_draw : Fn P w K mg base "_law_draw" 1 1 true gDraw) : Fn P w K mg base "_law_pick" 2 1 true (gOneOf) := by
  obtain ⟨fd, F⟩ := c.defs (d := dfn ("_law_pick", none) "_law_pick" "_law_pick" s_law_pick) (by unfold fn; simp)
  replace F : FunD K "_law_pick" "_law_pick" (defArgs s_law_pick) (defBody s_law_pick) (defScope s_law_pick) [] [] (He.ga K "_law_pick") fd := F
  refine ⟨_, fd, ["_law_deal_here", "_law_some"], ?_, G.g "_law_pick" (by decide), F.kp, F.bindsN fun _ _ _ _ _ _ us hl => match us, hl with | [_, _], _ => rfl⟩
  have nd : (["_law_deal_here", "_law_some"] : List Str).Nodup := sc_law_pick.nd
  obtain ⟨_, h_LETTERS⟩ := G.hL
  obtain ⟨_, h_LAD⟩ := G.hA
  obtain ⟨_, h_LN⟩ := G.hN
  obtain ⟨_, h_LT⟩ := G.hT
  apply fn_okE (k := 1) (N := ["_law_deal_here", "_law_some"]) F sc_law_pick rfl (by decide)
  intro c cdv A outer s H E hr
  have hu := hr.units
  have tk := takes_of (X := cxOf (L2.CX P w) P w K mg base ["_law_deal_here", "_law_some"] "_law_pick" (defScope s_law_pick) (He.ga K "_law_pick") cdv A outer s H E) rfl rfl rfl rfl
  apply Exists.intro
  apply Exists.intro
  apply And.intro
  · exact (dss_one (ds_ret (de_ix (de_var 1) (de_fL 0 H_law_draw (hr.mono (by decide)) rfl tk (pv 0) (da_cons (de_callB call_len cd_len rfl (G.n "len" (by decide)) (by decide +kernel) (da_cons (de_var 1) da_nil)) da_nil)) (fun _ _ => rfl))))
  · intro ds F1 X1 hn h
    obtain ⟨d, l, rfl, hs, h0, h1, f⟩ := h
    refine ms_at (e := [.deal, .dat d]) rfl ?_
    cases d with
    | lst l2 =>
      cases hs
      simp only [msRet, msRetN, msSeq, msIf, msNext, msExpr, msSet, mtAnd, mtOr, mtNot, mTru, mB, mCB, mCall, maCons, maNil, mVar, mC, mOp, mChain, mIf, mAndV, mOrV, mNotV, mLst, mTup, mMS, gI0, gLen, gEq, gNe, gEqS, gNeS, gIn, gAll, gStrip, truD, start0, dn, mLc, miS, mgName, wipeD, mYes, lcD, List.map_cons, List.map_nil, List.replicate, List.cons_append, List.nil_append, List.getElem?_cons_zero, List.getElem?_cons_succ, List.getElem?_nil, List.append_nil, gLe, gLt, Bool.not_true, Bool.not_false, Bool.false_eq_true, reduceIte, mJoined, mJs, mFmt, maStar, gJoin, mFld, moSome, mSl, gIx, z5, mCallL, miZ, gEqL, gNeL, mIsiT, moNone, gSl, miR1, gAdd, List.set_cons_zero, List.set_cons_succ, decide_true, eq_self, mMake, gRep, gInt, msFor, gAbs, mRev, gGe, gMod, gPow, msPub, mLend, msParOO, msAppPop, msAppO]
      refine ⟨trivial, rfl, _, rfl, by omega, by omega, fun r r0 r1 => ?_⟩
      obtain ⟨e, e1, e2⟩ := atI_in r0 r1 h1
      exact ⟨e, e1, f e e2⟩
    | tup l2 =>
      cases hs
      simp only [msRet, msRetN, msSeq, msIf, msNext, msExpr, msSet, mtAnd, mtOr, mtNot, mTru, mB, mCB, mCall, maCons, maNil, mVar, mC, mOp, mChain, mIf, mAndV, mOrV, mNotV, mLst, mTup, mMS, gI0, gLen, gEq, gNe, gEqS, gNeS, gIn, gAll, gStrip, truD, start0, dn, mLc, miS, mgName, wipeD, mYes, lcD, List.map_cons, List.map_nil, List.replicate, List.cons_append, List.nil_append, List.getElem?_cons_zero, List.getElem?_cons_succ, List.getElem?_nil, List.append_nil, gLe, gLt, Bool.not_true, Bool.not_false, Bool.false_eq_true, reduceIte, mJoined, mJs, mFmt, maStar, gJoin, mFld, moSome, mSl, gIx, z5, mCallL, miZ, gEqL, gNeL, mIsiT, moNone, gSl, miR1, gAdd, List.set_cons_zero, List.set_cons_succ, decide_true, eq_self, mMake, gRep, gInt, msFor, gAbs, mRev, gGe, gMod, gPow, msPub, mLend, msParOO, msAppPop, msAppO]
      refine ⟨trivial, rfl, _, rfl, by omega, by omega, fun r r0 r1 => ?_⟩
      obtain ⟨e, e1, e2⟩ := atI_in r0 r1 h1
      exact ⟨e, e1, f e e2⟩
    | _ => cases hs
theorem sc_law_deal : FnScope ["_law_script", "_law_base", "_law_numbers", "_law_mixed_here", "_law_cell"] ["_law_script", "_law_base"] (defScope s_law_deal) := ⟨rfl, rfl, rfl, by decide +kernel, rfl, by decide +kernel, by decide +kernel⟩
theorem ok_law_deal (G : Glo K mg) (c : He.SaysD fa fn K) : Fn P w K mg base "_law_deal" 1 2 false (gDeal) := by
  obtain ⟨fd, F⟩ := c.defs (d := dfn ("_law_deal", none) "_law_deal" "_law_deal" s_law_deal) (by unfold fn; simp)
  replace F : FunD K "_law_deal" "_law_deal" (defArgs s_law_deal) (defBody s_law_deal) (defScope s_law_deal) [] [] (He.ga K "_law_deal") fd := F
  refine ⟨_, fd, ["_law_script", "_law_base"], ?_, G.g "_law_deal" (by decide), F.kp, F.bindsN fun _ _ _ _ _ _ us hl => match us, hl with | [_, _], _ => rfl⟩
  have nd : (["_law_script", "_law_base", "_law_numbers", "_law_mixed_here", "_law_cell"] : List Str).Nodup := sc_law_deal.nd
  obtain ⟨_, h_LETTERS⟩ := G.hL
  obtain ⟨_, h_LAD⟩ := G.hA
  obtain ⟨_, h_LN⟩ := G.hN
  obtain ⟨_, h_LT⟩ := G.hT
  apply fn_okE (k := 0) (N := ["_law_script", "_law_base", "_law_numbers", "_law_mixed_here", "_law_cell"]) F sc_law_deal rfl (by decide)
  intro c cdv A outer s H E hr
  have hu := hr.units
  have tk := takes_of (X := cxOf (L2.CX P w) P w K mg base ["_law_script", "_law_base", "_law_numbers", "_law_mixed_here", "_law_cell"] "_law_deal" (defScope s_law_deal) (He.ga K "_law_deal") cdv A outer s H E) rfl rfl rfl rfl
  apply Exists.intro
  apply Exists.intro
  apply And.intro
  · exact (dss_cons (ds_setLcF 2 (own := [("_law_cell", 4)]) rfl nd rfl rfl rfl (dic_of (di_seq (de_sl (de_var 0) (do_some (de_var 1)) (do_some de_int)))) (blkOk_by (show blkC ["_law_script", "_law_base", "_law_numbers", "_law_mixed_here", "_law_cell"] (defScope s_law_deal) _ _ = true from by decide +kernel)) (by decide) (fun s H C cl fp => (dg_name 4 nd rfl (by first | exact .inl rfl | exact .inr rfl))) (fun s H C cl fp => dts_nil) (fun s H C cl fp => (de_callB call_abs cd_abs rfl (G.n "abs" (by decide)) (by decide +kernel) (da_cons (de_var 4) da_nil))))
    (dss_cons (ds_set 3 nd rfl (.inl rfl) (de_op op_addA rd_add de_int (de_op op_mulA rd_mul de_int (de_var 1))))
    (dss_cons (ds_for (passes_of rfl) rfl (di_seq (de_var 2)) (dg_name 4 nd rfl (by first | exact .inl rfl | exact .inr rfl)) (dss_one (ds_set 3 nd rfl (.inl rfl) (de_op op_mod rd_mod (de_callTy call_int1 cd_int rfl (G.n "int" (by decide)) (by decide +kernel) (da_cons (de_op op_addA rd_add (de_op op_mulA rd_mul (de_var 3) de_int) (de_op op_mod rd_mod (de_callTy call_int1 cd_int rfl (G.n "int" (by decide)) (by decide +kernel) (da_cons (de_var 4) da_nil)) de_int)) da_nil)) de_int))))
    (dss_one (ds_ret (de_lst (da_cons (de_rev (de_lcF (own := [("_law_cell", 4)]) rfl nd (dic_of (di_seq (de_var 2))) (blkOk_by (show blkC ["_law_script", "_law_base", "_law_numbers", "_law_mixed_here", "_law_cell"] (defScope s_law_deal) _ _ = true from by decide +kernel)) (by decide) (fun s H C cl fp => (dg_name 4 nd rfl (by first | exact .inl rfl | exact .inr rfl))) (fun s H C cl fp => (dts_one (dt_cmp op_ge rd_ge (de_var 4) (de_op op_pow rd_pow de_int de_int) (nomark _)))) (fun s H C cl fp => (de_var 4)))) (da_cons (de_var 3) da_nil))))))))
  · intro ds F1 X1 hn h
    obtain ⟨ns, hl, rfl, f⟩ := h
    refine ms_at (e := [.dat (.scr (intsD ns)), .dat (.int 0), .un, .un, .un]) rfl ?_
    dsimp only [msRet, msRetN, msSeq, msIf, msNext, msExpr, msSet, mtAnd, mtOr, mtNot, mTru, mB, mCB, mCall, maCons, maNil, mVar, mC, mOp, mChain, mIf, mAndV, mOrV, mNotV, mLst, mTup, mMS, gI0, gLen, gEq, gNe, gEqS, gNeS, gIn, gAll, gStrip, truD, start0, dn, mLc, miS, mgName, wipeD, mYes, lcD, List.map_cons, List.map_nil, List.replicate, List.cons_append, List.nil_append, List.getElem?_cons_zero, List.getElem?_cons_succ, List.getElem?_nil, List.append_nil, gLe, gLt, Bool.not_true, Bool.not_false, Bool.false_eq_true, reduceIte, mJoined, mJs, mFmt, maStar, gJoin, mFld, moSome, mSl, gIx, z5, mCallL, miZ, gEqL, gNeL, mIsiT, moNone, gSl, miR1, gAdd, List.set_cons_zero, List.set_cons_succ, decide_true, eq_self, mMake, gRep, gInt, msFor, gAbs, mRev, gGe, gMod, gPow, gI, msPub, mLend, msParOO, msAppPop, msAppO, gDraw]
    generalize hx : DL.cutD (intsD ns) (some 0) (some 60) = xd
    rw [cut_ints] at hx
    subst hx
    have l1 := Nat.le_trans (cut_len ns (some 0) (some 60)) hl
    have l2 : ∀ xs : List Int, xs.length ≤ 63 → (intsD xs).length < sizeLine := fun xs h => by
      unfold intsD
      rw [List.length_map]
      exact Nat.lt_of_le_of_lt h (by decide)
    generalize DL.cutD ns (some 0) (some 60) = xs at l1
    refine ⟨_, rfl, l2 _ l1, ?_⟩
    refine lcD_map (i := 4) (f := absD) _ (fun d hd F' q => ?_) ?_
    · obtain ⟨i, rfl, _⟩ := of_ints hd
      exact q
    rw [abs_ints]
    have l3 : (xs.map absI).length ≤ 63 := by rw [List.length_map]; exact l1
    have p3 : ∀ n ∈ xs.map absI, 0 ≤ n := fun n hn => by
      obtain ⟨i, _, rfl⟩ := List.mem_map.mp hn
      exact absI_pos i
    generalize xs.map absI = ms at l3 p3
    refine ⟨.inr (by decide), _, rfl, ?_⟩
    refine forD_inv (fun δ => ∃ (m : Int) (x : Sl), 0 ≤ m ∧ m < 2147483647 ∧ δ = [.dat (.scr (intsD ns)), .dat (.int 0), .dat (.lst (intsD ms)), .dat (.int m), x]) _ _ (fun d hd δ i k' q => ?_) ⟨_, _, by decide, by decide, rfl⟩ (fun δ i => ?_)
    · obtain ⟨m, x, h1, h2, rfl⟩ := i
      obtain ⟨n, rfl, _⟩ := of_ints hd
      exact ⟨.inr (by decide), (show (0 : Int) < 2147483629 from by decide), (show (0 : Int) < 2147483647 from by decide), q _ ⟨_, _, Int.emod_nonneg _ (by decide), Int.emod_lt_of_pos _ (by decide), rfl⟩⟩
    · obtain ⟨m, x, h1, h2, rfl⟩ := i
      refine ⟨_, rfl, l2 _ l3, ?_⟩
      refine lcD_if (i := 4) (p := bigD) (f := id) _ (fun d hd F' q => ?_) (fun d hd _ F' q => q) ?_
      · obtain ⟨i, rfl, _⟩ := of_ints hd
        exact ⟨⟨by decide, by decide, by decide⟩, q⟩
      · rw [List.map_id, big_ints]
        refine ⟨(show 2 ≤ sizeLine from by decide), ?_⟩
        have e : (intsD (ms.filter fun i => decide ((10 : Int) ^ 18 ≤ i))).reverse = intsD (ms.filter fun i => decide ((10 : Int) ^ 18 ≤ i)).reverse := by unfold intsD; rw [List.map_reverse]
        rw [e]
        refine f _ _ ?_ (fun n hn => p3 n (List.mem_filter.mp (List.mem_reverse.mp hn)).1) h1 h2
        rw [List.length_reverse]
        exact Nat.le_trans (List.length_filter_le _ _) (Nat.le_trans l3 (by decide))
theorem sc_law_mixed : FnScope ["_law_deal_here", "_law_some", "_law_rest", "_law_found", "_law_turn"] ["_law_deal_here", "_law_some"] (defScope s_law_mixed) := ⟨rfl, rfl, rfl, by decide +kernel, rfl, by decide +kernel, by decide +kernel⟩
theorem ok_law_mixed (G : Glo K mg) (c : He.SaysD fa fn K) (H_law_draw : Fn P w K mg base "_law_draw" 1 1 true gDraw) : Fn P w K mg base "_law_mixed" 2 1 true gMixed := by
  obtain ⟨fd, F⟩ := c.defs (d := dfn ("_law_mixed", none) "_law_mixed" "_law_mixed" s_law_mixed) (by unfold fn; simp)
  replace F : FunD K "_law_mixed" "_law_mixed" (defArgs s_law_mixed) (defBody s_law_mixed) (defScope s_law_mixed) [] [] (He.ga K "_law_mixed") fd := F
  refine ⟨_, fd, ["_law_deal_here", "_law_some"], ?_, G.g "_law_mixed" (by decide), F.kp, F.bindsN fun _ _ _ _ _ _ us hl => match us, hl with | [_, _], _ => rfl⟩
  have nd : (["_law_deal_here", "_law_some", "_law_rest", "_law_found", "_law_turn"] : List Str).Nodup := sc_law_mixed.nd
  apply fn_okE (k := 1) (N := ["_law_deal_here", "_law_some", "_law_rest", "_law_found", "_law_turn"]) F sc_law_mixed rfl (by decide)
  intro c cdv A outer s H E hr
  have hu := hr.units
  have tk := takes_of (X := cxOf (L2.CX P w) P w K mg base ["_law_deal_here", "_law_some", "_law_rest", "_law_found", "_law_turn"] "_law_mixed" (defScope s_law_mixed) (He.ga K "_law_mixed") cdv A outer s H E) rfl rfl rfl rfl
  apply Exists.intro
  apply Exists.intro
  apply And.intro
  · exact (dss_cons (ds_parOO 2 3 rfl nd rfl rfl (by decide) rfl rfl (oe_list rfl (G.n "list" (by decide)) (da_cons (de_var 1) da_nil)) (oe_lst da_nil))
      (dss_cons (ds_for (passes_of rfl) rfl (di_range1 rfl (G.n "range" (by decide)) (da_cons (de_lend 2 (de_callB call_len cd_len rfl (G.n "len" (by decide)) (by decide +kernel) (da_cons (de_var 2) da_nil))) da_nil)) (dg_name 4 nd rfl (by first | exact .inl rfl | exact .inr rfl)) (dss_one (ds_appPop 3 2 (by decide) (pv 3) (pv 2) (de_fL 0 H_law_draw (hr.mono (by decide)) rfl tk (pv 0) (da_cons (de_lend 2 (de_callB call_len cd_len rfl (G.n "len" (by decide)) (by decide +kernel) (da_cons (de_var 2) da_nil))) da_nil)))))
      (dss_one (ds_pub 3 (ds_ret (de_var 3))))))
  · intro ds F1 X1 hn h
    obtain ⟨d, l, rfl, hd, hl, f⟩ := h
    refine ms_at (e := [.deal, .dat d, .un, .un, .un]) rfl ?_
    dsimp only [msRet, msRetN, msSeq, msIf, msNext, msExpr, msSet, mtAnd, mtOr, mtNot, mTru, mB, mCB, mCall, maCons, maNil, mVar, mC, mOp, mChain, mIf, mAndV, mOrV, mNotV, mLst, mTup, mMS, gI0, gLen, gEq, gNe, gEqS, gNeS, gIn, gAll, gStrip, truD, start0, dn, mLc, miS, mgName, wipeD, mYes, lcD, List.map_cons, List.map_nil, List.replicate, List.cons_append, List.nil_append, List.getElem?_cons_zero, List.getElem?_cons_succ, List.getElem?_nil, List.append_nil, gLe, gLt, Bool.not_true, Bool.not_false, Bool.false_eq_true, reduceIte, mJoined, mJs, mFmt, maStar, gJoin, mFld, moSome, mSl, gIx, z5, mCallL, miZ, gEqL, gNeL, mIsiT, moNone, gSl, miR1, gAdd, List.set_cons_zero, List.set_cons_succ, decide_true, eq_self, mMake, gRep, gInt, msFor, gAbs, mRev, gGe, gMod, gPow, gI, msPub, mLend, msParOO, msAppPop, msAppO, gDraw]
    refine ⟨d, l, rfl, hd, Nat.zero_le _, rfl, ⟨by omega, by omega, ?_⟩⟩
    have hlen : (rngD 0 (l.length : Int).toNat).length = l.length := by
      unfold rngD
      rw [List.length_map, List.length_range]
      omega
    refine forD_cnt (fun n δ => ∃ rest found x, rest.length = n ∧ (found ++ rest).Perm l ∧ δ = [.deal, .dat d, .own rest, .own found, x]) _ _ (fun e he n δ i k' q => ?_) ⟨l, [], .un, hlen.symm, .refl _, rfl⟩ (fun δ i => ?_)
    · obtain ⟨rest, found, x, h1, h2, rfl⟩ := i
      have h3 := h2.length_eq
      rw [List.length_append] at h3
      refine ⟨trivial, rfl, rfl, (rest.length : Int), rfl, by omega, by omega, fun r r0 r1 => ⟨r0, r1, by omega, by omega, fun y hy => ?_⟩⟩
      obtain ⟨hr, rfl⟩ := List.getElem?_eq_some_iff.mp hy
      refine q _ ⟨rest.eraseIdx r.toNat, found ++ [rest[r.toNat]], _, ?_, ?_, rfl⟩
      · rw [List.length_eraseIdx, if_pos hr]
        omega
      · refine List.Perm.trans ?_ h2
        rw [List.append_assoc]
        exact (perm_at hr).append_left found
    · obtain ⟨rest, found, x, h1, h2, rfl⟩ := i
      cases List.length_eq_zero_iff.mp h1
      rw [List.append_nil] at h2
      exact f found h2
end
end K11

set_option Elab.async false
set_option linter.all false
set_option maxRecDepth 100000
set_option maxHeartbeats 4000000
namespace K11
open PySem PySem.Spec PyProof.Rows L2 DL
def LETS : Str := "abcdefghijklmnopqrstuvwxyz"
def letD (j : Int) : Str := ⟨#[97 + j.toNat]⟩
theorem lets_all : ((List.range 26).all fun n => L2.atI LETS.cps.toList (n : Int) == some (97 + n)) = true := by decide +kernel
theorem let_at {j : Int} (h0 : 0 ≤ j) (h1 : j < 26) : L2.atI LETS.cps.toList j = some (97 + j.toNat) := by
  obtain ⟨n, rfl⟩ := Int.eq_ofNat_of_zero_le h0
  have := List.all_eq_true.mp lets_all n (List.mem_range.mpr (by omega))
  exact beq_iff_eq.mp this
def wordsC : List Str := ["id", "n", "v", "put", "has", "is", "melt", "pick", "join", "zzzz"]
def poolC : List Str := (List.range 26).map (fun (n : Nat) => letD (n : Int)) ++ ([("kk" : Str), ("kkk" : Str), ("kkkk" : Str)] ++ wordsC)
def colA (spot : Int) (i : Nat) : Str := letD ((spot + 5 * (0 + (i : Int))) % 26)
def colB (i : Nat) : Str := if 0 + (i : Int) < 4 then cutS "kkkk" none (some (0 + (i : Int) + 1)) else "x"
def colW (spot : Int) (i : Nat) : Str := wordsC.getD ((spot + 3 * (0 + (i : Int))) % 10).toNat ""
def ColsOk (n : Nat) (cs : List Str) : Prop := cs.length = n ∧ cs.Nodup ∧ ∀ x ∈ cs, x ∈ poolC
def colsB (n : Nat) (cs : List Str) : Bool := decide (cs.length = n) && (decide cs.Nodup && cs.all fun x => decide (x ∈ poolC))
theorem colsB_ok {n : Nat} {cs : List Str} (h : colsB n cs = true) : ColsOk n cs := by
  obtain ⟨h1, h2⟩ := b2 h
  obtain ⟨h2, h3⟩ := b2 h2
  exact ⟨of_decide_eq_true h1, of_decide_eq_true h2, fun x hx => of_decide_eq_true (List.all_eq_true.mp h3 x hx)⟩
theorem all_cols : ((List.range 4).all fun m => (List.range 26).all fun s => colsB (m + 2) ((List.range (m + 2)).map (colA (s : Int))) && (colsB (m + 2) ((List.range (m + 2)).map colB) && colsB (m + 2) ((List.range (m + 2)).map (colW (s : Int))))) = true := by decide +kernel
theorem cols_ok {s : Int} {m : Nat} (h0 : 0 ≤ s) (h1 : s < 26) (m0 : 2 ≤ m) (m1 : m ≤ 5) : ColsOk m ((List.range m).map (colA s)) ∧ ColsOk m ((List.range m).map colB) ∧ ColsOk m ((List.range m).map (colW s)) := by
  obtain ⟨n, rfl⟩ := Int.eq_ofNat_of_zero_le h0
  have h := List.all_eq_true.mp (List.all_eq_true.mp all_cols (m - 2) (List.mem_range.mpr (by omega))) n (List.mem_range.mpr (by omega))
  rw [show m - 2 + 2 = m by omega] at h
  obtain ⟨q1, q2⟩ := b2 h
  obtain ⟨q2, q3⟩ := b2 q2
  exact ⟨colsB_ok q1, colsB_ok q2, colsB_ok q3⟩
theorem strs_of_map {α : Type} (g : α → Str) (l : List α) : D.lst (l.map fun i => D.str (g i)) = strsL (l.map g) := by
  unfold strsL
  rw [List.map_map]
  rfl
def gColumns : FF := fun ds F _ => ∃ m : Int, ds = [.int m] ∧ 2 ≤ m ∧ m ≤ 5 ∧ ∀ cs, ColsOk m.toNat cs → F (strsL cs)
theorem mem_rng {m : Int} {s : Nat} (h : s ∈ List.range m.toNat) : (s : Int) < m := by
  have := List.mem_range.mp h
  omega
theorem words_all : ((List.range 10).all fun n => (match L2.atI (wordsC.map D.str) (n : Int) with
  | some (.str z) => decide (z = wordsC.getD n "")
  | _ => false)) = true := by decide +kernel
theorem word_at {j : Int} (h0 : 0 ≤ j) (h1 : j < 10) : L2.atI (wordsC.map D.str) j = some (.str (wordsC.getD j.toNat "")) := by
  obtain ⟨n, rfl⟩ := Int.eq_ofNat_of_zero_le h0
  have := List.all_eq_true.mp words_all n (List.mem_range.mpr (by omega))
  split at this
  · rename_i z e
    rw [e, of_decide_eq_true this]
    rfl
  · cases this
section
variable {P : Program} {w : World} {K : Fg} {mg : Str → Option Value} {base : Heap}
theorem sc_law_columns : FnScope ["_law_deal_here", "_law_many", "_law_form", "_law_spot", "_law_letters", "_law_found", "_law_k", "_law_words"] ["_law_deal_here", "_law_many"] (defScope s_law_columns) := ⟨rfl, rfl, rfl, by decide +kernel, rfl, by decide +kernel, by decide +kernel⟩
theorem ok_law_columns (G : Glo K mg) (c : He.SaysD fa fn K) (H_law_draw : Fn P w K mg base "_law_draw" 1 1 true gDraw) : Fn P w K mg base "_law_columns" 2 1 true (gColumns) := by
  obtain ⟨fd, F⟩ := c.defs (d := dfn ("_law_columns", none) "_law_columns" "_law_columns" s_law_columns) (by unfold fn; simp)
  replace F : FunD K "_law_columns" "_law_columns" (defArgs s_law_columns) (defBody s_law_columns) (defScope s_law_columns) [] [] (He.ga K "_law_columns") fd := F
  refine ⟨_, fd, ["_law_deal_here", "_law_many"], ?_, G.g "_law_columns" (by decide), F.kp, F.bindsN fun _ _ _ _ _ _ us hl => match us, hl with | [_, _], _ => rfl⟩
  have nd : (["_law_deal_here", "_law_many", "_law_form", "_law_spot", "_law_letters", "_law_found", "_law_k", "_law_words"] : List Str).Nodup := sc_law_columns.nd
  obtain ⟨_, h_LETTERS⟩ := G.hL
  obtain ⟨_, h_LAD⟩ := G.hA
  obtain ⟨_, h_LN⟩ := G.hN
  obtain ⟨_, h_LT⟩ := G.hT
  apply fn_okE (k := 1) (N := ["_law_deal_here", "_law_many", "_law_form", "_law_spot", "_law_letters", "_law_found", "_law_k", "_law_words"]) F sc_law_columns rfl (by decide)
  intro c cdv A outer s H E hr
  have hu := hr.units
  have tk := takes_of (X := cxOf (L2.CX P w) P w K mg base ["_law_deal_here", "_law_many", "_law_form", "_law_spot", "_law_letters", "_law_found", "_law_k", "_law_words"] "_law_columns" (defScope s_law_columns) (He.ga K "_law_columns") cdv A outer s H E) rfl rfl rfl rfl
  apply Exists.intro
  apply Exists.intro
  apply And.intro
  · exact (dss_cons (ds_asg (de_tup (da_cons (de_fL 0 H_law_draw (hr.mono (by decide)) rfl tk (pv 0) (da_cons de_int da_nil)) (da_cons (de_fL 0 H_law_draw (hr.mono (by decide)) rfl tk (pv 0) (da_cons de_int da_nil)) da_nil))) (dg_tup rfl (dgs_cons (dg_name 2 nd rfl (by first | exact .inl rfl | exact .inr rfl)) (dgs_cons (dg_name 3 nd rfl (by first | exact .inl rfl | exact .inr rfl)) dgs_nil))))
    (dss_cons (ds_set 4 nd rfl (by first | exact .inl rfl | exact .inr rfl) de_str)
    (dss_cons (ds_setLcF 5 (own := [("_law_k", 6)]) rfl nd rfl rfl rfl (dic_of (di_range1 rfl (G.n "range" (by decide)) (da_cons (de_var 1) da_nil))) (blkOk_by (show blkC ["_law_deal_here", "_law_many", "_law_form", "_law_spot", "_law_letters", "_law_found", "_law_k", "_law_words"] (defScope s_law_columns) _ _ = true from by decide +kernel)) (by decide) (fun s H C cl fp => (dg_name 6 nd rfl (by first | exact .inl rfl | exact .inr rfl))) (fun s H C cl fp => dts_nil) (fun s H C cl fp => (de_ix (de_var 4) (de_op op_mod rd_mod (de_callTy call_int1 cd_int rfl (G.n "int" (by decide)) (by decide +kernel) (da_cons (de_op op_addA rd_add (de_var 3) (de_op op_mulA rd_mul de_int (de_var 6))) da_nil)) de_int) (fun _ _ => rfl))))
    (dss_cons (ds_if (dt_cmp op_eq rd_eqS (de_var 2) de_int (nomark _)) (dss_one (ds_setLcF 5 (own := [("_law_k", 6)]) rfl nd rfl rfl rfl (dic_of (di_range1 rfl (G.n "range" (by decide)) (da_cons (de_var 1) da_nil))) (blkOk_by (show blkC ["_law_deal_here", "_law_many", "_law_form", "_law_spot", "_law_letters", "_law_found", "_law_k", "_law_words"] (defScope s_law_columns) _ _ = true from by decide +kernel)) (by decide) (fun s H C cl fp => (dg_name 6 nd rfl (by first | exact .inl rfl | exact .inr rfl))) (fun s H C cl fp => dts_nil) (fun s H C cl fp => (de_if (dt_cmp op_lt rd_lt (de_var 6) de_int (nomark _)) (de_sl de_str do_none (do_some (de_op op_addA rd_add (de_var 6) de_int))) (de_ix de_str (de_op op_sub rd_sub (de_var 6) de_int) (fun _ _ => rfl)))))) dss_nil)
    (dss_cons (ds_if (dt_cmp op_eq rd_eqS (de_var 2) de_int (nomark _)) (dss_cons (ds_set 7 nd rfl (by first | exact .inl rfl | exact .inr rfl) (de_lst (da_cons de_str (da_cons de_str (da_cons de_str (da_cons de_str (da_cons de_str (da_cons de_str (da_cons de_str (da_cons de_str (da_cons de_str (da_cons de_str da_nil))))))))))))
    (dss_one (ds_setLcF 5 (own := [("_law_k", 6)]) rfl nd rfl rfl rfl (dic_of (di_range1 rfl (G.n "range" (by decide)) (da_cons (de_var 1) da_nil))) (blkOk_by (show blkC ["_law_deal_here", "_law_many", "_law_form", "_law_spot", "_law_letters", "_law_found", "_law_k", "_law_words"] (defScope s_law_columns) _ _ = true from by decide +kernel)) (by decide) (fun s H C cl fp => (dg_name 6 nd rfl (by first | exact .inl rfl | exact .inr rfl))) (fun s H C cl fp => dts_nil) (fun s H C cl fp => (de_ix (de_var 7) (de_op op_mod rd_mod (de_callTy call_int1 cd_int rfl (G.n "int" (by decide)) (by decide +kernel) (da_cons (de_op op_addA rd_add (de_var 3) (de_op op_mulA rd_mul de_int (de_var 6))) da_nil)) de_int) (fun _ _ => rfl)))))) dss_nil)
    (dss_one (ds_ret (de_var 5))))))))
  · intro ds F1 X1 hn h
    obtain ⟨m, rfl, m0, m1, f⟩ := h
    refine ms_at (e := [.deal, .dat (.int m), .un, .un, .un, .un, .un, .un]) rfl ?_
    dsimp only [msRet, msRetN, msSeq, msIf, msNext, msExpr, msSet, mtAnd, mtOr, mtNot, mTru, mB, mCB, mCall, maCons, maNil, mVar, mC, mOp, mChain, mIf, mAndV, mOrV, mNotV, mLst, mTup, mMS, gI0, gLen, gEq, gNe, gEqS, gNeS, gIn, gAll, gStrip, truD, start0, dn, mLc, miS, mgName, wipeD, mYes, lcD, List.map_cons, List.map_nil, List.replicate, List.cons_append, List.nil_append, List.getElem?_cons_zero, List.getElem?_cons_succ, List.getElem?_nil, List.append_nil, gLe, gLt, Bool.not_true, Bool.not_false, Bool.false_eq_true, reduceIte, mJoined, mJs, mFmt, maStar, gJoin, mFld, moSome, mSl, gIx, z5, mCallL, miZ, gEqL, gNeL, mIsiT, moNone, gSl, miR1, gAdd, List.set_cons_zero, List.set_cons_succ, decide_true, eq_self, mMake, gRep, gInt, msFor, gAbs, mRev, gGe, gMod, gPow, gI, msPub, mLend, msParOO, msAppPop, msAppO, gDraw, msPar, msPar3, msAsg, mgTup, mgCons, mgNil, DL.gSub, mNeg, gMin, gSl]
    refine ⟨trivial, rfl, 3, rfl, by decide, by decide, fun r r0 r1 => ⟨trivial, rfl, 26, rfl, by decide, by decide, fun s s0 s1 => ?_⟩⟩
    obtain ⟨k1, k2, k3⟩ := cols_ok (m := m.toNat) s0 s1 (by omega) (by omega)
    have lr : (rngD 0 m.toNat).length < sizeLine := by
      unfold rngD
      rw [List.length_map, List.length_range]
      exact Nat.lt_of_le_of_lt (by omega : m.toNat ≤ 5) (by decide)
    refine ⟨(show 2 ≤ sizeLine from by decide), rfl, by omega, by omega, lr, ?_⟩
    refine lcD_mapA (fun (i : Nat) => D.int (0 + (i : Int))) (fun i => D.str (colA s i)) (List.range m.toNat) [] (fun i hi F' q => ?_) ?_
    · exact ⟨.inl ⟨by decide, by decide⟩, (show (0 : Int) < 26 from by decide), (show 26 ≤ sizeLine from by decide), _, let_at (Int.emod_nonneg _ (by decide)) (Int.emod_lt_of_pos _ (by decide)), q⟩
    by_cases e1 : r = 1
    · rw [decide_eq_true e1]
      refine iteT ⟨by omega, by omega, lr, ?_⟩
      refine lcD_mapA (fun (i : Nat) => D.int (0 + (i : Int))) (fun i => D.str (colB i)) (List.range m.toNat) [] (fun i hi F' q => ?_) ?_
      · have hi := mem_rng hi
        show (if decide ((0 : Int) + (i : Int) < 4) = true then _ else _)
        by_cases h4 : (0 : Int) + (i : Int) < 4
        · have e : colB i = cutS "kkkk" none (some (0 + (i : Int) + 1)) := if_pos h4
          rw [decide_eq_true h4]
          refine iteT ⟨(show 4 ≤ sizeLine from by decide), ?_⟩
          rw [e] at q
          exact q
        · have e : colB i = "x" := if_neg h4
          rw [decide_eq_false h4]
          have hi4 : (0 : Int) + (i : Int) - 4 = 0 := by omega
          refine iteF ?_
          rw [e] at q
          refine ⟨(show 3 ≤ sizeLine from by decide), 120, ?_, q⟩
          rw [hi4]
          rfl
      · have e2 : ¬ r = 2 := by omega
        rw [decide_eq_false e2]
        refine iteF ?_
        rw [List.nil_append, strs_of_map]
        exact f _ k2
    · rw [decide_eq_false e1]
      refine iteF ?_
      by_cases e2 : r = 2
      · rw [decide_eq_true e2]
        refine iteT ?_
        refine ⟨(show 10 ≤ sizeLine from by decide), by omega, by omega, lr, ?_⟩
        refine lcD_mapA (fun (i : Nat) => D.int (0 + (i : Int))) (fun i => D.str (colW s i)) (List.range m.toNat) [] (fun i hi F' q => ?_) ?_
        · exact ⟨.inl ⟨by decide, by decide⟩, (show (0 : Int) < 10 from by decide), _, word_at (Int.emod_nonneg _ (by decide)) (Int.emod_lt_of_pos _ (by decide)), q⟩
        · rw [List.nil_append, strs_of_map]
          exact f _ k3
      · rw [decide_eq_false e2]
        refine iteF ?_
        rw [List.nil_append, strs_of_map]
        exact f _ k1
end
end K11

set_option Elab.async false
set_option linter.all false
set_option maxRecDepth 100000
set_option maxHeartbeats 4000000
namespace K11
open PySem PySem.Spec PyProof.Rows L2 DL
/-! ### texts -/
def poolT : List Str := ["1", "2", "01", "a", "zz9zz9", "id", "n", "10", "x1", "kk"]
theorem strs_at {xs : List Str} {j : Int} (h0 : 0 ≤ j) (h1 : j < xs.length) : L2.atI (xs.map D.str) j = some (.str (xs.getD j.toNat "")) := by
  obtain ⟨n, rfl⟩ := Int.eq_ofNat_of_zero_le h0
  have hn : n < xs.length := by omega
  unfold L2.atI
  rw [List.length_map, show L2.ixN xs.length (n : Int) = some n from by
    unfold L2.ixN
    rw [if_pos h0, if_pos h1]
    simp]
  show (xs.map D.str)[n]? = _
  rw [List.getElem?_map, List.getElem?_eq_getElem hn, List.getD_eq_getElem?_getD, show (n : Int).toNat = n from rfl, List.getElem?_eq_getElem hn]
  rfl
theorem strs_in {xs : List Str} {j : Int} (h0 : 0 ≤ j) (h1 : j < xs.length) : xs.getD j.toNat "" ∈ xs := by
  have hn : j.toNat < xs.length := by omega
  rw [List.getD_eq_getElem?_getD, List.getElem?_eq_getElem hn]
  exact List.getElem_mem hn
def TxsOk (ts : List Str) : Prop := ts.length = 3 ∧ ∀ x ∈ ts, x ∈ poolT
def gTexts : FF := fun ds F _ => ds = [.int 3] ∧ ∀ ts, TxsOk ts → F (strsL ts)
def txA (spot : Int) (i : Nat) : Str := poolT.getD ((spot + 3 * (0 + (i : Int))) % 10).toNat ""
/-! ### heads -/
def enumN : Nat → List Str → List (Nat × Str)
  | _, [] => []
  | k, x :: r => (k, x) :: enumN (k + 1) r
def pairN (p : Nat × Str) : D := .tup [.int (p.1 : Int), .str p.2]
theorem enumD_strs : ∀ (xs : List Str) (k : Nat), enumD k (xs.map D.str) = (enumN k xs).map pairN
  | [], _ => rfl
  | x :: xs, k => by
    show _ :: enumD (k + 1) (xs.map D.str) = _ :: (enumN (k + 1) xs).map pairN
    rw [enumD_strs xs (k + 1)]
    rfl
theorem enumN_len : ∀ (xs : List Str) (k : Nat), (enumN k xs).length = xs.length
  | [], _ => rfl
  | x :: xs, k => congrArg Nat.succ (enumN_len xs (k + 1))
theorem enumN_lt : ∀ (xs : List Str) (k : Nat) {p : Nat × Str}, p ∈ enumN k xs → k ≤ p.1 ∧ p.1 < k + xs.length ∧ p.2 ∈ xs
  | [], _, _, h => nomatch h
  | x :: xs, k, p, h => by
    rcases List.mem_cons.mp h with rfl | h
    · exact ⟨Nat.le_refl _, by show k < k + (xs.length + 1); omega, List.mem_cons_self ..⟩
    · obtain ⟨h1, h2, h3⟩ := enumN_lt xs (k + 1) h
      exact ⟨by omega, by show p.1 < k + (xs.length + 1); omega, List.mem_cons_of_mem _ h3⟩
def keepH (all : List Str) (p : Nat × Str) : Bool := decide (p.2.length < 5) && !decide (p.2 ∈ all.take p.1)
def ddH (all : List Str) (k : Nat) (xs : List Str) : List Str := ((enumN k xs).filter (keepH all)).map (·.2)
theorem ddH_mem {all : List Str} : ∀ {xs : List Str} {k : Nat} {x : Str}, x ∈ ddH all k xs → x ∈ xs ∧ x.length < 5 := fun {xs k x} h => by
  obtain ⟨p, hp, rfl⟩ := List.mem_map.mp h
  obtain ⟨h1, h2⟩ := List.mem_filter.mp hp
  exact ⟨(enumN_lt xs k h1).2.2, of_decide_eq_true (b2 h2).1⟩
theorem ddH_ok : ∀ (xs pre : List Str), (ddH (pre ++ xs) pre.length xs).Nodup ∧ (∀ x ∈ ddH (pre ++ xs) pre.length xs, x ∉ pre) ∧ (∀ x ∈ xs, x ∉ pre → x.length < 5 → x ∈ ddH (pre ++ xs) pre.length xs)
  | [], pre => ⟨.nil, (fun _ h => nomatch h), fun _ h => nomatch h⟩
  | y :: xs, pre => by
    obtain ⟨i1, i2, i3⟩ := ddH_ok xs (pre ++ [y])
    rw [List.length_append, List.append_assoc] at i1 i2 i3
    have i1 : (ddH (pre ++ y :: xs) (pre.length + 1) xs).Nodup := i1
    have i2 : ∀ x ∈ ddH (pre ++ y :: xs) (pre.length + 1) xs, x ∉ pre ++ [y] := i2
    have i3 : ∀ x ∈ xs, x ∉ pre ++ [y] → x.length < 5 → x ∈ ddH (pre ++ y :: xs) (pre.length + 1) xs := i3
    have e : ddH (pre ++ y :: xs) pre.length (y :: xs) = if keepH (pre ++ y :: xs) (pre.length, y) = true then y :: ddH (pre ++ y :: xs) (pre.length + 1) xs else ddH (pre ++ y :: xs) (pre.length + 1) xs := by
      show (((pre.length, y) :: enumN (pre.length + 1) xs).filter _).map _ = _
      cases h : keepH (pre ++ y :: xs) (pre.length, y) with
      | true =>
        rw [List.filter_cons_of_pos h, if_pos rfl, List.map_cons]
        rfl
      | false =>
        rw [List.filter_cons_of_neg (by rw [h]; decide), if_neg (by decide)]
        rfl
    have ek : keepH (pre ++ y :: xs) (pre.length, y) = (decide (y.length < 5) && !decide (y ∈ pre)) := by
      show (decide (y.length < 5) && !decide (y ∈ (pre ++ y :: xs).take pre.length)) = _
      rw [List.take_append_of_le_length (Nat.le_refl _), List.take_length]
    rw [e]
    split
    · rename_i h
      rw [ek] at h
      obtain ⟨h1, h2⟩ := b2 h
      have h2 : y ∉ pre := fun z => by rw [decide_eq_true z] at h2; cases h2
      refine ⟨List.nodup_cons.mpr ⟨fun z => i2 y z (List.mem_append_right _ (List.mem_singleton.mpr rfl)), i1⟩, fun x hx => ?_, fun x hx hn hl => ?_⟩
      · rcases List.mem_cons.mp hx with rfl | hx
        · exact h2
        · exact fun z => i2 x hx (List.mem_append_left _ z)
      · rcases List.mem_cons.mp hx with rfl | hx
        · exact List.mem_cons_self ..
        · by_cases q : x = y
          · subst q
            exact List.mem_cons_self ..
          · exact List.mem_cons_of_mem _ (i3 x hx (fun z => by
              rcases List.mem_append.mp z with z | z
              · exact hn z
              · exact q (List.mem_singleton.mp z)) hl)
    · rename_i h
      rw [ek] at h
      refine ⟨i1, fun x hx z => i2 x hx (List.mem_append_left _ z), fun x hx hn hl => ?_⟩
      have q : x ≠ y := fun q => by
        subst q
        apply h
        rw [decide_eq_true hl, decide_eq_false hn]
        rfl
      rcases List.mem_cons.mp hx with z | hx
      · exact absurd z q
      · exact i3 x hx (fun z => by
          rcases List.mem_append.mp z with z | z
          · exact hn z
          · exact q (List.mem_singleton.mp z)) hl
def five : List Str := ["1", "2", "01", "10", "x1"]
def poolH : List Str := ["a", "id", "n", "kk", "may"]
def HdsOk (bs hs : List Str) : Prop := 1 ≤ hs.length ∧ hs.length ≤ 3 ∧ hs.Nodup ∧ ∀ x ∈ hs, x ∈ poolH ∧ x ∉ bs
def gHeads : FF := fun ds F _ => ∃ ts bs, ds = [strsL ts, strsL bs] ∧ TxsOk ts ∧ ("may" : Str) ∉ bs ∧ ∀ hs, HdsOk bs hs → F (strsL hs)
def keepB (bs : List Str) (x : Str) : Bool := !decide (x ∈ bs) && !decide (x ∈ five)
def maid : List Str := ["may", "a", "id"]
theorem len_pool : (poolT ++ maid).all (fun x => decide (x.length ≤ sizeLine) && (decide (x ∈ five) || (decide (5 ≤ x.length) || decide (x ∈ poolH)))) = true := by decide +kernel
section
variable {P : Program} {w : World} {K : Fg} {mg : Str → Option Value} {base : Heap}
theorem sc_law_texts : FnScope ["_law_deal_here", "_law_many", "_law_some", "_law_spot", "_law_k"] ["_law_deal_here", "_law_many"] (defScope s_law_texts) := ⟨rfl, rfl, rfl, by decide +kernel, rfl, by decide +kernel, by decide +kernel⟩
theorem ok_law_texts (G : Glo K mg) (c : He.SaysD fa fn K) (H_law_draw : Fn P w K mg base "_law_draw" 1 1 true gDraw) : Fn P w K mg base "_law_texts" 2 1 true (gTexts) := by
  obtain ⟨fd, F⟩ := c.defs (d := dfn ("_law_texts", none) "_law_texts" "_law_texts" s_law_texts) (by unfold fn; simp)
  replace F : FunD K "_law_texts" "_law_texts" (defArgs s_law_texts) (defBody s_law_texts) (defScope s_law_texts) [] [] (He.ga K "_law_texts") fd := F
  refine ⟨_, fd, ["_law_deal_here", "_law_many"], ?_, G.g "_law_texts" (by decide), F.kp, F.bindsN fun _ _ _ _ _ _ us hl => match us, hl with | [_, _], _ => rfl⟩
  have nd : (["_law_deal_here", "_law_many", "_law_some", "_law_spot", "_law_k"] : List Str).Nodup := sc_law_texts.nd
  obtain ⟨_, h_LETTERS⟩ := G.hL
  obtain ⟨_, h_LAD⟩ := G.hA
  obtain ⟨_, h_LN⟩ := G.hN
  obtain ⟨_, h_LT⟩ := G.hT
  apply fn_okE (k := 1) (N := ["_law_deal_here", "_law_many", "_law_some", "_law_spot", "_law_k"]) F sc_law_texts rfl (by decide)
  intro c cdv A outer s H E hr
  have hu := hr.units
  have tk := takes_of (X := cxOf (L2.CX P w) P w K mg base ["_law_deal_here", "_law_many", "_law_some", "_law_spot", "_law_k"] "_law_texts" (defScope s_law_texts) (He.ga K "_law_texts") cdv A outer s H E) rfl rfl rfl rfl
  apply Exists.intro
  apply Exists.intro
  apply And.intro
  · exact (dss_cons (ds_set 2 nd rfl (by first | exact .inl rfl | exact .inr rfl) (de_lst (da_cons de_str (da_cons de_str (da_cons de_str (da_cons de_str (da_cons de_str (da_cons de_str (da_cons de_str (da_cons de_str (da_cons de_str (da_cons de_str da_nil))))))))))))
    (dss_cons (ds_set 3 nd rfl (by first | exact .inl rfl | exact .inr rfl) (de_fL 0 H_law_draw (hr.mono (by decide)) rfl tk (pv 0) (da_cons de_int da_nil)))
    (dss_one (ds_ret (de_lcF (own := [("_law_k", 4)]) rfl nd (dic_of (di_range1 rfl (G.n "range" (by decide)) (da_cons (de_var 1) da_nil))) (blkOk_by (show blkC ["_law_deal_here", "_law_many", "_law_some", "_law_spot", "_law_k"] (defScope s_law_texts) _ _ = true from by decide +kernel)) (by decide) (fun s H C cl fp => (dg_name 4 nd rfl (by first | exact .inl rfl | exact .inr rfl))) (fun s H C cl fp => dts_nil) (fun s H C cl fp => (de_ix (de_var 2) (de_op op_mod rd_mod (de_callTy call_int1 cd_int rfl (G.n "int" (by decide)) (by decide +kernel) (da_cons (de_op op_addA rd_add (de_var 3) (de_op op_mulA rd_mul de_int (de_var 4))) da_nil)) de_int) (fun _ _ => rfl))))))))
  · intro ds F1 X1 hn h
    obtain ⟨rfl, f⟩ := h
    refine ms_at (e := [.deal, .dat (.int 3), .un, .un, .un]) rfl ?_
    dsimp only [msRet, msRetN, msSeq, msIf, msNext, msExpr, msSet, mtAnd, mtOr, mtNot, mTru, mB, mCB, mCall, maCons, maNil, mVar, mC, mOp, mChain, mIf, mAndV, mOrV, mNotV, mLst, mTup, mMS, gI0, gLen, gEq, gNe, gEqS, gNeS, gIn, gAll, gStrip, truD, start0, dn, mLc, miS, mgName, wipeD, mYes, lcD, List.map_cons, List.map_nil, List.replicate, List.cons_append, List.nil_append, List.getElem?_cons_zero, List.getElem?_cons_succ, List.getElem?_nil, List.append_nil, gLe, gLt, Bool.not_true, Bool.not_false, Bool.false_eq_true, reduceIte, mJoined, mJs, mFmt, maStar, gJoin, mFld, moSome, mSl, gIx, z5, mCallL, miZ, gEqL, gNeL, mIsiT, moNone, gSl, miR1, gAdd, List.set_cons_zero, List.set_cons_succ, decide_true, eq_self, mMake, gRep, gInt, msFor, gAbs, mRev, gGe, gMod, gPow, gI, msPub, mLend, msParOO, msAppPop, msAppO, gDraw, msPar, msPar3, msAsg, mgTup, mgCons, mgNil, DL.gSub, mNeg, gMin, gSl, miEnum]
    refine ⟨(show 10 ≤ sizeLine from by decide), trivial, rfl, 10, rfl, by decide, by decide, fun s s0 s1 => ?_⟩
    refine ⟨by decide, by decide, (show 3 < sizeLine from by decide), ?_⟩
    refine lcD_mapA (fun (i : Nat) => D.int (0 + (i : Int))) (fun i => D.str (txA s i)) (List.range 3) [] (fun i hi F' q => ?_) ?_
    · exact ⟨.inl ⟨by decide, by decide⟩, (show (0 : Int) < 10 from by decide), _, strs_at (xs := poolT) (Int.emod_nonneg _ (by decide)) (Int.emod_lt_of_pos _ (by decide)), q⟩
    · rw [List.nil_append, strs_of_map]
      refine f _ ⟨rfl, fun x hx => ?_⟩
      obtain ⟨i, _, rfl⟩ := List.mem_map.mp hx
      exact strs_in (xs := poolT) (Int.emod_nonneg _ (by decide)) (Int.emod_lt_of_pos _ (by decide))
theorem sc_law_heads : FnScope ["_law_deal_here", "_law_texts_here", "_law_by", "_law_some", "_law_text", "_law_k"] ["_law_deal_here", "_law_texts_here", "_law_by"] (defScope s_law_heads) := ⟨rfl, rfl, rfl, by decide +kernel, rfl, by decide +kernel, by decide +kernel⟩
theorem ok_law_heads (G : Glo K mg) (c : He.SaysD fa fn K) (H_law_draw : Fn P w K mg base "_law_draw" 1 1 true gDraw) (H_law_mixed : Fn P w K mg base "_law_mixed" 2 1 true gMixed) : Fn P w K mg base "_law_heads" 3 2 true (gHeads) := by
  obtain ⟨fd, F⟩ := c.defs (d := dfn ("_law_heads", none) "_law_heads" "_law_heads" s_law_heads) (by unfold fn; simp)
  replace F : FunD K "_law_heads" "_law_heads" (defArgs s_law_heads) (defBody s_law_heads) (defScope s_law_heads) [] [] (He.ga K "_law_heads") fd := F
  refine ⟨_, fd, ["_law_deal_here", "_law_texts_here", "_law_by"], ?_, G.g "_law_heads" (by decide), F.kp, F.bindsN fun _ _ _ _ _ _ us hl => match us, hl with | [_, _, _], _ => rfl⟩
  have nd : (["_law_deal_here", "_law_texts_here", "_law_by", "_law_some", "_law_text", "_law_k"] : List Str).Nodup := sc_law_heads.nd
  obtain ⟨_, h_LETTERS⟩ := G.hL
  obtain ⟨_, h_LAD⟩ := G.hA
  obtain ⟨_, h_LN⟩ := G.hN
  obtain ⟨_, h_LT⟩ := G.hT
  apply fn_okE (k := 2) (N := ["_law_deal_here", "_law_texts_here", "_law_by", "_law_some", "_law_text", "_law_k"]) F sc_law_heads rfl (by decide)
  intro c cdv A outer s H E hr
  have hu := hr.units
  have tk := takes_of (X := cxOf (L2.CX P w) P w K mg base ["_law_deal_here", "_law_texts_here", "_law_by", "_law_some", "_law_text", "_law_k"] "_law_heads" (defScope s_law_heads) (He.ga K "_law_heads") cdv A outer s H E) rfl rfl rfl rfl
  apply Exists.intro
  apply Exists.intro
  apply And.intro
  · exact (dss_cons (ds_set 3 nd rfl (by first | exact .inl rfl | exact .inr rfl) (de_op op_addA rd_add (de_var 1) (de_lst (da_cons de_str (da_cons de_str (da_cons de_str da_nil))))))
    (dss_cons (ds_set 3 nd rfl (by first | exact .inl rfl | exact .inr rfl) (de_lcF (own := [("_law_text", 4)]) rfl nd (dic_of (di_seq (de_var 3))) (blkOk_by (show blkC ["_law_deal_here", "_law_texts_here", "_law_by", "_law_some", "_law_text", "_law_k"] (defScope s_law_heads) _ _ = true from by decide +kernel)) (by decide) (fun s H C cl fp => (dg_name 4 nd rfl (by first | exact .inl rfl | exact .inr rfl))) (fun s H C cl fp => (dts_one (DW.dt (dw_and (dt_cmp op_notInA rd_in (de_var 4) (de_var 2) (by rfl)) (dw_and1 (dt_cmp op_notInA rd_in (de_var 4) (de_tup (da_cons de_str (da_cons de_str (da_cons de_str (da_cons de_str (da_cons de_str da_nil)))))) (by rfl))))))) (fun s H C cl fp => (de_var 4))))
    (dss_cons (ds_set 3 nd rfl (by first | exact .inl rfl | exact .inr rfl) (de_lcF (own := [("_law_k", 5), ("_law_text", 4)]) rfl nd (dic_of (di_enum rfl (G.n "enumerate" (by decide)) (de_var 3))) (blkOk_by (show blkC ["_law_deal_here", "_law_texts_here", "_law_by", "_law_some", "_law_text", "_law_k"] (defScope s_law_heads) _ _ = true from by decide +kernel)) (by decide) (fun s H C cl fp => (dg_tup rfl (dgs_cons (dg_name 5 nd rfl (by first | exact .inl rfl | exact .inr rfl)) (dgs_cons (dg_name 4 nd rfl (by first | exact .inl rfl | exact .inr rfl)) dgs_nil)))) (fun s H C cl fp => (dts_one (DW.dt (dw_and (dt_cmp op_lt rd_lt (de_callB call_len cd_len rfl (G.n "len" (by decide)) (by decide +kernel) (da_cons (de_var 4) da_nil)) de_int (nomark _)) (dw_and1 (dt_cmp op_notInA rd_in (de_var 4) (de_sl (de_var 3) do_none (do_some (de_var 5))) (by rfl))))))) (fun s H C cl fp => (de_var 4))))
    (dss_one (ds_ret (de_sl (de_fL 0 H_law_mixed (hr.mono (by decide)) rfl tk (pv 0) (da_cons (de_var 3) da_nil)) do_none (do_some (de_op op_addA rd_add de_int (de_fL 0 H_law_draw (hr.mono (by decide)) rfl tk (pv 0) (da_cons de_int da_nil))))))))))
  · intro ds F1 X1 hn h
    obtain ⟨ts, bs, rfl, ht, hb, f⟩ := h
    refine ms_at (e := [.deal, .dat (strsL ts), .dat (strsL bs), .un, .un, .un]) rfl ?_
    unfold strsL
    dsimp only [msRet, msRetN, msSeq, msIf, msNext, msExpr, msSet, mtAnd, mtOr, mtNot, mTru, mB, mCB, mCall, maCons, maNil, mVar, mC, mOp, mChain, mIf, mAndV, mOrV, mNotV, mLst, mTup, mMS, gI0, gLen, gEq, gNe, gEqS, gNeS, gIn, gAll, gStrip, truD, start0, dn, mLc, miS, mgName, wipeD, mYes, lcD, List.map_cons, List.map_nil, List.replicate, List.cons_append, List.nil_append, List.getElem?_cons_zero, List.getElem?_cons_succ, List.getElem?_nil, List.append_nil, gLe, gLt, Bool.not_true, Bool.not_false, Bool.false_eq_true, reduceIte, mJoined, mJs, mFmt, maStar, gJoin, mFld, moSome, mSl, gIx, z5, mCallL, miZ, gEqL, gNeL, mIsiT, moNone, gSl, miR1, gAdd, List.set_cons_zero, List.set_cons_succ, decide_true, eq_self, mMake, gRep, gInt, msFor, gAbs, mRev, gGe, gMod, gPow, gI, msPub, mLend, msParOO, msAppPop, msAppO, gDraw, msPar, msPar3, msAsg, mgTup, mgCons, mgNil, DL.gSub, mNeg, gMin, gSl, miEnum]
    have e0 : ts.map D.str ++ [D.str "may", .str "a", .str "id"] = (ts ++ maid).map D.str := by
      rw [List.map_append]
      rfl
    have hl0 : (ts ++ maid).length = 6 := by rw [List.length_append, ht.1]; rfl
    have hp0 : ∀ x ∈ ts ++ maid, x ∈ poolT ++ maid := fun x hx => by
      rcases List.mem_append.mp hx with hx | hx
      · exact List.mem_append_left _ (ht.2 x hx)
      · exact List.mem_append_right _ hx
    have hm0 : ("may" : Str) ∈ ts ++ maid := List.mem_append_right _ (List.mem_cons_self ..)
    rw [e0]
    refine ⟨(show 3 ≤ sizeLine from by decide), ?_, ?_⟩
    · rw [List.length_map, ht.1]
      exact (show 6 ≤ sizeLine from by decide)
    generalize ts ++ maid = xs at hl0 hp0 hm0
    have hl0' : (xs.map D.str).length < sizeLine := by
      rw [List.length_map, hl0]
      decide
    refine ⟨_, rfl, hl0', ?_⟩
    refine lcD_gA D.str (fun x => [.deal, .dat (.lst (ts.map D.str)), .dat (.lst (bs.map D.str)), .dat (.lst (xs.map D.str)), .dat (.str x), .un]) (keepB bs) D.str xs [] (fun x hx => ⟨fun F' q => q, fun F' q => ?_, fun _ F' q => q⟩) ?_
    · refine ⟨rfl, flat_strs bs, ?_⟩
      rw [inD_strs]
      unfold keepB at q
      by_cases q1 : x ∈ bs
      · rw [decide_eq_true q1] at q ⊢
        exact q
      · rw [decide_eq_false q1] at q ⊢
        refine ⟨(show 5 ≤ sizeLine from by decide), rfl, rfl, ?_⟩
        have e5 : inD (D.str x) [D.str "1", .str "2", .str "01", .str "10", .str "x1"] = decide (x ∈ five) := inD_strs x five
        rw [e5]
        exact q
    rw [List.nil_append]
    have hx1 : ∀ x ∈ xs.filter (keepB bs), x ∈ xs ∧ x ∉ bs ∧ x ∉ five := fun x hx => by
      obtain ⟨h1, h2⟩ := List.mem_filter.mp hx
      obtain ⟨h2, h3⟩ := b2 h2
      refine ⟨h1, fun z => ?_, fun z => ?_⟩
      · rw [decide_eq_true z] at h2
        cases h2
      · rw [decide_eq_true z] at h3
        cases h3
    have hm1 : ("may" : Str) ∈ xs.filter (keepB bs) := by
      refine List.mem_filter.mpr ⟨hm0, ?_⟩
      unfold keepB
      rw [decide_eq_false hb]
      decide
    have hl1 : (xs.filter (keepB bs)).length ≤ 6 := by
      rw [← hl0]
      exact List.length_filter_le ..
    generalize xs.filter (keepB bs) = ys at hx1 hm1 hl1
    have hl1' : (enumD 0 (ys.map D.str)).length < sizeLine := by
      rw [enumD_len, List.length_map]
      exact Nat.lt_of_le_of_lt hl1 (by decide)
    refine ⟨hl1', ?_⟩
    rw [enumD_strs]
    refine lcD_gA pairN (fun p => [.deal, .dat (.lst (ts.map D.str)), .dat (.lst (bs.map D.str)), .dat (.lst (ys.map D.str)), .dat (.str p.2), .dat (.int (p.1 : Int))]) (keepH ys) (fun p => D.str p.2) (enumN 0 ys) [] (fun p hp => ⟨fun F' q => ⟨rfl, q⟩, fun F' q => ?_, fun _ F' q => q⟩) ?_
    · obtain ⟨k1, k2, k3⟩ := enumN_lt ys 0 hp
      have hp2 := hp0 p.2 (hx1 p.2 k3).1
      refine ⟨of_decide_eq_true (b2 (List.all_eq_true.mp len_pool _ hp2)).1, ?_⟩
      dsimp only [msRet, msRetN, msSeq, msIf, msNext, msExpr, msSet, mtAnd, mtOr, mtNot, mTru, mB, mCB, mCall, maCons, maNil, mVar, mC, mOp, mChain, mIf, mAndV, mOrV, mNotV, mLst, mTup, mMS, gI0, gLen, gEq, gNe, gEqS, gNeS, gIn, gAll, gStrip, truD, start0, dn, mLc, miS, mgName, wipeD, mYes, lcD, List.map_cons, List.map_nil, List.replicate, List.cons_append, List.nil_append, List.getElem?_cons_zero, List.getElem?_cons_succ, List.getElem?_nil, List.append_nil, gLe, gLt, Bool.not_true, Bool.not_false, Bool.false_eq_true, reduceIte, mJoined, mJs, mFmt, maStar, gJoin, mFld, moSome, mSl, gIx, z5, mCallL, miZ, gEqL, gNeL, mIsiT, moNone, gSl, miR1, gAdd, List.set_cons_zero, List.set_cons_succ, decide_true, eq_self, mMake, gRep, gInt, msFor, gAbs, mRev, gGe, gMod, gPow, gI, msPub, mLend, msParOO, msAppPop, msAppO, gDraw, msPar, msPar3, msAsg, mgTup, mgCons, mgNil, DL.gSub, mNeg, gMin, gSl, miEnum]
      unfold keepH at q
      have e5 : decide ((p.2.length : Int) < 5) = decide (p.2.length < 5) := by
        by_cases h : p.2.length < 5
        · rw [decide_eq_true h, decide_eq_true (by omega)]
        · rw [decide_eq_false h, decide_eq_false (by omega)]
      rw [e5]
      by_cases q1 : p.2.length < 5
      · rw [decide_eq_true q1] at q ⊢
        have ec : DL.cutD (ys.map D.str) none (some (p.1 : Int)) = (ys.take p.1).map D.str := by
          rw [cut_take (by omega), List.map_take]
          rfl
        refine iteT ?_
        rw [ec]
        refine ⟨rfl, flat_strs _, ?_⟩
        rw [inD_strs]
        exact q
      · rw [decide_eq_false q1] at q ⊢
        exact q
    obtain ⟨d1, d2, d3⟩ := ddH_ok ys []
    have d1 : (ddH ys 0 ys).Nodup := d1
    have d3 : ∀ x ∈ ys, x ∉ [] → x.length < 5 → x ∈ ddH ys 0 ys := d3
    have em : ((enumN 0 ys).filter (keepH ys)).map (fun p => D.str p.2) = (ddH ys 0 ys).map D.str := by
      unfold ddH
      rw [List.map_map]
      rfl
    rw [List.nil_append, em]
    have d4 : ∀ x ∈ ddH ys 0 ys, x ∈ poolH ∧ x ∉ bs := fun x hx => by
      obtain ⟨h1, h2⟩ := ddH_mem hx
      obtain ⟨h3, h4, h5⟩ := hx1 x h1
      refine ⟨?_, h4⟩
      have h6 := (b2 (List.all_eq_true.mp len_pool _ (hp0 x h3))).2
      rw [decide_eq_false h5, decide_eq_false (by omega)] at h6
      exact of_decide_eq_true h6
    have d5 : 0 < (ddH ys 0 ys).length := List.length_pos_of_mem (d3 "may" hm1 (fun z => nomatch z) (by decide))
    have d6 : (ddH ys 0 ys).length ≤ 6 := by
      unfold ddH
      rw [List.length_map]
      exact Nat.le_trans (List.length_filter_le ..) (by rw [enumN_len]; exact hl1)
    generalize ddH ys 0 ys = zs at d1 d4 d5 d6
    refine ⟨trivial, rfl, _, _, rfl, rfl, ?_, fun l' hl' => ?_⟩
    · rw [List.length_map]
      omega
    obtain ⟨ws, rfl, hw⟩ := perm_strs hl'
    refine ⟨trivial, rfl, 3, rfl, by decide, by decide, fun r r0 r1 => ?_⟩
    have ec : DL.cutD (ws.map D.str) none (some (1 + r)) = (ws.take (1 + r).toNat).map D.str := by
      rw [cut_take (by omega), List.map_take]
    show F1 (.lst (DL.cutD (ws.map D.str) none (some (1 + r))))
    rw [ec]
    have lw := hw.length_eq
    refine f _ ⟨?_, ?_, (hw.nodup_iff.mpr d1).sublist (List.take_sublist ..), fun x hx => d4 x (hw.subset (List.mem_of_mem_take hx))⟩
    · rw [List.length_take]
      omega
    · rw [List.length_take]
      omega
end
end K11

set_option Elab.async false
set_option linter.all false
set_option maxRecDepth 100000
set_option maxHeartbeats 4000000
namespace K11
open PySem PySem.Spec PyProof.Rows L2 DL
/-! ### what the law tells of a step -/
mutual
def toldD : Stp → D
  | .pick cs => .tup [.str "pick", strsL cs]
  | .rename o n => .tup [.str "rename", .str o, .str n]
  | .has a => .tup [.str "has", .str a]
  | .is_ a t => .tup [.str "is", .str a, .str t]
  | .put a t => .tup [.str "put", .str a, .str t]
  | .alike a b => .tup [.str "alike", .str a, .str b]
  | .melt cs n v => .tup [.str "melt", strsL cs, .str n, .str v]
  | .pivot bs n v hs => .tup [.str "pivot", strsL bs, .str n, .str v, strsL hs]
  | .join cs ss => .tup [.str "join", strsL cs, .lst (toldDs ss)]
  | .stack ss => .tup [.str "stack", .lst (toldDs ss)]
def toldDs : List Stp → List D
  | [] => []
  | s :: r => toldD s :: toldDs r
end
theorem toldDs_eq : ∀ ss, toldDs ss = ss.map toldD
  | [] => by rw [toldDs]; rfl
  | s :: r => by rw [toldDs, toldDs_eq r]; rfl
/-! ### names and texts of the pools -/
def fresh (p : Str) : List Str := ("abcdefghijklmnopqrst" : Str).cps.toList.map fun c => p ++ (⟨#[c]⟩ : Str)
def nmB (x : Str) : Bool := nameD (.str x) && (decide (x.length ≤ 4) && PyData.strOk x)
def txB (x : Str) : Bool := textD (.str x) && (decide (x.length ≤ 6) && PyData.strOk x)
theorem nmB_ok {x : Str} (h : nmB x = true) : Nm x := by
  obtain ⟨h1, h2⟩ := b2 h
  obtain ⟨h2, h3⟩ := b2 h2
  exact ⟨h1, of_decide_eq_true h2, h3⟩
theorem txB_ok {x : Str} (h : txB x = true) : Tx x := by
  obtain ⟨h1, h2⟩ := b2 h
  obtain ⟨h2, h3⟩ := b2 h2
  exact ⟨h1, of_decide_eq_true h2, h3⟩
theorem nm_C : poolC.all nmB = true := by decide +kernel
theorem nm_H : poolH.all nmB = true := by decide +kernel
theorem nm_J : (fresh "j").all nmB = true := by decide +kernel
theorem nm_P : (fresh "p").all nmB = true := by decide +kernel
theorem tx_T : poolT.all txB = true := by decide +kernel
theorem nmC {x : Str} (h : x ∈ poolC) : Nm x := nmB_ok (List.all_eq_true.mp nm_C x h)
theorem nmH {x : Str} (h : x ∈ poolH) : Nm x := nmB_ok (List.all_eq_true.mp nm_H x h)
theorem nmJ {x : Str} (h : x ∈ fresh "j") : Nm x := nmB_ok (List.all_eq_true.mp nm_J x h)
theorem nmP {x : Str} (h : x ∈ fresh "p") : Nm x := nmB_ok (List.all_eq_true.mp nm_P x h)
theorem txT {x : Str} (h : x ∈ poolT) : Tx x := txB_ok (List.all_eq_true.mp tx_T x h)
theorem apart_J : (fresh "j").all (fun x => !decide (x ∈ poolC) && (!decide (x ∈ poolT) && !decide (x ∈ poolH))) = true := by decide +kernel
theorem apart_P : (fresh "p").all (fun x => !decide (x ∈ poolC)) = true := by decide +kernel
theorem may_C : ("may" : Str) ∉ poolC := by decide +kernel
theorem notB {p : Prop} [Decidable p] (h : (!decide p) = true) : ¬ p := fun z => by rw [decide_eq_true z] at h; cases h
theorem jC {x : Str} (h : x ∈ fresh "j") : x ∉ poolC := notB (b2 (List.all_eq_true.mp apart_J x h)).1
theorem jT {x : Str} (h : x ∈ fresh "j") : x ∉ poolT := notB (b2 (b2 (List.all_eq_true.mp apart_J x h)).2).1
theorem jH {x : Str} (h : x ∈ fresh "j") : x ∉ poolH := notB (b2 (b2 (List.all_eq_true.mp apart_J x h)).2).2
theorem pC {x : Str} (h : x ∈ fresh "p") : x ∉ poolC := notB (List.all_eq_true.mp apart_P x h)
theorem nod_J : (fresh "j").Nodup := by decide +kernel
theorem nod_P : (fresh "p").Nodup := by decide +kernel
def j0 : Str := "ja"
def j1 : Str := "jb"
def p0 : Str := "pa"
def p1 : Str := "pb"
theorem memj0 : j0 ∈ fresh "j" := by decide +kernel
theorem memj1 : j1 ∈ fresh "j" := by decide +kernel
theorem memp0 : p0 ∈ fresh "p" := by decide +kernel
theorem memp1 : p1 ∈ fresh "p" := by decide +kernel
theorem ne_j : j0 ≠ j1 := by decide +kernel
theorem ne_p : p0 ≠ p1 := by decide +kernel
theorem len_J : (fresh "j").length = 20 := by decide +kernel
theorem len_P : (fresh "p").length = 20 := by decide +kernel
theorem at_j0 : L2.atI ((fresh "j").map D.str) 0 = some (.str j0) := by
  rw [strs_at (by decide) (by rw [len_J]; decide), show (fresh "j").getD (0 : Int).toNat "" = j0 from by decide +kernel]
theorem at_j1 : L2.atI ((fresh "j").map D.str) 1 = some (.str j1) := by
  rw [strs_at (by decide) (by rw [len_J]; decide), show (fresh "j").getD (1 : Int).toNat "" = j1 from by decide +kernel]
theorem at_p0 : L2.atI ((fresh "p").map D.str) 0 = some (.str p0) := by
  rw [strs_at (by decide) (by rw [len_P]; decide), show (fresh "p").getD (0 : Int).toNat "" = p0 from by decide +kernel]
theorem at_p1 : L2.atI ((fresh "p").map D.str) 1 = some (.str p1) := by
  rw [strs_at (by decide) (by rw [len_P]; decide), show (fresh "p").getD (1 : Int).toNat "" = p1 from by decide +kernel]
theorem take_j1 : (fresh "j").take 1 = [j0] := by decide +kernel
theorem take_j2 : (fresh "j").take 2 = [j0, j1] := by decide +kernel
theorem take_p2 : (fresh "p").take 2 = [p0, p1] := by decide +kernel
theorem cut_strs (xs : List Str) {j : Int} (h : 0 ≤ j) : DL.cutD (xs.map D.str) none (some j) = (xs.take j.toNat).map D.str := by
  rw [cut_take h, List.map_take]
theorem cutd_strs (xs : List Str) {j : Int} (h : 0 ≤ j) : DL.cutD (xs.map D.str) (some j) none = (xs.drop j.toNat).map D.str := by
  rw [cut_drop h, List.map_drop]
/-! ### columns -/
structure Cols (m : Nat) (cs : List Str) : Prop where
  lo : m ≤ cs.length
  hi : cs.length ≤ 5
  nd : cs.Nodup
  pool : ∀ x ∈ cs, x ∈ poolC
theorem Cols.perm {m : Nat} {cs ds : List Str} (h : Cols m cs) (p : ds.Perm cs) : Cols m ds := ⟨by rw [p.length_eq]; exact h.lo, by rw [p.length_eq]; exact h.hi, p.nodup_iff.mpr h.nd, fun x hx => h.pool x (p.subset hx)⟩
theorem Cols.nms {m k : Nat} {cs : List Str} (h : Cols m cs) (l : k ≤ cs.length) : Nms k cs := ⟨l, Nat.le_trans h.hi (by decide), h.nd, fun x hx => nmC (h.pool x hx)⟩
theorem Cols.sub {m k : Nat} {cs ds : List Str} (h : Cols m cs) (s : ds.Sublist cs) (l : k ≤ ds.length) : Cols k ds := ⟨l, Nat.le_trans s.length_le h.hi, h.nd.sublist s, fun x hx => h.pool x (s.subset hx)⟩
theorem Cols.nomay {m : Nat} {cs : List Str} (h : Cols m cs) : ("may" : Str) ∉ cs := fun z => may_C (h.pool _ z)
theorem atI_get {l : List Str} {i : Nat} {x : Str} (h : l[i]? = some x) (hl : l.length ≤ 100) : L2.atI (l.map D.str) (i : Int) = some (.str x) := by
  obtain ⟨hi, rfl⟩ := List.getElem?_eq_some_iff.mp h
  rw [strs_at (by omega) (by omega), List.getD_eq_getElem?_getD, show (i : Int).toNat = i from rfl, List.getElem?_eq_getElem hi]
  rfl
theorem nms_one {m : Nat} {x : Str} (h : Nm x) (hm : m ≤ 1) : Nms m [x] := ⟨hm, by show 1 ≤ 9; decide, (List.nodup_cons.mpr ⟨(fun z => nomatch z), .nil⟩), fun y hy => by cases List.mem_singleton.mp hy; exact h⟩
end K11

set_option Elab.async false
set_option linter.all false
set_option maxRecDepth 100000
set_option maxHeartbeats 4000000
namespace K11
open PySem PySem.Spec PyProof.Rows L2 DL
theorem seq_go {m1 m2 : MS} {δ : List Sl} {k : MK} (h : ∀ R : List Sl → Prop, (∀ δ', m2 δ' k → R δ') → m1 δ { k with nx := R }) : msSeq m1 m2 δ k := h _ fun _ z => z
theorem goIf {p : Prop} [Decidable p] {A B : Prop} (h1 : p → A) (h2 : ¬ p → B) : if decide p = true then A else B := by
  by_cases h : p
  · rw [decide_eq_true h]
    exact iteT (h1 h)
  · rw [decide_eq_false h]
    exact iteF (h2 h)
theorem goN {p : Prop} [Decidable p] {A B : Prop} (h1 : ¬ p → A) (h2 : p → B) : if (!decide p) = true then A else B := by
  by_cases h : p
  · rw [decide_eq_true h]
    exact iteF (h2 h)
  · rw [decide_eq_false h]
    exact iteT (h1 h)
theorem fa1 {α : Type} {p : α → Prop} {a : α} (ha : p a) : ∀ x ∈ [a], p x := fun x h => by cases List.mem_singleton.mp h; exact ha
theorem fa2 {α : Type} {p : α → Prop} {a : α} {l : List α} (ha : p a) (hl : ∀ x ∈ l, p x) : ∀ x ∈ a :: l, p x := fun x h => by
  rcases List.mem_cons.mp h with rfl | h
  · exact ha
  · exact hl x h
theorem s_at0 {x : Str} {l : List Str} : L2.atI ((x :: l).map D.str) 0 = some (.str x) := strs_at (xs := x :: l) (by decide) (by rw [List.length_cons]; omega)
theorem s_at1 {x y : Str} {l : List Str} : L2.atI ((x :: y :: l).map D.str) 1 = some (.str y) := strs_at (xs := x :: y :: l) (by decide) (by rw [List.length_cons, List.length_cons]; omega)
theorem two_of {l : List Str} (h : 2 ≤ l.length) : ∃ a b r, l = a :: b :: r := by
  match l, h with
  | a :: b :: r, _ => exact ⟨a, b, r, rfl⟩
theorem one_of {l : List Str} (h : 1 ≤ l.length) : ∃ a r, l = a :: r := by
  match l, h with
  | a :: r, _ => exact ⟨a, r, rfl⟩
/-- two heads that are fit -/
theorem heads2 {hs : List Str} (h : ∀ x ∈ hs, x ∈ poolH) (n : hs.Nodup) : ∃ a b, (hs ++ [j0, j1]).take 2 = [a, b] ∧ a ≠ b ∧ Nm a ∧ Nm b := by
  have hn : (hs ++ [j0, j1]).Nodup := by
    refine List.nodup_append.mpr ⟨n, List.nodup_cons.mpr ⟨(fun z => ne_j (List.mem_singleton.mp z)), List.nodup_cons.mpr ⟨(fun z => nomatch z), .nil⟩⟩, fun x hx y hy e => ?_⟩
    subst e
    rcases List.mem_cons.mp hy with rfl | hy
    · exact jH memj0 (h _ hx)
    · cases List.mem_singleton.mp hy
      exact jH memj1 (h _ hx)
  have hm : ∀ x ∈ hs ++ [j0, j1], Nm x := fun x hx => by
    rcases List.mem_append.mp hx with hx | hx
    · exact nmH (h x hx)
    · rcases List.mem_cons.mp hx with rfl | hx
      · exact nmJ memj0
      · cases List.mem_singleton.mp hx
        exact nmJ memj1
  have hl : 2 ≤ (hs ++ [j0, j1]).length := by rw [List.length_append]; show 2 ≤ hs.length + 2; omega
  obtain ⟨a, b, r, e⟩ := two_of hl
  rw [e] at hn hm ⊢
  exact ⟨a, b, rfl, (fun z => (List.nodup_cons.mp hn).1 (by rw [z]; exact List.mem_cons_self ..)), hm a (List.mem_cons_self ..), hm b (List.mem_cons_of_mem _ (List.mem_cons_self ..))⟩
theorem nms_two {m : Nat} {a b : Str} (hm : m ≤ 2) (n : a ≠ b) (ha : Nm a) (hb : Nm b) : Nms m [a, b] := ⟨hm, (by show 2 ≤ 9; decide), List.nodup_cons.mpr ⟨(fun z => n (List.mem_singleton.mp z)), List.nodup_cons.mpr ⟨(fun z => nomatch z), .nil⟩⟩, fa2 ha (fa1 hb)⟩
theorem strs_pos {xs : List Str} (h : 0 < xs.length) : 0 < (xs.map D.str).length := by rw [List.length_map]; exact h
theorem strs_few {xs : List Str} {n : Nat} (h : xs.length < n) : (xs.map D.str).length < n := by rw [List.length_map]; exact h
theorem strs_le {xs : List Str} {n : Nat} (h : xs.length ≤ n) : (xs.map D.str).length ≤ n := by rw [List.length_map]; exact h
/-! ### the same columns again -/
def gSame : FF := fun ds F _ => ∃ cs ts, ds = [strsL cs, strsL ts, strsL (fresh "j")] ∧ Cols 2 cs ∧ TxsOk ts ∧ ∀ ss : List Stp, ss.length ≤ 3 → (∀ s ∈ ss, okS 1 s) → F (.lst (ss.map toldD))
section
variable {P : Program} {w : World} {K : Fg} {mg : Str → Option Value} {base : Heap}
theorem sc_law_same_again : FnScope ["_law_deal_here", "_law_columns_here", "_law_texts_here", "_law_fresh", "_law_form", "_law_some", "_law_heads_here", "_law_step", "_law_head"] ["_law_deal_here", "_law_columns_here", "_law_texts_here", "_law_fresh"] (defScope s_law_same_again) := ⟨rfl, rfl, rfl, by decide +kernel, rfl, by decide +kernel, by decide +kernel⟩
theorem ok_law_same_again (G : Glo K mg) (c : He.SaysD fa fn K) (H_law_draw : Fn P w K mg base "_law_draw" 1 1 true gDraw) (H_law_mixed : Fn P w K mg base "_law_mixed" 2 1 true gMixed) (H_law_pick : Fn P w K mg base "_law_pick" 2 1 true gOneOf) (H_law_heads : Fn P w K mg base "_law_heads" 3 2 true gHeads) : Fn P w K mg base "_law_same_again" 4 3 true (gSame) := by
  obtain ⟨fd, F⟩ := c.defs (d := dfn ("_law_same_again", none) "_law_same_again" "_law_same_again" s_law_same_again) (by unfold fn; simp)
  replace F : FunD K "_law_same_again" "_law_same_again" (defArgs s_law_same_again) (defBody s_law_same_again) (defScope s_law_same_again) [] [] (He.ga K "_law_same_again") fd := F
  refine ⟨_, fd, ["_law_deal_here", "_law_columns_here", "_law_texts_here", "_law_fresh"], ?_, G.g "_law_same_again" (by decide), F.kp, F.bindsN fun _ _ _ _ _ _ us hl => match us, hl with | [_, _, _, _], _ => rfl⟩
  have nd : (["_law_deal_here", "_law_columns_here", "_law_texts_here", "_law_fresh", "_law_form", "_law_some", "_law_heads_here", "_law_step", "_law_head"] : List Str).Nodup := sc_law_same_again.nd
  obtain ⟨_, h_LETTERS⟩ := G.hL
  obtain ⟨_, h_LAD⟩ := G.hA
  obtain ⟨_, h_LN⟩ := G.hN
  obtain ⟨_, h_LT⟩ := G.hT
  apply fn_okE (k := 3) (N := ["_law_deal_here", "_law_columns_here", "_law_texts_here", "_law_fresh", "_law_form", "_law_some", "_law_heads_here", "_law_step", "_law_head"]) F sc_law_same_again rfl (by decide)
  intro c cdv A outer s H E hr
  have hu := hr.units
  have tk := takes_of (X := cxOf (L2.CX P w) P w K mg base ["_law_deal_here", "_law_columns_here", "_law_texts_here", "_law_fresh", "_law_form", "_law_some", "_law_heads_here", "_law_step", "_law_head"] "_law_same_again" (defScope s_law_same_again) (He.ga K "_law_same_again") cdv A outer s H E) rfl rfl rfl rfl
  apply Exists.intro
  apply Exists.intro
  apply And.intro
  · exact (dss_cons (ds_par 4 5 rfl nd rfl rfl (by decide) rfl rfl (da_cons (de_fL 0 H_law_draw (hr.mono (by decide)) rfl tk (pv 0) (da_cons de_int da_nil)) (da_cons (de_fL 0 H_law_mixed (hr.mono (by decide)) rfl tk (pv 0) (da_cons (de_var 1) da_nil)) da_nil)))
    (dss_cons (ds_if (dt_cmp op_eq rd_eqS (de_var 4) de_int (nomark _)) (dss_one (ds_ret (de_lst da_nil))) dss_nil)
    (dss_cons (ds_if (dt_cmp op_eq rd_eqS (de_var 4) de_int (nomark _)) (dss_one (ds_ret (de_lst (da_cons (de_tup (da_cons de_str (da_cons (de_ix (de_var 3) de_int (fun _ _ => rfl)) (da_cons (de_fL 0 H_law_pick (hr.mono (by decide)) rfl tk (pv 0) (da_cons (de_var 2) da_nil)) da_nil)))) (da_cons (de_tup (da_cons de_str (da_cons (de_var 5) da_nil))) da_nil))))) dss_nil)
    (dss_cons (ds_if (dt_cmp op_eq rd_eqS (de_var 4) de_int (nomark _)) (dss_one (ds_ret (de_lst (da_cons (de_tup (da_cons de_str (da_cons (de_lst da_nil) (da_cons (de_lst (da_cons (de_tup (da_cons de_str (da_cons (de_sl (de_var 5) do_none (do_some de_int)) da_nil))) (da_cons (de_tup (da_cons de_str (da_cons (de_ix (de_var 5) de_int (fun _ _ => rfl)) (da_cons (de_ix (de_var 3) de_int (fun _ _ => rfl)) da_nil)))) da_nil))) da_nil)))) (da_cons (de_tup (da_cons de_str (da_cons (de_var 5) da_nil))) da_nil))))) dss_nil)
    (dss_cons (ds_if (DW.dt (dw_or (dt_cmp op_eq rd_eqS (de_var 4) de_int (nomark _)) (dw_or1 (dt_cmp op_lt rd_lt (de_callB call_len cd_len rfl (G.n "len" (by decide)) (by decide +kernel) (da_cons (de_var 5) da_nil)) de_int (nomark _))))) (dss_one (ds_ret (de_lst (da_cons (de_tup (da_cons de_str (da_cons (de_var 5) da_nil))) da_nil)))) dss_nil)
    (dss_cons (ds_if (dt_cmp op_eq rd_eqS (de_var 4) de_int (nomark _)) (dss_one (ds_ret (de_lst (da_cons (de_tup (da_cons de_str (da_cons (de_ix (de_var 5) de_int (fun _ _ => rfl)) (da_cons (de_ix (de_var 5) de_int (fun _ _ => rfl)) da_nil)))) da_nil)))) dss_nil)
    (dss_cons (ds_par 6 7 rfl nd rfl rfl (by decide) rfl rfl (da_cons (de_lst (da_cons (de_ix (de_var 3) de_int (fun _ _ => rfl)) (da_cons (de_ix (de_var 3) de_int (fun _ _ => rfl)) da_nil))) (da_cons (de_tup (da_cons de_str (da_cons (de_sl (de_var 5) do_none (do_some de_int)) (da_cons (de_ix (de_var 3) de_int (fun _ _ => rfl)) (da_cons (de_ix (de_var 3) de_int (fun _ _ => rfl)) da_nil))))) da_nil)))
    (dss_cons (ds_if (dt_cmp op_eq rd_eqS (de_var 4) de_int (nomark _)) (dss_cons (ds_setLcF 6 (own := [("_law_head", 8)]) rfl nd rfl rfl rfl (dic_of (di_seq (de_fL 0 H_law_heads (hr.mono (by decide)) rfl tk (pv 0) (da_cons (de_var 2) (da_cons (de_var 1) da_nil))))) (blkOk_by (show blkC ["_law_deal_here", "_law_columns_here", "_law_texts_here", "_law_fresh", "_law_form", "_law_some", "_law_heads_here", "_law_step", "_law_head"] (defScope s_law_same_again) _ _ = true from by decide +kernel)) (by decide) (fun s H C cl fp => (dg_name 8 nd rfl (by first | exact .inl rfl | exact .inr rfl))) (fun s H C cl fp => (dts_one (dt_cmp op_notInA rd_in (de_var 8) (de_sl (de_var 3) do_none (do_some de_int)) (by rfl)))) (fun s H C cl fp => (de_var 8)))
    (dss_cons (ds_set 6 nd rfl (by first | exact .inl rfl | exact .inr rfl) (de_sl (de_op op_addA rd_add (de_var 6) (de_sl (de_var 3) do_none (do_some de_int))) do_none (do_some de_int)))
    (dss_one (ds_set 7 nd rfl (by first | exact .inl rfl | exact .inr rfl) (de_tup (da_cons de_str (da_cons (de_sl (de_var 5) (do_some de_int) do_none) (da_cons (de_ix (de_var 5) de_int (fun _ _ => rfl)) (da_cons (de_ix (de_var 5) de_int (fun _ _ => rfl)) (da_cons (de_var 6) da_nil)))))))))) dss_nil)
    (dss_one (ds_ret (de_lst (da_cons (de_var 7) (da_cons (de_tup (da_cons de_str (da_cons (de_ix (de_var 6) de_int (fun _ _ => rfl)) (da_cons (de_ix (de_var 5) de_int (fun _ _ => rfl)) da_nil)))) (da_cons (de_tup (da_cons de_str (da_cons (de_ix (de_var 6) de_int (fun _ _ => rfl)) (da_cons (de_ix (de_var 5) de_int (fun _ _ => rfl)) da_nil)))) da_nil))))))))))))))
  · intro ds F1 X1 hn h
    obtain ⟨cs, ts, rfl, hc, ht, f⟩ := h
    refine ms_at (e := [.deal, .dat (.lst (cs.map .str)), .dat (.lst (ts.map .str)), .dat (.lst ((fresh "j").map .str)), .un, .un, .un, .un, .un]) rfl ?_
    refine seq_go fun R hR => ?_
    dsimp only [msRet, msRetN, msSeq, msIf, msNext, msExpr, msSet, mtAnd, mtOr, mtNot, mTru, mB, mCB, mCall, maCons, maNil, mVar, mC, mOp, mChain, mIf, mAndV, mOrV, mNotV, mLst, mTup, mMS, gI0, gLen, gEq, gNe, gEqS, gNeS, gIn, gAll, gStrip, truD, start0, dn, mLc, miS, mgName, wipeD, mYes, lcD, List.map_cons, List.map_nil, List.replicate, List.cons_append, List.nil_append, List.getElem?_cons_zero, List.getElem?_cons_succ, List.getElem?_nil, List.append_nil, gLe, gLt, Bool.not_true, Bool.not_false, Bool.false_eq_true, reduceIte, mJoined, mJs, mFmt, maStar, gJoin, mFld, moSome, mSl, gIx, z5, mCallL, miZ, gEqL, gNeL, mIsiT, moNone, gSl, miR1, gAdd, List.set_cons_zero, List.set_cons_succ, decide_true, eq_self, mMake, gRep, gInt, msFor, gAbs, mRev, gGe, gMod, gPow, gI, msPub, mLend, msParOO, msAppPop, msAppO, gDraw, msPar, msPar3, msAsg, mgTup, mgCons, mgNil, DL.gSub, mNeg, gMin, gSl, miEnum]
    have l5 := hc.hi
    have lT := ht.1
    refine ⟨trivial, rfl, 7, rfl, by decide, by decide, fun r r0 r1 => ⟨trivial, rfl, _, _, rfl, rfl, strs_few (by omega), fun l' hl' => ?_⟩⟩
    obtain ⟨ys, rfl, hp⟩ := perm_strs hl'
    have hY := hc.perm hp
    have hN0 : Nms 1 ys := hY.nms (Nat.le_trans (by decide) hY.lo)
    obtain ⟨y0, y1, yr, ey⟩ := two_of hY.lo
    have m0 : Nm y0 := hN0.2.2.2 y0 (by rw [ey]; exact List.mem_cons_self ..)
    have m1 : Nm y1 := hN0.2.2.2 y1 (by rw [ey]; exact List.mem_cons_of_mem _ (List.mem_cons_self ..))
    have a0 : L2.atI (ys.map D.str) 0 = some (.str y0) := by rw [ey]; exact s_at0
    have a1 : L2.atI (ys.map D.str) 1 = some (.str y1) := by rw [ey]; exact s_at1
    have c1 : DL.cutD (ys.map D.str) none (some 1) = [y0].map D.str := by rw [cut_strs _ (by decide), ey]; rfl
    have c2 : DL.cutD (ys.map D.str) none (some 2) = [y0, y1].map D.str := by rw [cut_strs _ (by decide), ey]; rfl
    have c3 : DL.cutD (ys.map D.str) (some 2) none = yr.map D.str := by rw [cutd_strs _ (by decide), ey]; rfl
    have cJ : DL.cutD ((fresh "j").map D.str) none (some 2) = [j0, j1].map D.str := by rw [cut_strs _ (by decide), show (2 : Int).toNat = 2 from rfl, take_j2]
    have d1 : y0 ≠ y1 := by
      have := hN0.2.2.1
      rw [ey] at this
      exact fun z => (List.nodup_cons.mp this).1 (by rw [z]; exact List.mem_cons_self ..)
    have hZ : Nms 0 yr := by
      refine ⟨Nat.zero_le _, ?_, ?_, fun x hx => ?_⟩
      · have := hN0.2.1
        rw [ey, List.length_cons, List.length_cons] at this
        omega
      · have := hN0.2.2.1
        rw [ey] at this
        exact (List.nodup_cons.mp (List.nodup_cons.mp this).2).2
      · exact hN0.2.2.2 x (by rw [ey]; exact List.mem_cons_of_mem _ (List.mem_cons_of_mem _ hx))
    refine hR _ ?_
    clear hR
    refine seq_go fun R hR => ?_
    dsimp only [msRet, msRetN, msSeq, msIf, msNext, msExpr, msSet, mtAnd, mtOr, mtNot, mTru, mB, mCB, mCall, maCons, maNil, mVar, mC, mOp, mChain, mIf, mAndV, mOrV, mNotV, mLst, mTup, mMS, gI0, gLen, gEq, gNe, gEqS, gNeS, gIn, gAll, gStrip, truD, start0, dn, mLc, miS, mgName, wipeD, mYes, lcD, List.map_cons, List.map_nil, List.replicate, List.cons_append, List.nil_append, List.getElem?_cons_zero, List.getElem?_cons_succ, List.getElem?_nil, List.append_nil, gLe, gLt, Bool.not_true, Bool.not_false, Bool.false_eq_true, reduceIte, mJoined, mJs, mFmt, maStar, gJoin, mFld, moSome, mSl, gIx, z5, mCallL, miZ, gEqL, gNeL, mIsiT, moNone, gSl, miR1, gAdd, List.set_cons_zero, List.set_cons_succ, decide_true, eq_self, mMake, gRep, gInt, msFor, gAbs, mRev, gGe, gMod, gPow, gI, msPub, mLend, msParOO, msAppPop, msAppO, gDraw, msPar, msPar3, msAsg, mgTup, mgCons, mgNil, DL.gSub, mNeg, gMin, gSl, miEnum]
    refine goIf (fun e => ?_) (fun e0 => hR _ ?_)
    · exact ⟨Nat.zero_le _, f [] (Nat.zero_le _) (fun _ z => nomatch z)⟩
    clear hR
    refine seq_go fun R hR => ?_
    dsimp only [msRet, msRetN, msSeq, msIf, msNext, msExpr, msSet, mtAnd, mtOr, mtNot, mTru, mB, mCB, mCall, maCons, maNil, mVar, mC, mOp, mChain, mIf, mAndV, mOrV, mNotV, mLst, mTup, mMS, gI0, gLen, gEq, gNe, gEqS, gNeS, gIn, gAll, gStrip, truD, start0, dn, mLc, miS, mgName, wipeD, mYes, lcD, List.map_cons, List.map_nil, List.replicate, List.cons_append, List.nil_append, List.getElem?_cons_zero, List.getElem?_cons_succ, List.getElem?_nil, List.append_nil, gLe, gLt, Bool.not_true, Bool.not_false, Bool.false_eq_true, reduceIte, mJoined, mJs, mFmt, maStar, gJoin, mFld, moSome, mSl, gIx, z5, mCallL, miZ, gEqL, gNeL, mIsiT, moNone, gSl, miR1, gAdd, List.set_cons_zero, List.set_cons_succ, decide_true, eq_self, mMake, gRep, gInt, msFor, gAbs, mRev, gGe, gMod, gPow, gI, msPub, mLend, msParOO, msAppPop, msAppO, gDraw, msPar, msPar3, msAsg, mgTup, mgCons, mgNil, DL.gSub, mNeg, gMin, gSl, miEnum]
    refine goIf (fun e => ?_) (fun e1 => hR _ ?_)
    · refine ⟨_, at_j0, trivial, rfl, _, _, rfl, rfl, strs_pos (by omega), strs_few (by omega), fun x hx => ?_⟩
      obtain ⟨t, htm, rfl⟩ := List.mem_map.mp hx
      exact ⟨(show 3 ≤ sizeLine from by decide), (show 2 ≤ sizeLine from by decide), (show 2 ≤ sizeLine from by decide), f [.put j0 t, .pick ys] (Nat.le_of_ble_eq_true rfl) (fa2 ⟨nmJ memj0, txT (ht.2 t htm)⟩ (fa1 hN0))⟩
    clear hR
    refine seq_go fun R hR => ?_
    dsimp only [msRet, msRetN, msSeq, msIf, msNext, msExpr, msSet, mtAnd, mtOr, mtNot, mTru, mB, mCB, mCall, maCons, maNil, mVar, mC, mOp, mChain, mIf, mAndV, mOrV, mNotV, mLst, mTup, mMS, gI0, gLen, gEq, gNe, gEqS, gNeS, gIn, gAll, gStrip, truD, start0, dn, mLc, miS, mgName, wipeD, mYes, lcD, List.map_cons, List.map_nil, List.replicate, List.cons_append, List.nil_append, List.getElem?_cons_zero, List.getElem?_cons_succ, List.getElem?_nil, List.append_nil, gLe, gLt, Bool.not_true, Bool.not_false, Bool.false_eq_true, reduceIte, mJoined, mJs, mFmt, maStar, gJoin, mFld, moSome, mSl, gIx, z5, mCallL, miZ, gEqL, gNeL, mIsiT, moNone, gSl, miR1, gAdd, List.set_cons_zero, List.set_cons_succ, decide_true, eq_self, mMake, gRep, gInt, msFor, gAbs, mRev, gGe, gMod, gPow, gI, msPub, mLend, msParOO, msAppPop, msAppO, gDraw, msPar, msPar3, msAsg, mgTup, mgCons, mgNil, DL.gSub, mNeg, gMin, gSl, miEnum]
    refine goIf (fun e => ?_) (fun e2 => hR _ ?_)
    · rw [c1]
      refine ⟨Nat.zero_le _, (show 2 ≤ sizeLine from by decide), _, a0, _, at_j0, ?_⟩
      exact ⟨(show 3 ≤ sizeLine from by decide), (show 2 ≤ sizeLine from by decide), (show 3 ≤ sizeLine from by decide), (show 2 ≤ sizeLine from by decide), (show 2 ≤ sizeLine from by decide), f [.join [] [.pick [y0], .rename y0 j0], .pick ys] (Nat.le_of_ble_eq_true rfl) (fa2 ⟨⟨Nat.zero_le _, Nat.zero_le _, .nil, (fun _ z => nomatch z)⟩, (by show 2 ≤ 6; decide), fa2 (nms_one m0 (by decide)) (fa1 ⟨m0, nmJ memj0⟩)⟩ (fa1 hN0))⟩
    clear hR
    refine seq_go fun R hR => ?_
    dsimp only [msRet, msRetN, msSeq, msIf, msNext, msExpr, msSet, mtAnd, mtOr, mtNot, mTru, mB, mCB, mCall, maCons, maNil, mVar, mC, mOp, mChain, mIf, mAndV, mOrV, mNotV, mLst, mTup, mMS, gI0, gLen, gEq, gNe, gEqS, gNeS, gIn, gAll, gStrip, truD, start0, dn, mLc, miS, mgName, wipeD, mYes, lcD, List.map_cons, List.map_nil, List.replicate, List.cons_append, List.nil_append, List.getElem?_cons_zero, List.getElem?_cons_succ, List.getElem?_nil, List.append_nil, gLe, gLt, Bool.not_true, Bool.not_false, Bool.false_eq_true, reduceIte, mJoined, mJs, mFmt, maStar, gJoin, mFld, moSome, mSl, gIx, z5, mCallL, miZ, gEqL, gNeL, mIsiT, moNone, gSl, miR1, gAdd, List.set_cons_zero, List.set_cons_succ, decide_true, eq_self, mMake, gRep, gInt, msFor, gAbs, mRev, gGe, gMod, gPow, gI, msPub, mLend, msParOO, msAppPop, msAppO, gDraw, msPar, msPar3, msAsg, mgTup, mgCons, mgNil, DL.gSub, mNeg, gMin, gSl, miEnum]
    refine goIf (fun e => iteT ?_) (fun e3 => ?_)
    · exact ⟨(show 2 ≤ sizeLine from by decide), (show 1 ≤ sizeLine from by decide), f [.pick ys] (Nat.le_of_ble_eq_true rfl) (fa1 hN0)⟩
    rw [List.length_map]
    refine goIf (fun z => absurd z (by have := hY.lo; omega)) (fun _ => hR _ ?_)
    clear hR
    refine seq_go fun R hR => ?_
    dsimp only [msRet, msRetN, msSeq, msIf, msNext, msExpr, msSet, mtAnd, mtOr, mtNot, mTru, mB, mCB, mCall, maCons, maNil, mVar, mC, mOp, mChain, mIf, mAndV, mOrV, mNotV, mLst, mTup, mMS, gI0, gLen, gEq, gNe, gEqS, gNeS, gIn, gAll, gStrip, truD, start0, dn, mLc, miS, mgName, wipeD, mYes, lcD, List.map_cons, List.map_nil, List.replicate, List.cons_append, List.nil_append, List.getElem?_cons_zero, List.getElem?_cons_succ, List.getElem?_nil, List.append_nil, gLe, gLt, Bool.not_true, Bool.not_false, Bool.false_eq_true, reduceIte, mJoined, mJs, mFmt, maStar, gJoin, mFld, moSome, mSl, gIx, z5, mCallL, miZ, gEqL, gNeL, mIsiT, moNone, gSl, miR1, gAdd, List.set_cons_zero, List.set_cons_succ, decide_true, eq_self, mMake, gRep, gInt, msFor, gAbs, mRev, gGe, gMod, gPow, gI, msPub, mLend, msParOO, msAppPop, msAppO, gDraw, msPar, msPar3, msAsg, mgTup, mgCons, mgNil, DL.gSub, mNeg, gMin, gSl, miEnum]
    refine goIf (fun e => ?_) (fun e4 => hR _ ?_)
    · exact ⟨_, a0, _, a1, (show 3 ≤ sizeLine from by decide), (show 1 ≤ sizeLine from by decide), f [.alike y0 y1] (Nat.le_of_ble_eq_true rfl) (fa1 ⟨m0, m1⟩)⟩
    clear hR
    refine seq_go fun R hR => ?_
    dsimp only [msRet, msRetN, msSeq, msIf, msNext, msExpr, msSet, mtAnd, mtOr, mtNot, mTru, mB, mCB, mCall, maCons, maNil, mVar, mC, mOp, mChain, mIf, mAndV, mOrV, mNotV, mLst, mTup, mMS, gI0, gLen, gEq, gNe, gEqS, gNeS, gIn, gAll, gStrip, truD, start0, dn, mLc, miS, mgName, wipeD, mYes, lcD, List.map_cons, List.map_nil, List.replicate, List.cons_append, List.nil_append, List.getElem?_cons_zero, List.getElem?_cons_succ, List.getElem?_nil, List.append_nil, gLe, gLt, Bool.not_true, Bool.not_false, Bool.false_eq_true, reduceIte, mJoined, mJs, mFmt, maStar, gJoin, mFld, moSome, mSl, gIx, z5, mCallL, miZ, gEqL, gNeL, mIsiT, moNone, gSl, miR1, gAdd, List.set_cons_zero, List.set_cons_succ, decide_true, eq_self, mMake, gRep, gInt, msFor, gAbs, mRev, gGe, gMod, gPow, gI, msPub, mLend, msParOO, msAppPop, msAppO, gDraw, msPar, msPar3, msAsg, mgTup, mgCons, mgNil, DL.gSub, mNeg, gMin, gSl, miEnum]
    rw [c2]
    refine ⟨_, at_j0, _, at_j1, (show 2 ≤ sizeLine from by decide), _, at_j0, _, at_j1, (show 4 ≤ sizeLine from by decide), hR _ ?_⟩
    clear hR
    refine seq_go fun R hR => ?_
    dsimp only [msRet, msRetN, msSeq, msIf, msNext, msExpr, msSet, mtAnd, mtOr, mtNot, mTru, mB, mCB, mCall, maCons, maNil, mVar, mC, mOp, mChain, mIf, mAndV, mOrV, mNotV, mLst, mTup, mMS, gI0, gLen, gEq, gNe, gEqS, gNeS, gIn, gAll, gStrip, truD, start0, dn, mLc, miS, mgName, wipeD, mYes, lcD, List.map_cons, List.map_nil, List.replicate, List.cons_append, List.nil_append, List.getElem?_cons_zero, List.getElem?_cons_succ, List.getElem?_nil, List.append_nil, gLe, gLt, Bool.not_true, Bool.not_false, Bool.false_eq_true, reduceIte, mJoined, mJs, mFmt, maStar, gJoin, mFld, moSome, mSl, gIx, z5, mCallL, miZ, gEqL, gNeL, mIsiT, moNone, gSl, miR1, gAdd, List.set_cons_zero, List.set_cons_succ, decide_true, eq_self, mMake, gRep, gInt, msFor, gAbs, mRev, gGe, gMod, gPow, gI, msPub, mLend, msParOO, msAppPop, msAppO, gDraw, msPar, msPar3, msAsg, mgTup, mgCons, mgNil, DL.gSub, mNeg, gMin, gSl, miEnum]
    refine goIf (fun e => ?_) (fun e5 => ?_)
    · refine ⟨trivial, rfl, ts, cs, rfl, ht, hc.nomay, fun hs hh => ?_⟩
      have lh := hh.2.1
      refine ⟨_, rfl, strs_few (Nat.lt_of_le_of_lt lh (by decide)), ?_⟩
      refine lcD_gA D.str (fun x => [.deal, .dat (.lst (cs.map .str)), .dat (.lst (ts.map .str)), .dat (.lst ((fresh "j").map .str)), .dat (.int r), .dat (.lst (ys.map .str)), .dat (.lst [.str j0, .str j1]), .dat (toldD (.melt [y0, y1] j0 j1)), .dat (.str x)]) (fun _ => true) D.str hs [] (fun x hx => ⟨fun F' q => q, fun F' q => ?_, fun _ F' q => q⟩) ?_
      · dsimp only [msRet, msRetN, msSeq, msIf, msNext, msExpr, msSet, mtAnd, mtOr, mtNot, mTru, mB, mCB, mCall, maCons, maNil, mVar, mC, mOp, mChain, mIf, mAndV, mOrV, mNotV, mLst, mTup, mMS, gI0, gLen, gEq, gNe, gEqS, gNeS, gIn, gAll, gStrip, truD, start0, dn, mLc, miS, mgName, wipeD, mYes, lcD, List.map_cons, List.map_nil, List.replicate, List.cons_append, List.nil_append, List.getElem?_cons_zero, List.getElem?_cons_succ, List.getElem?_nil, List.append_nil, gLe, gLt, Bool.not_true, Bool.not_false, Bool.false_eq_true, reduceIte, mJoined, mJs, mFmt, maStar, gJoin, mFld, moSome, mSl, gIx, z5, mCallL, miZ, gEqL, gNeL, mIsiT, moNone, gSl, miR1, gAdd, List.set_cons_zero, List.set_cons_succ, decide_true, eq_self, mMake, gRep, gInt, msFor, gAbs, mRev, gGe, gMod, gPow, gI, msPub, mLend, msParOO, msAppPop, msAppO, gDraw, msPar, msPar3, msAsg, mgTup, mgCons, mgNil, DL.gSub, mNeg, gMin, gSl, miEnum]
        rw [cJ]
        refine ⟨rfl, DL.flat_strs [j0, j1], ?_⟩
        rw [show inD (D.str x) ([j0, j1].map D.str) = decide (x ∈ [j0, j1]) from inD_strs x [j0, j1]]
        have e6 : x ∉ [j0, j1] := fun z => by
          have hH := (hh.2.2.2 x hx).1
          rcases List.mem_cons.mp z with rfl | z
          · exact jH memj0 hH
          · cases List.mem_singleton.mp z
            exact jH memj1 hH
        rw [decide_eq_false e6]
        exact q
      obtain ⟨g0, g1, hg, g2, g3, g4⟩ := heads2 (fun x hx => (hh.2.2.2 x hx).1) hh.2.2.1
      have eg : DL.cutD (hs.map D.str ++ [j0, j1].map D.str) none (some 2) = [g0, g1].map D.str := by
        rw [← List.map_append, cut_strs _ (by decide), show (2 : Int).toNat = 2 from rfl, hg]
      rw [List.nil_append, List.filter_eq_self.mpr (fun _ _ => rfl), cJ]
      refine ⟨?_, ?_⟩
      · rw [List.length_map]
        exact Nat.le_trans (Nat.add_le_add_right lh _) (by decide)
      rw [eg, c3]
      refine ⟨_, a0, _, a1, (show 5 ≤ sizeLine from by decide), hR _ ?_⟩
      dsimp only [msRet, msRetN, msSeq, msIf, msNext, msExpr, msSet, mtAnd, mtOr, mtNot, mTru, mB, mCB, mCall, maCons, maNil, mVar, mC, mOp, mChain, mIf, mAndV, mOrV, mNotV, mLst, mTup, mMS, gI0, gLen, gEq, gNe, gEqS, gNeS, gIn, gAll, gStrip, truD, start0, dn, mLc, miS, mgName, wipeD, mYes, lcD, List.map_cons, List.map_nil, List.replicate, List.cons_append, List.nil_append, List.getElem?_cons_zero, List.getElem?_cons_succ, List.getElem?_nil, List.append_nil, gLe, gLt, Bool.not_true, Bool.not_false, Bool.false_eq_true, reduceIte, mJoined, mJs, mFmt, maStar, gJoin, mFld, moSome, mSl, gIx, z5, mCallL, miZ, gEqL, gNeL, mIsiT, moNone, gSl, miR1, gAdd, List.set_cons_zero, List.set_cons_succ, decide_true, eq_self, mMake, gRep, gInt, msFor, gAbs, mRev, gGe, gMod, gPow, gI, msPub, mLend, msParOO, msAppPop, msAppO, gDraw, msPar, msPar3, msAsg, mgTup, mgCons, mgNil, DL.gSub, mNeg, gMin, gSl, miEnum]
      refine ⟨_, s_at0 (x := g0) (l := [g1]), _, a0, (show 3 ≤ sizeLine from by decide), _, s_at1 (x := g0) (y := g1) (l := []), _, a1, (show 3 ≤ sizeLine from by decide), (show 3 ≤ sizeLine from by decide), ?_⟩
      exact f [.pivot yr y0 y1 [g0, g1], .rename g0 y0, .rename g1 y1] (Nat.le_of_ble_eq_true rfl) (fa2 ⟨hZ, m0, m1, nms_two (by decide) g2 g3 g4⟩ (fa2 ⟨g3, m0⟩ (fa1 ⟨g4, m1⟩)))
    · refine hR _ ?_
      dsimp only [msRet, msRetN, msSeq, msIf, msNext, msExpr, msSet, mtAnd, mtOr, mtNot, mTru, mB, mCB, mCall, maCons, maNil, mVar, mC, mOp, mChain, mIf, mAndV, mOrV, mNotV, mLst, mTup, mMS, gI0, gLen, gEq, gNe, gEqS, gNeS, gIn, gAll, gStrip, truD, start0, dn, mLc, miS, mgName, wipeD, mYes, lcD, List.map_cons, List.map_nil, List.replicate, List.cons_append, List.nil_append, List.getElem?_cons_zero, List.getElem?_cons_succ, List.getElem?_nil, List.append_nil, gLe, gLt, Bool.not_true, Bool.not_false, Bool.false_eq_true, reduceIte, mJoined, mJs, mFmt, maStar, gJoin, mFld, moSome, mSl, gIx, z5, mCallL, miZ, gEqL, gNeL, mIsiT, moNone, gSl, miR1, gAdd, List.set_cons_zero, List.set_cons_succ, decide_true, eq_self, mMake, gRep, gInt, msFor, gAbs, mRev, gGe, gMod, gPow, gI, msPub, mLend, msParOO, msAppPop, msAppO, gDraw, msPar, msPar3, msAsg, mgTup, mgCons, mgNil, DL.gSub, mNeg, gMin, gSl, miEnum]
      refine ⟨_, s_at0 (x := j0) (l := [j1]), _, a0, (show 3 ≤ sizeLine from by decide), _, s_at1 (x := j0) (y := j1) (l := []), _, a1, (show 3 ≤ sizeLine from by decide), (show 3 ≤ sizeLine from by decide), ?_⟩
      exact f [.melt [y0, y1] j0 j1, .rename j0 y0, .rename j1 y1] (Nat.le_of_ble_eq_true rfl) (fa2 ⟨nms_two (by decide) d1 m0 m1, nmJ memj0, nmJ memj1⟩ (fa2 ⟨nmJ memj0, m0⟩ (fa1 ⟨nmJ memj1, m1⟩)))
end
end K11

set_option Elab.async false
set_option linter.all false
set_option maxRecDepth 100000
set_option maxHeartbeats 4000000
namespace K11
open PySem PySem.Spec PyProof.Rows L2 DL
/-! ### other columns in the end -/
theorem Nms.perm {m : Nat} {xs ys : List Str} (h : Nms m xs) (p : ys.Perm xs) : Nms m ys := ⟨by rw [p.length_eq]; exact h.1, by rw [p.length_eq]; exact h.2.1, p.nodup_iff.mpr h.2.2.1, fun x hx => h.2.2.2 x (p.subset hx)⟩
theorem nms_app {k : Nat} {bs js : List Str} (hb : Cols k bs) (hj : ∀ x ∈ js, x ∈ fresh "j") (nj : js.Nodup) (l1 : 1 ≤ js.length) (l2 : js.length ≤ 2) : Nms 1 (bs ++ js) := by
  have := hb.hi
  refine ⟨by rw [List.length_append]; omega, by rw [List.length_append]; omega, List.nodup_append.mpr ⟨hb.nd, nj, fun x hx y hy e => ?_⟩, fun x hx => ?_⟩
  · subst e
    exact jC (hj x hy) (hb.pool x hx)
  · rcases List.mem_append.mp hx with hx | hx
    · exact nmC (hb.pool x hx)
    · exact nmJ (hj x hx)
def renS (p : Nat × Str) : Stp := .rename p.2 ((fresh "j").getD p.1 "")
theorem ren_at {p : Nat × Str} (h : p.1 < 20) : L2.atI ((fresh "j").map D.str) (p.1 : Int) = some (.str ((fresh "j").getD p.1 "")) := strs_at (xs := fresh "j") (by omega) (by rw [len_J]; omega)
theorem ren_ok {p : Nat × Str} (h : p.1 < 20) (hn : Nm p.2) : okS 1 (renS p) := by
  refine ⟨hn, nmJ ?_⟩
  exact strs_in (xs := fresh "j") (j := (p.1 : Int)) (by omega) (by rw [len_J]; omega)
theorem j_two : ∀ x ∈ [j0, j1], x ∈ fresh "j" := fa2 memj0 (fa1 memj1)
theorem nod_two : [j0, j1].Nodup := List.nodup_cons.mpr ⟨(fun z => ne_j (List.mem_singleton.mp z)), List.nodup_cons.mpr ⟨(fun z => nomatch z), .nil⟩⟩
theorem nod_one {x : Str} : [x].Nodup := List.nodup_cons.mpr ⟨(fun z => nomatch z), .nil⟩
def gEnds : FF := fun ds F _ => ∃ bs rs ts, ds = [strsL bs, strsL rs, strsL ts, strsL (fresh "j")] ∧ Cols 1 (bs ++ rs) ∧ 1 ≤ rs.length ∧ TxsOk ts ∧ ∀ ss : List Stp, ss.length ≤ 4 → (∀ s ∈ ss, okS 1 s) → F (.lst (ss.map toldD))
theorem fin_ren {F : D → Prop} (f : ∀ ss : List Stp, ss.length ≤ 4 → (∀ s ∈ ss, okS 1 s) → F (.lst (ss.map toldD))) {s : Stp} {zs : List Str} (hs : okS 1 s) (hz : ∀ x ∈ zs, Nm x) (hl : zs.length ≤ 3) : F (.lst ([toldD s] ++ (enumN 0 zs).map fun p => toldD (renS p))) := by
  have := f (s :: (enumN 0 zs).map renS) (by rw [List.length_cons, List.length_map, enumN_len]; omega) (fa2 hs fun x hx => by
    obtain ⟨p, hp, rfl⟩ := List.mem_map.mp hx
    obtain ⟨_, h2, h3⟩ := enumN_lt zs 0 hp
    exact ren_ok (by omega) (hz _ h3))
  rw [List.map_cons, List.map_map] at this
  exact this
section
variable {P : Program} {w : World} {K : Fg} {mg : Str → Option Value} {base : Heap}
theorem sc_law_other_ends : FnScope ["_law_deal_here", "_law_by", "_law_rest", "_law_texts_here", "_law_fresh", "_law_form", "_law_renames", "_law_heads_here", "_law_step", "_law_k", "_law_column", "_law_head"] ["_law_deal_here", "_law_by", "_law_rest", "_law_texts_here", "_law_fresh"] (defScope s_law_other_ends) := ⟨rfl, rfl, rfl, by decide +kernel, rfl, by decide +kernel, by decide +kernel⟩
theorem ok_law_other_ends (G : Glo K mg) (c : He.SaysD fa fn K) (H_law_draw : Fn P w K mg base "_law_draw" 1 1 true gDraw) (H_law_mixed : Fn P w K mg base "_law_mixed" 2 1 true gMixed) (H_law_pick : Fn P w K mg base "_law_pick" 2 1 true gOneOf) (H_law_heads : Fn P w K mg base "_law_heads" 3 2 true gHeads) : Fn P w K mg base "_law_other_ends" 4 4 true (gEnds) := by
  obtain ⟨fd, F⟩ := c.defs (d := dfn ("_law_other_ends", none) "_law_other_ends" "_law_other_ends" s_law_other_ends) (by unfold fn; simp)
  replace F : FunD K "_law_other_ends" "_law_other_ends" (defArgs s_law_other_ends) (defBody s_law_other_ends) (defScope s_law_other_ends) [] [] (He.ga K "_law_other_ends") fd := F
  refine ⟨_, fd, ["_law_deal_here", "_law_by", "_law_rest", "_law_texts_here", "_law_fresh"], ?_, G.g "_law_other_ends" (by decide), F.kp, F.bindsN fun _ _ _ _ _ _ us hl => match us, hl with | [_, _, _, _, _], _ => rfl⟩
  have nd : (["_law_deal_here", "_law_by", "_law_rest", "_law_texts_here", "_law_fresh", "_law_form", "_law_renames", "_law_heads_here", "_law_step", "_law_k", "_law_column", "_law_head"] : List Str).Nodup := sc_law_other_ends.nd
  obtain ⟨_, h_LETTERS⟩ := G.hL
  obtain ⟨_, h_LAD⟩ := G.hA
  obtain ⟨_, h_LN⟩ := G.hN
  obtain ⟨_, h_LT⟩ := G.hT
  apply fn_okE (k := 3) (N := ["_law_deal_here", "_law_by", "_law_rest", "_law_texts_here", "_law_fresh", "_law_form", "_law_renames", "_law_heads_here", "_law_step", "_law_k", "_law_column", "_law_head"]) F sc_law_other_ends rfl (by decide)
  intro c cdv A outer s H E hr
  have hu := hr.units
  have tk := takes_of (X := cxOf (L2.CX P w) P w K mg base ["_law_deal_here", "_law_by", "_law_rest", "_law_texts_here", "_law_fresh", "_law_form", "_law_renames", "_law_heads_here", "_law_step", "_law_k", "_law_column", "_law_head"] "_law_other_ends" (defScope s_law_other_ends) (He.ga K "_law_other_ends") cdv A outer s H E) rfl rfl rfl rfl
  apply Exists.intro
  apply Exists.intro
  apply And.intro
  · exact (dss_cons (ds_set 5 nd rfl (by first | exact .inl rfl | exact .inr rfl) (de_fL 0 H_law_draw (hr.mono (by decide)) rfl tk (pv 0) (da_cons de_int da_nil)))
    (dss_cons (ds_if (dt_cmp op_eq rd_eqS (de_var 5) de_int (nomark _)) (dss_one (ds_ret (de_lst (da_cons (de_tup (da_cons de_str (da_cons (de_ix (de_var 4) de_int (fun _ _ => rfl)) (da_cons (de_fL 0 H_law_pick (hr.mono (by decide)) rfl tk (pv 0) (da_cons (de_var 3) da_nil)) da_nil)))) (da_cons (de_tup (da_cons de_str (da_cons (de_op op_addA rd_add (de_var 1) (de_sl (de_var 4) do_none (do_some de_int))) da_nil))) da_nil))))) dss_nil)
    (dss_cons (ds_if (DW.dt (dw_and (dt_cmp op_eq rd_eqS (de_var 5) de_int (nomark _)) (dw_and1 (dt_cmp op_gt rd_gt (de_callB call_len cd_len rfl (G.n "len" (by decide)) (by decide +kernel) (da_cons (de_var 2) da_nil)) de_int (nomark _))))) (dss_one (ds_ret (de_lst (da_cons (de_tup (da_cons de_str (da_cons (de_sl (de_var 2) do_none (do_some de_int)) (da_cons (de_ix (de_var 4) de_int (fun _ _ => rfl)) (da_cons (de_ix (de_var 4) de_int (fun _ _ => rfl)) da_nil))))) (da_cons (de_tup (da_cons de_str (da_cons (de_fL 0 H_law_mixed (hr.mono (by decide)) rfl tk (pv 0) (da_cons (de_op op_addA rd_add (de_var 1) (de_sl (de_var 4) do_none (do_some de_int))) da_nil)) da_nil))) da_nil))))) dss_nil)
    (dss_cons (ds_if (DW.dt (dw_and (dt_cmp op_eq rd_eqS (de_var 5) de_int (nomark _)) (dw_and1 (dt_cmp op_gt rd_gt (de_callB call_len cd_len rfl (G.n "len" (by decide)) (by decide +kernel) (da_cons (de_var 2) da_nil)) de_int (nomark _))))) (dss_cons (ds_set 7 nd rfl (by first | exact .inl rfl | exact .inr rfl) (de_sl (de_fL 0 H_law_heads (hr.mono (by decide)) rfl tk (pv 0) (da_cons (de_var 3) (da_cons (de_var 1) da_nil))) do_none (do_some de_int)))
    (dss_cons (ds_set 8 nd rfl (by first | exact .inl rfl | exact .inr rfl) (de_tup (da_cons de_str (da_cons (de_var 1) (da_cons (de_ix (de_var 2) de_int (fun _ _ => rfl)) (da_cons (de_ix (de_var 2) de_int (fun _ _ => rfl)) (da_cons (de_var 7) da_nil)))))))
    (dss_one (ds_ret (de_op op_addA rd_add (de_lst (da_cons (de_var 8) da_nil)) (de_lcF (own := [("_law_k", 9), ("_law_head", 11)]) rfl nd (dic_of (di_enum rfl (G.n "enumerate" (by decide)) (de_var 7))) (blkOk_by (show blkC ["_law_deal_here", "_law_by", "_law_rest", "_law_texts_here", "_law_fresh", "_law_form", "_law_renames", "_law_heads_here", "_law_step", "_law_k", "_law_column", "_law_head"] (defScope s_law_other_ends) _ _ = true from by decide +kernel)) (by decide) (fun s H C cl fp => (dg_tup rfl (dgs_cons (dg_name 9 nd rfl (by first | exact .inl rfl | exact .inr rfl)) (dgs_cons (dg_name 11 nd rfl (by first | exact .inl rfl | exact .inr rfl)) dgs_nil)))) (fun s H C cl fp => dts_nil) (fun s H C cl fp => (de_tup (da_cons de_str (da_cons (de_var 11) (da_cons (de_ix (de_var 4) (de_var 9) (fun _ _ => rfl)) da_nil))))))))))) dss_nil)
    (dss_cons (ds_if (DW.dt (dw_or (dt_cmp op_gt rd_gt (de_callB call_len cd_len rfl (G.n "len" (by decide)) (by decide +kernel) (da_cons (de_op op_addA rd_add (de_var 1) (de_var 2)) da_nil)) de_int (nomark _)) (dw_or1 (dt_cmp op_eq rd_eqS (de_fL 0 H_law_draw (hr.mono (by decide)) rfl tk (pv 0) (da_cons de_int da_nil)) de_int (nomark _))))) (dss_one (ds_set 2 nd rfl (by first | exact .inl rfl | exact .inr rfl) (de_lst (da_cons (de_fL 0 H_law_pick (hr.mono (by decide)) rfl tk (pv 0) (da_cons (de_var 2) da_nil)) da_nil)))) dss_nil)
    (dss_cons (ds_set 2 nd rfl (by first | exact .inl rfl | exact .inr rfl) (de_sl (de_var 2) do_none (do_some de_int)))
    (dss_cons (ds_setLcF 6 (own := [("_law_k", 9), ("_law_column", 10)]) rfl nd rfl rfl rfl (dic_of (di_enum rfl (G.n "enumerate" (by decide)) (de_var 2))) (blkOk_by (show blkC ["_law_deal_here", "_law_by", "_law_rest", "_law_texts_here", "_law_fresh", "_law_form", "_law_renames", "_law_heads_here", "_law_step", "_law_k", "_law_column", "_law_head"] (defScope s_law_other_ends) _ _ = true from by decide +kernel)) (by decide) (fun s H C cl fp => (dg_tup rfl (dgs_cons (dg_name 9 nd rfl (by first | exact .inl rfl | exact .inr rfl)) (dgs_cons (dg_name 10 nd rfl (by first | exact .inl rfl | exact .inr rfl)) dgs_nil)))) (fun s H C cl fp => dts_nil) (fun s H C cl fp => (de_tup (da_cons de_str (da_cons (de_var 10) (da_cons (de_ix (de_var 4) (de_var 9) (fun _ _ => rfl)) da_nil))))))
    (dss_one (ds_ret (de_op op_addA rd_add (de_lst (da_cons (de_tup (da_cons de_str (da_cons (de_fL 0 H_law_mixed (hr.mono (by decide)) rfl tk (pv 0) (da_cons (de_op op_addA rd_add (de_var 1) (de_var 2)) da_nil)) da_nil))) da_nil)) (de_var 6)))))))))))
  · intro ds F1 X1 hn h
    obtain ⟨bs, rs, ts, rfl, hc, hr1, ht, f⟩ := h
    refine ms_at (e := [.deal, .dat (.lst (bs.map .str)), .dat (.lst (rs.map .str)), .dat (.lst (ts.map .str)), .dat (.lst ((fresh "j").map .str)), .un, .un, .un, .un, .un, .un, .un]) rfl ?_
    have hB : Cols 0 bs := hc.sub (List.sublist_append_left ..) (Nat.zero_le _)
    have hRc : Cols 1 rs := hc.sub (List.sublist_append_right ..) hr1
    have lT := ht.1
    have lB := hB.hi
    have lR := hRc.hi
    have cJ : DL.cutD ((fresh "j").map D.str) none (some 2) = [D.str j0, .str j1] := by rw [cut_strs _ (by decide), show (2 : Int).toNat = 2 from rfl, take_j2]; rfl
    have cJ1 : DL.cutD ((fresh "j").map D.str) none (some 1) = [D.str j0] := by rw [cut_strs _ (by decide), show (1 : Int).toNat = 1 from rfl, take_j1]; rfl
    have sB : ∀ n, n ≤ 10 → (bs.map D.str).length + n ≤ sizeLine := fun n hn => by
      rw [List.length_map]
      exact Nat.le_trans (Nat.add_le_add lB hn) (by decide)
    refine seq_go fun R hR => ?_
    dsimp only [msRet, msRetN, msSeq, msIf, msNext, msExpr, msSet, mtAnd, mtOr, mtNot, mTru, mB, mCB, mCall, maCons, maNil, mVar, mC, mOp, mChain, mIf, mAndV, mOrV, mNotV, mLst, mTup, mMS, gI0, gLen, gEq, gNe, gEqS, gNeS, gIn, gAll, gStrip, truD, start0, dn, mLc, miS, mgName, wipeD, mYes, lcD, List.map_cons, List.map_nil, List.replicate, List.cons_append, List.nil_append, List.getElem?_cons_zero, List.getElem?_cons_succ, List.getElem?_nil, List.append_nil, gLe, gLt, Bool.not_true, Bool.not_false, Bool.false_eq_true, reduceIte, mJoined, mJs, mFmt, maStar, gJoin, mFld, moSome, mSl, gIx, z5, mCallL, miZ, gEqL, gNeL, mIsiT, moNone, gSl, miR1, gAdd, List.set_cons_zero, List.set_cons_succ, decide_true, eq_self, mMake, gRep, gInt, msFor, gAbs, mRev, gGe, gMod, gPow, gI, msPub, mLend, msParOO, msAppPop, msAppO, gDraw, msPar, msPar3, msAsg, mgTup, mgCons, mgNil, DL.gSub, mNeg, gMin, gSl, miEnum]
    refine ⟨trivial, rfl, 5, rfl, by decide, by decide, fun r r0 r1 => hR _ ?_⟩
    clear hR
    refine seq_go fun R hR => ?_
    dsimp only [msRet, msRetN, msSeq, msIf, msNext, msExpr, msSet, mtAnd, mtOr, mtNot, mTru, mB, mCB, mCall, maCons, maNil, mVar, mC, mOp, mChain, mIf, mAndV, mOrV, mNotV, mLst, mTup, mMS, gI0, gLen, gEq, gNe, gEqS, gNeS, gIn, gAll, gStrip, truD, start0, dn, mLc, miS, mgName, wipeD, mYes, lcD, List.map_cons, List.map_nil, List.replicate, List.cons_append, List.nil_append, List.getElem?_cons_zero, List.getElem?_cons_succ, List.getElem?_nil, List.append_nil, gLe, gLt, Bool.not_true, Bool.not_false, Bool.false_eq_true, reduceIte, mJoined, mJs, mFmt, maStar, gJoin, mFld, moSome, mSl, gIx, z5, mCallL, miZ, gEqL, gNeL, mIsiT, moNone, gSl, miR1, gAdd, List.set_cons_zero, List.set_cons_succ, decide_true, eq_self, mMake, gRep, gInt, msFor, gAbs, mRev, gGe, gMod, gPow, gI, msPub, mLend, msParOO, msAppPop, msAppO, gDraw, msPar, msPar3, msAsg, mgTup, mgCons, mgNil, DL.gSub, mNeg, gMin, gSl, miEnum]
    refine goIf (fun e => ?_) (fun e0 => hR _ ?_)
    · refine ⟨_, at_j0, trivial, rfl, _, _, rfl, rfl, strs_pos (by omega), strs_few (by omega), fun x hx => ?_⟩
      obtain ⟨t, htm, rfl⟩ := List.mem_map.mp hx
      rw [cJ1]
      refine ⟨(show 3 ≤ sizeLine from by decide), sB 1 (by decide), (show 2 ≤ sizeLine from by decide), (show 2 ≤ sizeLine from by decide), ?_⟩
      have e6 : bs.map D.str ++ [D.str j0] = (bs ++ [j0]).map D.str := by rw [List.map_append]; rfl
      rw [e6]
      exact f [.put j0 t, .pick (bs ++ [j0])] (Nat.le_of_ble_eq_true rfl) (fa2 ⟨nmJ memj0, txT (ht.2 t htm)⟩ (fa1 (nms_app hB (fa1 memj0) nod_one (by decide) (by decide))))
    clear hR
    refine seq_go fun R hR => ?_
    dsimp only [msRet, msRetN, msSeq, msIf, msNext, msExpr, msSet, mtAnd, mtOr, mtNot, mTru, mB, mCB, mCall, maCons, maNil, mVar, mC, mOp, mChain, mIf, mAndV, mOrV, mNotV, mLst, mTup, mMS, gI0, gLen, gEq, gNe, gEqS, gNeS, gIn, gAll, gStrip, truD, start0, dn, mLc, miS, mgName, wipeD, mYes, lcD, List.map_cons, List.map_nil, List.replicate, List.cons_append, List.nil_append, List.getElem?_cons_zero, List.getElem?_cons_succ, List.getElem?_nil, List.append_nil, gLe, gLt, Bool.not_true, Bool.not_false, Bool.false_eq_true, reduceIte, mJoined, mJs, mFmt, maStar, gJoin, mFld, moSome, mSl, gIx, z5, mCallL, miZ, gEqL, gNeL, mIsiT, moNone, gSl, miR1, gAdd, List.set_cons_zero, List.set_cons_succ, decide_true, eq_self, mMake, gRep, gInt, msFor, gAbs, mRev, gGe, gMod, gPow, gI, msPub, mLend, msParOO, msAppPop, msAppO, gDraw, msPar, msPar3, msAsg, mgTup, mgCons, mgNil, DL.gSub, mNeg, gMin, gSl, miEnum]
    rw [List.length_map]
    refine goIf (fun e => goIf (fun e1 => ?_) (fun e1 => hR _ ?_)) (fun e1 => hR _ ?_)
    · obtain ⟨x0, x1, xr, ex⟩ := two_of (l := rs) (by omega)
      have c2 : DL.cutD (rs.map D.str) none (some 2) = [x0, x1].map D.str := by rw [cut_strs _ (by decide), ex]; rfl
      have n2 : Nms 1 [x0, x1] := (hRc.sub (k := 1) (ds := [x0, x1]) (by rw [ex]; exact List.Sublist.cons₂ _ (List.Sublist.cons₂ _ (List.nil_sublist _))) (Nat.le_of_ble_eq_true rfl)).nms (Nat.le_of_ble_eq_true rfl)
      rw [c2, cJ]
      refine ⟨_, at_j0, _, at_j1, (show 4 ≤ sizeLine from by decide), trivial, sB 2 (by decide), rfl, _, _, rfl, rfl, ?_, fun l' hl' => ?_⟩
      · rw [List.length_append, List.length_map]
        exact Nat.lt_of_le_of_lt (Nat.add_le_add_right lB _) (by decide)
      have e6 : bs.map D.str ++ [D.str j0, .str j1] = (bs ++ [j0, j1]).map D.str := by rw [List.map_append]; rfl
      rw [e6] at hl'
      obtain ⟨ys, rfl, hp⟩ := perm_strs hl'
      exact ⟨(show 2 ≤ sizeLine from by decide), (show 2 ≤ sizeLine from by decide), f [.melt [x0, x1] j0 j1, .pick ys] (Nat.le_of_ble_eq_true rfl) (fa2 ⟨n2, nmJ memj0, nmJ memj1⟩ (fa1 ((nms_app hB j_two nod_two (by decide) (by decide)).perm hp)))⟩
    all_goals
      clear hR
      refine seq_go fun R hR => ?_
      dsimp only [msRet, msRetN, msSeq, msIf, msNext, msExpr, msSet, mtAnd, mtOr, mtNot, mTru, mB, mCB, mCall, maCons, maNil, mVar, mC, mOp, mChain, mIf, mAndV, mOrV, mNotV, mLst, mTup, mMS, gI0, gLen, gEq, gNe, gEqS, gNeS, gIn, gAll, gStrip, truD, start0, dn, mLc, miS, mgName, wipeD, mYes, lcD, List.map_cons, List.map_nil, List.replicate, List.cons_append, List.nil_append, List.getElem?_cons_zero, List.getElem?_cons_succ, List.getElem?_nil, List.append_nil, gLe, gLt, Bool.not_true, Bool.not_false, Bool.false_eq_true, reduceIte, mJoined, mJs, mFmt, maStar, gJoin, mFld, moSome, mSl, gIx, z5, mCallL, miZ, gEqL, gNeL, mIsiT, moNone, gSl, miR1, gAdd, List.set_cons_zero, List.set_cons_succ, decide_true, eq_self, mMake, gRep, gInt, msFor, gAbs, mRev, gGe, gMod, gPow, gI, msPub, mLend, msParOO, msAppPop, msAppO, gDraw, msPar, msPar3, msAsg, mgTup, mgCons, mgNil, DL.gSub, mNeg, gMin, gSl, miEnum]
      rw [List.length_map]
      suffices key : R [.deal, .dat (.lst (bs.map .str)), .dat (.lst (rs.map .str)), .dat (.lst (ts.map .str)), .dat (.lst ((fresh "j").map .str)), .dat (.int r), .un, .un, .un, .un, .un, .un] by
        refine goIf (fun e => goIf (fun e1 => ?_) (fun e1 => key)) (fun e1 => key)
        obtain ⟨x0, x1, xr, ex⟩ := two_of (l := rs) (by omega)
        have a0 : L2.atI (rs.map D.str) 0 = some (.str x0) := by rw [ex]; exact s_at0
        have a1 : L2.atI (rs.map D.str) 1 = some (.str x1) := by rw [ex]; exact s_at1
        have m0 : Nm x0 := nmC (hRc.pool _ (by rw [ex]; exact List.mem_cons_self ..))
        have m1 : Nm x1 := nmC (hRc.pool _ (by rw [ex]; exact List.mem_cons_of_mem _ (List.mem_cons_self ..)))
        refine ⟨trivial, rfl, ts, bs, rfl, ht, hB.nomay, fun hs hh => ?_⟩
        have ch : DL.cutD (hs.map D.str) none (some 2) = (hs.take 2).map D.str := cut_strs _ (by decide)
        dsimp only [strsL, msRet, msRetN, msSeq, msIf, msNext, msExpr, msSet, mtAnd, mtOr, mtNot, mTru, mB, mCB, mCall, maCons, maNil, mVar, mC, mOp, mChain, mIf, mAndV, mOrV, mNotV, mLst, mTup, mMS, gI0, gLen, gEq, gNe, gEqS, gNeS, gIn, gAll, gStrip, truD, start0, dn, mLc, miS, mgName, wipeD, mYes, lcD, List.map_cons, List.map_nil, List.replicate, List.cons_append, List.nil_append, List.getElem?_cons_zero, List.getElem?_cons_succ, List.getElem?_nil, List.append_nil, gLe, gLt, Bool.not_true, Bool.not_false, Bool.false_eq_true, reduceIte, mJoined, mJs, mFmt, maStar, gJoin, mFld, moSome, mSl, gIx, z5, mCallL, miZ, gEqL, gNeL, mIsiT, moNone, gSl, miR1, gAdd, List.set_cons_zero, List.set_cons_succ, decide_true, eq_self, mMake, gRep, gInt, msFor, gAbs, mRev, gGe, gMod, gPow, gI, msPub, mLend, msParOO, msAppPop, msAppO, gDraw, msPar, msPar3, msAsg, mgTup, mgCons, mgNil, DL.gSub, mNeg, gMin, gSl, miEnum]
        rw [ch]
        have h2 : Nms 1 (hs.take 2) := by
          refine ⟨?_, ?_, hh.2.2.1.sublist (List.take_sublist ..), fun x hx => nmH (hh.2.2.2 x (List.mem_of_mem_take hx)).1⟩
          · have := hh.1
            rw [List.length_take]
            omega
          · rw [List.length_take]
            omega
        have h3 : (hs.take 2).length ≤ 2 := by rw [List.length_take]; omega
        generalize hs.take 2 = zs at h2 h3
        refine ⟨_, a0, _, a1, (show 5 ≤ sizeLine from by decide), (show 1 ≤ sizeLine from by decide), ?_, ?_⟩
        · rw [enumD_len, List.length_map]
          exact Nat.lt_of_le_of_lt h3 (by decide)
        rw [enumD_strs]
        refine lcD_gA pairN (fun p => [.deal, .dat (.lst (bs.map .str)), .dat (.lst (rs.map .str)), .dat (.lst (ts.map .str)), .dat (.lst ((fresh "j").map .str)), .dat (.int r), .un, .dat (.lst (zs.map .str)), .dat (toldD (.pivot bs x0 x1 zs)), .dat (.int (p.1 : Int)), .un, .dat (.str p.2)]) (fun _ => true) (fun p => toldD (renS p)) (enumN 0 zs) [] (fun p hp => ⟨fun F' q => ⟨rfl, q⟩, fun F' q => q, fun _ F' q => ?_⟩) ?_
        · obtain ⟨_, k2, _⟩ := enumN_lt zs 0 hp
          dsimp only [msRet, msRetN, msSeq, msIf, msNext, msExpr, msSet, mtAnd, mtOr, mtNot, mTru, mB, mCB, mCall, maCons, maNil, mVar, mC, mOp, mChain, mIf, mAndV, mOrV, mNotV, mLst, mTup, mMS, gI0, gLen, gEq, gNe, gEqS, gNeS, gIn, gAll, gStrip, truD, start0, dn, mLc, miS, mgName, wipeD, mYes, lcD, List.map_cons, List.map_nil, List.replicate, List.cons_append, List.nil_append, List.getElem?_cons_zero, List.getElem?_cons_succ, List.getElem?_nil, List.append_nil, gLe, gLt, Bool.not_true, Bool.not_false, Bool.false_eq_true, reduceIte, mJoined, mJs, mFmt, maStar, gJoin, mFld, moSome, mSl, gIx, z5, mCallL, miZ, gEqL, gNeL, mIsiT, moNone, gSl, miR1, gAdd, List.set_cons_zero, List.set_cons_succ, decide_true, eq_self, mMake, gRep, gInt, msFor, gAbs, mRev, gGe, gMod, gPow, gI, msPub, mLend, msParOO, msAppPop, msAppO, gDraw, msPar, msPar3, msAsg, mgTup, mgCons, mgNil, DL.gSub, mNeg, gMin, gSl, miEnum]
          exact ⟨_, ren_at (by omega), (show 3 ≤ sizeLine from by decide), q⟩
        rw [List.nil_append, List.filter_eq_self.mpr (fun _ _ => rfl)]
        refine ⟨?_, ?_⟩
        · rw [List.length_map, enumN_len]
          exact Nat.le_trans (Nat.add_le_add_left h3 _) (show 1 + 2 ≤ sizeLine from by decide)
        · exact fin_ren f (s := .pivot bs x0 x1 zs) ⟨hB.nms (Nat.zero_le _), m0, m1, h2⟩ h2.2.2.2 (by omega)
      refine hR _ ?_
      clear hR
      refine seq_go fun R hR => ?_
      dsimp only [msRet, msRetN, msSeq, msIf, msNext, msExpr, msSet, mtAnd, mtOr, mtNot, mTru, mB, mCB, mCall, maCons, maNil, mVar, mC, mOp, mChain, mIf, mAndV, mOrV, mNotV, mLst, mTup, mMS, gI0, gLen, gEq, gNe, gEqS, gNeS, gIn, gAll, gStrip, truD, start0, dn, mLc, miS, mgName, wipeD, mYes, lcD, List.map_cons, List.map_nil, List.replicate, List.cons_append, List.nil_append, List.getElem?_cons_zero, List.getElem?_cons_succ, List.getElem?_nil, List.append_nil, gLe, gLt, Bool.not_true, Bool.not_false, Bool.false_eq_true, reduceIte, mJoined, mJs, mFmt, maStar, gJoin, mFld, moSome, mSl, gIx, z5, mCallL, miZ, gEqL, gNeL, mIsiT, moNone, gSl, miR1, gAdd, List.set_cons_zero, List.set_cons_succ, decide_true, eq_self, mMake, gRep, gInt, msFor, gAbs, mRev, gGe, gMod, gPow, gI, msPub, mLend, msParOO, msAppPop, msAppO, gDraw, msPar, msPar3, msAsg, mgTup, mgCons, mgNil, DL.gSub, mNeg, gMin, gSl, miEnum]
      suffices key : ∀ zs : List Str, Cols 1 (bs ++ zs) → 1 ≤ zs.length → R [.deal, .dat (.lst (bs.map .str)), .dat (.lst (zs.map .str)), .dat (.lst (ts.map .str)), .dat (.lst ((fresh "j").map .str)), .dat (.int r), .un, .un, .un, .un, .un, .un] by
        refine ⟨sB _ (by rw [List.length_map]; omega), ?_⟩
        refine goIf (fun z => absurd z (by have := hc.hi; rw [List.length_append] at this; rw [List.length_append, List.length_map, List.length_map]; omega)) (fun _ => ?_)
        refine ⟨trivial, rfl, 2, rfl, by decide, by decide, fun r2 _ _ => ?_⟩
        refine goIf (fun e => ?_) (fun e => key rs hc hr1)
        refine ⟨trivial, rfl, _, _, rfl, rfl, strs_pos (by omega), strs_few (by omega), fun x hx => ?_⟩
        obtain ⟨y, hy, rfl⟩ := List.mem_map.mp hx
        refine ⟨(show 1 ≤ sizeLine from by decide), ?_⟩
        exact key [y] (hc.sub (List.Sublist.append_left (List.singleton_sublist.mpr hy) _) (by rw [List.length_append]; show 1 ≤ bs.length + 1; omega)) (Nat.le_refl 1)
      intro zs hz hz1
      refine hR _ ?_
      clear hR
      refine seq_go fun R hR => ?_
      dsimp only [msRet, msRetN, msSeq, msIf, msNext, msExpr, msSet, mtAnd, mtOr, mtNot, mTru, mB, mCB, mCall, maCons, maNil, mVar, mC, mOp, mChain, mIf, mAndV, mOrV, mNotV, mLst, mTup, mMS, gI0, gLen, gEq, gNe, gEqS, gNeS, gIn, gAll, gStrip, truD, start0, dn, mLc, miS, mgName, wipeD, mYes, lcD, List.map_cons, List.map_nil, List.replicate, List.cons_append, List.nil_append, List.getElem?_cons_zero, List.getElem?_cons_succ, List.getElem?_nil, List.append_nil, gLe, gLt, Bool.not_true, Bool.not_false, Bool.false_eq_true, reduceIte, mJoined, mJs, mFmt, maStar, gJoin, mFld, moSome, mSl, gIx, z5, mCallL, miZ, gEqL, gNeL, mIsiT, moNone, gSl, miR1, gAdd, List.set_cons_zero, List.set_cons_succ, decide_true, eq_self, mMake, gRep, gInt, msFor, gAbs, mRev, gGe, gMod, gPow, gI, msPub, mLend, msParOO, msAppPop, msAppO, gDraw, msPar, msPar3, msAsg, mgTup, mgCons, mgNil, DL.gSub, mNeg, gMin, gSl, miEnum]
      have c3 : DL.cutD (zs.map D.str) none (some 3) = (zs.take 3).map D.str := cut_strs _ (by decide)
      rw [c3]
      have hw : Cols 1 (bs ++ zs.take 3) := hz.sub (List.Sublist.append_left (List.take_sublist ..) _) (by rw [List.length_append, List.length_take]; omega)
      have hw3 : (zs.take 3).length ≤ 3 := by rw [List.length_take]; omega
      refine hR _ ?_
      clear hR
      refine seq_go fun R hR => ?_
      dsimp only [msRet, msRetN, msSeq, msIf, msNext, msExpr, msSet, mtAnd, mtOr, mtNot, mTru, mB, mCB, mCall, maCons, maNil, mVar, mC, mOp, mChain, mIf, mAndV, mOrV, mNotV, mLst, mTup, mMS, gI0, gLen, gEq, gNe, gEqS, gNeS, gIn, gAll, gStrip, truD, start0, dn, mLc, miS, mgName, wipeD, mYes, lcD, List.map_cons, List.map_nil, List.replicate, List.cons_append, List.nil_append, List.getElem?_cons_zero, List.getElem?_cons_succ, List.getElem?_nil, List.append_nil, gLe, gLt, Bool.not_true, Bool.not_false, Bool.false_eq_true, reduceIte, mJoined, mJs, mFmt, maStar, gJoin, mFld, moSome, mSl, gIx, z5, mCallL, miZ, gEqL, gNeL, mIsiT, moNone, gSl, miR1, gAdd, List.set_cons_zero, List.set_cons_succ, decide_true, eq_self, mMake, gRep, gInt, msFor, gAbs, mRev, gGe, gMod, gPow, gI, msPub, mLend, msParOO, msAppPop, msAppO, gDraw, msPar, msPar3, msAsg, mgTup, mgCons, mgNil, DL.gSub, mNeg, gMin, gSl, miEnum]
      generalize zs.take 3 = ws at hw hw3
      refine ⟨?_, ?_⟩
      · rw [enumD_len, List.length_map]
        exact Nat.lt_of_le_of_lt hw3 (by decide)
      rw [enumD_strs]
      have hwN : ∀ x ∈ ws, Nm x := fun x hx => nmC (hw.pool x (List.mem_append_right _ hx))
      refine lcD_gA pairN (fun p => [.deal, .dat (.lst (bs.map .str)), .dat (.lst (ws.map .str)), .dat (.lst (ts.map .str)), .dat (.lst ((fresh "j").map .str)), .dat (.int r), .un, .un, .un, .dat (.int (p.1 : Int)), .dat (.str p.2), .un]) (fun _ => true) (fun p => toldD (renS p)) (enumN 0 ws) [] (fun p hp => ⟨fun F' q => ⟨rfl, q⟩, fun F' q => q, fun _ F' q => ?_⟩) ?_
      · obtain ⟨_, k2, _⟩ := enumN_lt ws 0 hp
        dsimp only [msRet, msRetN, msSeq, msIf, msNext, msExpr, msSet, mtAnd, mtOr, mtNot, mTru, mB, mCB, mCall, maCons, maNil, mVar, mC, mOp, mChain, mIf, mAndV, mOrV, mNotV, mLst, mTup, mMS, gI0, gLen, gEq, gNe, gEqS, gNeS, gIn, gAll, gStrip, truD, start0, dn, mLc, miS, mgName, wipeD, mYes, lcD, List.map_cons, List.map_nil, List.replicate, List.cons_append, List.nil_append, List.getElem?_cons_zero, List.getElem?_cons_succ, List.getElem?_nil, List.append_nil, gLe, gLt, Bool.not_true, Bool.not_false, Bool.false_eq_true, reduceIte, mJoined, mJs, mFmt, maStar, gJoin, mFld, moSome, mSl, gIx, z5, mCallL, miZ, gEqL, gNeL, mIsiT, moNone, gSl, miR1, gAdd, List.set_cons_zero, List.set_cons_succ, decide_true, eq_self, mMake, gRep, gInt, msFor, gAbs, mRev, gGe, gMod, gPow, gI, msPub, mLend, msParOO, msAppPop, msAppO, gDraw, msPar, msPar3, msAsg, mgTup, mgCons, mgNil, DL.gSub, mNeg, gMin, gSl, miEnum]
        exact ⟨_, ren_at (by omega), (show 3 ≤ sizeLine from by decide), q⟩
      rw [List.nil_append, List.filter_eq_self.mpr (fun _ _ => rfl)]
      refine hR _ ?_
      dsimp only [msRet, msRetN, msSeq, msIf, msNext, msExpr, msSet, mtAnd, mtOr, mtNot, mTru, mB, mCB, mCall, maCons, maNil, mVar, mC, mOp, mChain, mIf, mAndV, mOrV, mNotV, mLst, mTup, mMS, gI0, gLen, gEq, gNe, gEqS, gNeS, gIn, gAll, gStrip, truD, start0, dn, mLc, miS, mgName, wipeD, mYes, lcD, List.map_cons, List.map_nil, List.replicate, List.cons_append, List.nil_append, List.getElem?_cons_zero, List.getElem?_cons_succ, List.getElem?_nil, List.append_nil, gLe, gLt, Bool.not_true, Bool.not_false, Bool.false_eq_true, reduceIte, mJoined, mJs, mFmt, maStar, gJoin, mFld, moSome, mSl, gIx, z5, mCallL, miZ, gEqL, gNeL, mIsiT, moNone, gSl, miR1, gAdd, List.set_cons_zero, List.set_cons_succ, decide_true, eq_self, mMake, gRep, gInt, msFor, gAbs, mRev, gGe, gMod, gPow, gI, msPub, mLend, msParOO, msAppPop, msAppO, gDraw, msPar, msPar3, msAsg, mgTup, mgCons, mgNil, DL.gSub, mNeg, gMin, gSl, miEnum]
      refine ⟨trivial, sB _ (by rw [List.length_map]; omega), rfl, _, _, rfl, rfl, ?_, fun l' hl' => ?_⟩
      · rw [List.length_append, List.length_map, List.length_map]
        exact Nat.lt_of_le_of_lt (Nat.add_le_add lB hw3) (by decide)
      rw [← List.map_append] at hl'
      obtain ⟨ys, rfl, hp⟩ := perm_strs hl'
      refine ⟨(show 2 ≤ sizeLine from by decide), (show 1 ≤ sizeLine from by decide), ?_, ?_⟩
      · rw [List.length_map, enumN_len]
        exact Nat.le_trans (Nat.add_le_add_left hw3 _) (show 1 + 3 ≤ sizeLine from by decide)
      · exact fin_ren f (s := .pick ys) ((hw.nms hw.lo).perm hp) hwN (by omega)
end
end K11

set_option Elab.async false
set_option linter.all false
set_option maxRecDepth 100000
set_option maxHeartbeats 4000000
namespace K11
open PySem PySem.Spec PyProof.Rows L2 DL
/-! ### joins and stacks -/
def gBlock : FF := fun ds F _ => ∃ cs ts b, ds = [strsL cs, strsL ts, .bl b] ∧ Cols 2 cs ∧ TxsOk ts ∧ ∀ s : Stp, okS 2 s → F (toldD s)
theorem fresh_eq (p : Str) : (("abcdefghijklmnopqrst" : Str).cps.toList.map fun c => D.str (p ++ (⟨#[c]⟩ : Str))) = (fresh p).map D.str := by
  unfold fresh
  rw [List.map_map]
  rfl
theorem sig_few : (sigD "abcdefghijklmnopqrst").length < sizeLine := by decide +kernel
theorem filter_rest {a b : List Str} (h : (a ++ b).Nodup) : (a ++ b).filter (fun x => !decide (x ∈ a)) = b := by
  rw [List.filter_append, List.filter_eq_nil_iff.mpr (fun x hx => by rw [decide_eq_true hx]; decide), List.filter_eq_self.mpr (fun x hx => ?_), List.nil_append]
  have : x ∉ a := fun z => (List.nodup_append.mp h).2.2 x z x hx rfl
  rw [decide_eq_false this]
  rfl
theorem told_stack {F : D → Prop} {is ss : List Stp} (f : F (toldD (.stack (is ++ ss)))) : F (.tup [.str "stack", .lst (is.map toldD ++ ss.map toldD)]) := by
  have f : F (.tup [.str "stack", .lst (toldDs (is ++ ss))]) := f
  rw [toldDs_eq, List.map_append] at f
  exact f
theorem told_join {F : D → Prop} {cs : List Str} {is ss : List Stp} (f : F (toldD (.join cs (is ++ ss)))) : F (.tup [.str "join", .lst (cs.map D.str), .lst (is.map toldD ++ ss.map toldD)]) := by
  have f : F (.tup [.str "join", strsL cs, .lst (toldDs (is ++ ss))]) := f
  rw [toldDs_eq, List.map_append] at f
  exact f
theorem fa_app {p : Stp → Prop} {is ss : List Stp} (h : ∀ s ∈ is, p s) (k : ∀ s ∈ ss, p s) : ∀ s ∈ is ++ ss, p s := fun s hs => (List.mem_append.mp hs).elim (h s) (k s)
section
variable {P : Program} {w : World} {K : Fg} {mg : Str → Option Value} {base : Heap}
theorem sc_law_block : FnScope ["_law_deal_here", "_law_columns_here", "_law_texts_here", "_law_is_join", "_law_fresh", "_law_first", "_law_text", "_law_inner", "_law_by", "_law_rest", "_law_sign", "_law_name", "_law_column"] ["_law_deal_here", "_law_columns_here", "_law_texts_here", "_law_is_join"] (defScope s_law_block) := ⟨rfl, rfl, rfl, by decide +kernel, rfl, by decide +kernel, by decide +kernel⟩
theorem ok_law_block (G : Glo K mg) (c : He.SaysD fa fn K) (H_law_draw : Fn P w K mg base "_law_draw" 1 1 true gDraw) (H_law_mixed : Fn P w K mg base "_law_mixed" 2 1 true gMixed) (H_law_pick : Fn P w K mg base "_law_pick" 2 1 true gOneOf) (H_law_same_again : Fn P w K mg base "_law_same_again" 4 3 true gSame) (H_law_other_ends : Fn P w K mg base "_law_other_ends" 4 4 true gEnds) : Fn P w K mg base "_law_block" 5 3 true (gBlock) := by
  obtain ⟨fd, F⟩ := c.defs (d := dfn ("_law_block", none) "_law_block" "_law_block" s_law_block) (by unfold fn; simp)
  replace F : FunD K "_law_block" "_law_block" (defArgs s_law_block) (defBody s_law_block) (defScope s_law_block) [] [] (He.ga K "_law_block") fd := F
  refine ⟨_, fd, ["_law_deal_here", "_law_columns_here", "_law_texts_here", "_law_is_join"], ?_, G.g "_law_block" (by decide), F.kp, F.bindsN fun _ _ _ _ _ _ us hl => match us, hl with | [_, _, _, _], _ => rfl⟩
  have nd : (["_law_deal_here", "_law_columns_here", "_law_texts_here", "_law_is_join", "_law_fresh", "_law_first", "_law_text", "_law_inner", "_law_by", "_law_rest", "_law_sign", "_law_name", "_law_column"] : List Str).Nodup := sc_law_block.nd
  obtain ⟨_, h_LETTERS⟩ := G.hL
  obtain ⟨_, h_LAD⟩ := G.hA
  obtain ⟨_, h_LN⟩ := G.hN
  obtain ⟨_, h_LT⟩ := G.hT
  apply fn_okE (k := 4) (N := ["_law_deal_here", "_law_columns_here", "_law_texts_here", "_law_is_join", "_law_fresh", "_law_first", "_law_text", "_law_inner", "_law_by", "_law_rest", "_law_sign", "_law_name", "_law_column"]) F sc_law_block rfl (by decide)
  intro c cdv A outer s H E hr
  have hu := hr.units
  have tk := takes_of (X := cxOf (L2.CX P w) P w K mg base ["_law_deal_here", "_law_columns_here", "_law_texts_here", "_law_is_join", "_law_fresh", "_law_first", "_law_text", "_law_inner", "_law_by", "_law_rest", "_law_sign", "_law_name", "_law_column"] "_law_block" (defScope s_law_block) (He.ga K "_law_block") cdv A outer s H E) rfl rfl rfl rfl
  apply Exists.intro
  apply Exists.intro
  apply And.intro
  · exact (dss_cons (ds_setLcF 4 (own := [("_law_sign", 10)]) rfl nd rfl rfl rfl (dic_of (di_str de_str)) (blkOk_by (show blkC ["_law_deal_here", "_law_columns_here", "_law_texts_here", "_law_is_join", "_law_fresh", "_law_first", "_law_text", "_law_inner", "_law_by", "_law_rest", "_law_sign", "_law_name", "_law_column"] (defScope s_law_block) _ _ = true from by decide +kernel)) (by decide) (fun s H C cl fp => (dg_name 10 nd rfl (by first | exact .inl rfl | exact .inr rfl))) (fun s H C cl fp => dts_nil) (fun s H C cl fp => (de_op op_addA rd_add de_str (de_var 10))))
    (dss_cons (ds_setLcF 4 (own := [("_law_name", 11)]) rfl nd rfl rfl rfl (dic_of (di_seq (de_var 4))) (blkOk_by (show blkC ["_law_deal_here", "_law_columns_here", "_law_texts_here", "_law_is_join", "_law_fresh", "_law_first", "_law_text", "_law_inner", "_law_by", "_law_rest", "_law_sign", "_law_name", "_law_column"] (defScope s_law_block) _ _ = true from by decide +kernel)) (by decide) (fun s H C cl fp => (dg_name 11 nd rfl (by first | exact .inl rfl | exact .inr rfl))) (fun s H C cl fp => (dts_one (DW.dt (dw_and (dt_cmp op_notInA rd_in (de_var 11) (de_var 1) (by rfl)) (dw_and1 (dt_cmp op_notInA rd_in (de_var 11) (de_var 2) (by rfl))))))) (fun s H C cl fp => (de_var 11)))
    (dss_cons (ds_par 5 6 rfl nd rfl rfl (by decide) rfl rfl (da_cons (de_fL 0 H_law_pick (hr.mono (by decide)) rfl tk (pv 0) (da_cons (de_var 1) da_nil)) (da_cons (de_fL 0 H_law_pick (hr.mono (by decide)) rfl tk (pv 0) (da_cons (de_var 2) da_nil)) da_nil)))
    (dss_cons (ds_set 7 nd rfl (by first | exact .inl rfl | exact .inr rfl) (de_sl (de_lst (da_cons (de_fL 0 H_law_pick (hr.mono (by decide)) rfl tk (pv 0) (da_cons (de_lst (da_cons (de_tup (da_cons de_str (da_cons (de_var 5) da_nil))) (da_cons (de_tup (da_cons de_str (da_cons (de_var 5) (da_cons (de_var 6) da_nil)))) da_nil))) da_nil)) da_nil)) do_none (do_some (de_fL 0 H_law_draw (hr.mono (by decide)) rfl tk (pv 0) (da_cons de_int da_nil)))))
    (dss_cons (ds_if (dt_not (dt_truth (de_var 3))) (dss_one (ds_ret (de_tup (da_cons de_str (da_cons (de_op op_addA rd_add (de_var 7) (de_fL 0 H_law_same_again (hr.mono (by decide)) rfl tk (pv 0) (da_cons (de_var 1) (da_cons (de_var 2) (da_cons (de_var 4) da_nil))))) da_nil))))) dss_nil)
    (dss_cons (ds_set 8 nd rfl (by first | exact .inl rfl | exact .inr rfl) (de_sl (de_fL 0 H_law_mixed (hr.mono (by decide)) rfl tk (pv 0) (da_cons (de_var 1) da_nil)) do_none (do_some (de_fL 0 H_law_draw (hr.mono (by decide)) rfl tk (pv 0) (da_cons (de_callB (call_min2 rfl) cd_min rfl (G.n "min" (by decide)) (by decide +kernel) (da_cons de_int (da_cons (de_callB call_len cd_len rfl (G.n "len" (by decide)) (by decide +kernel) (da_cons (de_var 1) da_nil)) da_nil))) da_nil)))))
    (dss_cons (ds_setLcF 9 (own := [("_law_column", 12)]) rfl nd rfl rfl rfl (dic_of (di_seq (de_var 1))) (blkOk_by (show blkC ["_law_deal_here", "_law_columns_here", "_law_texts_here", "_law_is_join", "_law_fresh", "_law_first", "_law_text", "_law_inner", "_law_by", "_law_rest", "_law_sign", "_law_name", "_law_column"] (defScope s_law_block) _ _ = true from by decide +kernel)) (by decide) (fun s H C cl fp => (dg_name 12 nd rfl (by first | exact .inl rfl | exact .inr rfl))) (fun s H C cl fp => (dts_one (dt_cmp op_notInA rd_in (de_var 12) (de_var 8) (by rfl)))) (fun s H C cl fp => (de_var 12)))
    (dss_one (ds_ret (de_tup (da_cons de_str (da_cons (de_var 8) (da_cons (de_op op_addA rd_add (de_var 7) (de_fL 0 H_law_other_ends (hr.mono (by decide)) rfl tk (pv 0) (da_cons (de_var 8) (da_cons (de_var 9) (da_cons (de_var 2) (da_cons (de_var 4) da_nil)))))) da_nil)))))))))))))
  · intro ds F1 X1 hn h
    obtain ⟨cs, ts, b, rfl, hc, ht, f⟩ := h
    refine ms_at (e := [.deal, .dat (.lst (cs.map .str)), .dat (.lst (ts.map .str)), .dat (.bl b), .un, .un, .un, .un, .un, .un, .un, .un, .un]) rfl ?_
    have lT := ht.1
    have lC := hc.hi
    have lC2 := hc.lo
    refine seq_go fun R hR => ?_
    dsimp only [msRet, msRetN, msSeq, msIf, msNext, msExpr, msSet, mtAnd, mtOr, mtNot, mTru, mB, mCB, mCall, maCons, maNil, mVar, mC, mOp, mChain, mIf, mAndV, mOrV, mNotV, mLst, mTup, mMS, gI0, gLen, gEq, gNe, gEqS, gNeS, gIn, gAll, gStrip, truD, start0, dn, mLc, miS, mgName, wipeD, mYes, lcD, List.map_cons, List.map_nil, List.replicate, List.cons_append, List.nil_append, List.getElem?_cons_zero, List.getElem?_cons_succ, List.getElem?_nil, List.append_nil, gLe, gLt, Bool.not_true, Bool.not_false, Bool.false_eq_true, reduceIte, mJoined, mJs, mFmt, maStar, gJoin, mFld, moSome, mSl, gIx, z5, mCallL, miZ, gEqL, gNeL, mIsiT, moNone, gSl, miR1, gAdd, List.set_cons_zero, List.set_cons_succ, decide_true, eq_self, mMake, gRep, gInt, msFor, gAbs, mRev, gGe, gMod, gPow, gI, msPub, mLend, msParOO, msAppPop, msAppO, gDraw, msPar, msPar3, msAsg, mgTup, mgCons, mgNil, DL.gSub, mNeg, gMin, gSl, miEnum]
    refine ⟨sig_few, ?_⟩
    refine lcD_mapA (fun c => D.str ⟨#[c]⟩) (fun c => D.str (("j" : Str) ++ (⟨#[c]⟩ : Str))) ("abcdefghijklmnopqrst" : Str).cps.toList [] (fun c _ F' q => ?_) ?_
    · exact ⟨(show 1 + 1 ≤ sizeLine from by decide), q⟩
    rw [List.nil_append, fresh_eq]
    refine hR _ ?_
    clear hR
    refine seq_go fun R hR => ?_
    dsimp only [msRet, msRetN, msSeq, msIf, msNext, msExpr, msSet, mtAnd, mtOr, mtNot, mTru, mB, mCB, mCall, maCons, maNil, mVar, mC, mOp, mChain, mIf, mAndV, mOrV, mNotV, mLst, mTup, mMS, gI0, gLen, gEq, gNe, gEqS, gNeS, gIn, gAll, gStrip, truD, start0, dn, mLc, miS, mgName, wipeD, mYes, lcD, List.map_cons, List.map_nil, List.replicate, List.cons_append, List.nil_append, List.getElem?_cons_zero, List.getElem?_cons_succ, List.getElem?_nil, List.append_nil, gLe, gLt, Bool.not_true, Bool.not_false, Bool.false_eq_true, reduceIte, mJoined, mJs, mFmt, maStar, gJoin, mFld, moSome, mSl, gIx, z5, mCallL, miZ, gEqL, gNeL, mIsiT, moNone, gSl, miR1, gAdd, List.set_cons_zero, List.set_cons_succ, decide_true, eq_self, mMake, gRep, gInt, msFor, gAbs, mRev, gGe, gMod, gPow, gI, msPub, mLend, msParOO, msAppPop, msAppO, gDraw, msPar, msPar3, msAsg, mgTup, mgCons, mgNil, DL.gSub, mNeg, gMin, gSl, miEnum]
    refine ⟨_, rfl, strs_few (by rw [len_J]; decide), ?_⟩
    refine lcD_gA D.str (fun x => [.deal, .dat (.lst (cs.map .str)), .dat (.lst (ts.map .str)), .dat (.bl b), .dat (.lst ((fresh "j").map .str)), .un, .un, .un, .un, .un, .un, .dat (.str x), .un]) (fun _ => true) D.str (fresh "j") [] (fun x hx => ⟨fun F' q => q, fun F' q => ?_, fun _ F' q => q⟩) ?_
    · dsimp only [msRet, msRetN, msSeq, msIf, msNext, msExpr, msSet, mtAnd, mtOr, mtNot, mTru, mB, mCB, mCall, maCons, maNil, mVar, mC, mOp, mChain, mIf, mAndV, mOrV, mNotV, mLst, mTup, mMS, gI0, gLen, gEq, gNe, gEqS, gNeS, gIn, gAll, gStrip, truD, start0, dn, mLc, miS, mgName, wipeD, mYes, lcD, List.map_cons, List.map_nil, List.replicate, List.cons_append, List.nil_append, List.getElem?_cons_zero, List.getElem?_cons_succ, List.getElem?_nil, List.append_nil, gLe, gLt, Bool.not_true, Bool.not_false, Bool.false_eq_true, reduceIte, mJoined, mJs, mFmt, maStar, gJoin, mFld, moSome, mSl, gIx, z5, mCallL, miZ, gEqL, gNeL, mIsiT, moNone, gSl, miR1, gAdd, List.set_cons_zero, List.set_cons_succ, decide_true, eq_self, mMake, gRep, gInt, msFor, gAbs, mRev, gGe, gMod, gPow, gI, msPub, mLend, msParOO, msAppPop, msAppO, gDraw, msPar, msPar3, msAsg, mgTup, mgCons, mgNil, DL.gSub, mNeg, gMin, gSl, miEnum]
      refine ⟨rfl, DL.flat_strs _, ?_⟩
      rw [inD_strs, decide_eq_false (fun z => jC hx (hc.pool x z))]
      refine iteT ⟨rfl, DL.flat_strs _, ?_⟩
      rw [inD_strs, decide_eq_false (fun z => jT hx (ht.2 x z))]
      exact q
    rw [List.nil_append, List.filter_eq_self.mpr (fun _ _ => rfl)]
    refine hR _ ?_
    clear hR
    refine seq_go fun R hR => ?_
    dsimp only [msRet, msRetN, msSeq, msIf, msNext, msExpr, msSet, mtAnd, mtOr, mtNot, mTru, mB, mCB, mCall, maCons, maNil, mVar, mC, mOp, mChain, mIf, mAndV, mOrV, mNotV, mLst, mTup, mMS, gI0, gLen, gEq, gNe, gEqS, gNeS, gIn, gAll, gStrip, truD, start0, dn, mLc, miS, mgName, wipeD, mYes, lcD, List.map_cons, List.map_nil, List.replicate, List.cons_append, List.nil_append, List.getElem?_cons_zero, List.getElem?_cons_succ, List.getElem?_nil, List.append_nil, gLe, gLt, Bool.not_true, Bool.not_false, Bool.false_eq_true, reduceIte, mJoined, mJs, mFmt, maStar, gJoin, mFld, moSome, mSl, gIx, z5, mCallL, miZ, gEqL, gNeL, mIsiT, moNone, gSl, miR1, gAdd, List.set_cons_zero, List.set_cons_succ, decide_true, eq_self, mMake, gRep, gInt, msFor, gAbs, mRev, gGe, gMod, gPow, gI, msPub, mLend, msParOO, msAppPop, msAppO, gDraw, msPar, msPar3, msAsg, mgTup, mgCons, mgNil, DL.gSub, mNeg, gMin, gSl, miEnum]
    refine ⟨trivial, rfl, _, _, rfl, rfl, strs_pos (by omega), strs_few (by omega), fun x hx => ⟨trivial, rfl, _, _, rfl, rfl, strs_pos (by omega), strs_few (by omega), fun y hy => ?_⟩⟩
    obtain ⟨a, ha, rfl⟩ := List.mem_map.mp hx
    obtain ⟨t, htm, rfl⟩ := List.mem_map.mp hy
    have na : Nm a := nmC (hc.pool a ha)
    have nt : Tx t := txT (ht.2 t htm)
    refine hR _ ?_
    clear hR
    refine seq_go fun R hR => ?_
    suffices key : ∀ is : List Stp, is.length ≤ 1 → (∀ s ∈ is, okS 1 s) → R [.deal, .dat (.lst (cs.map .str)), .dat (.lst (ts.map .str)), .dat (.bl b), .dat (.lst ((fresh "j").map .str)), .dat (.str a), .dat (.str t), .dat (.lst (is.map toldD)), .un, .un, .un, .un, .un] by
      dsimp only [msRet, msRetN, msSeq, msIf, msNext, msExpr, msSet, mtAnd, mtOr, mtNot, mTru, mB, mCB, mCall, maCons, maNil, mVar, mC, mOp, mChain, mIf, mAndV, mOrV, mNotV, mLst, mTup, mMS, gI0, gLen, gEq, gNe, gEqS, gNeS, gIn, gAll, gStrip, truD, start0, dn, mLc, miS, mgName, wipeD, mYes, lcD, List.map_cons, List.map_nil, List.replicate, List.cons_append, List.nil_append, List.getElem?_cons_zero, List.getElem?_cons_succ, List.getElem?_nil, List.append_nil, gLe, gLt, Bool.not_true, Bool.not_false, Bool.false_eq_true, reduceIte, mJoined, mJs, mFmt, maStar, gJoin, mFld, moSome, mSl, gIx, z5, mCallL, miZ, gEqL, gNeL, mIsiT, moNone, gSl, miR1, gAdd, List.set_cons_zero, List.set_cons_succ, decide_true, eq_self, mMake, gRep, gInt, msFor, gAbs, mRev, gGe, gMod, gPow, gI, msPub, mLend, msParOO, msAppPop, msAppO, gDraw, msPar, msPar3, msAsg, mgTup, mgCons, mgNil, DL.gSub, mNeg, gMin, gSl, miEnum]
      have one : ∀ s : Stp, okS 1 s → ∀ r : Int, 0 ≤ r → R [.deal, .dat (.lst (cs.map .str)), .dat (.lst (ts.map .str)), .dat (.bl b), .dat (.lst ((fresh "j").map .str)), .dat (.str a), .dat (.str t), .dat (.lst (DL.cutD [toldD s] none (some r))), .un, .un, .un, .un, .un] := fun s hs r h0 => by
        have e : DL.cutD [toldD s] none (some r) = ([s].take r.toNat).map toldD := by rw [cut_take h0, List.map_take]; rfl
        rw [e]
        exact key _ (by rw [List.length_take]; show min r.toNat 1 ≤ 1; omega) (fun x hx => by cases List.mem_singleton.mp (List.mem_of_mem_take hx); exact hs)
      refine ⟨trivial, (show 2 ≤ sizeLine from by decide), (show 3 ≤ sizeLine from by decide), (show 2 ≤ sizeLine from by decide), rfl, _, _, rfl, rfl, (show 0 < 2 from by decide), (show 2 < 1073741824 from by decide), fun e he => ⟨(show 1 ≤ sizeLine from by decide), trivial, rfl, 2, rfl, by decide, by decide, fun r r0 r1 => ?_⟩⟩
      rcases List.mem_cons.mp he with rfl | he
      · exact one (.has a) na r r0
      · cases List.mem_singleton.mp he
        exact one (.is_ a t) ⟨na, nt⟩ r r0
    intro is li hi
    refine hR _ ?_
    clear hR
    refine seq_go fun R hR => ?_
    dsimp only [msRet, msRetN, msSeq, msIf, msNext, msExpr, msSet, mtAnd, mtOr, mtNot, mTru, mB, mCB, mCall, maCons, maNil, mVar, mC, mOp, mChain, mIf, mAndV, mOrV, mNotV, mLst, mTup, mMS, gI0, gLen, gEq, gNe, gEqS, gNeS, gIn, gAll, gStrip, truD, start0, dn, mLc, miS, mgName, wipeD, mYes, lcD, List.map_cons, List.map_nil, List.replicate, List.cons_append, List.nil_append, List.getElem?_cons_zero, List.getElem?_cons_succ, List.getElem?_nil, List.append_nil, gLe, gLt, Bool.not_true, Bool.not_false, Bool.false_eq_true, reduceIte, mJoined, mJs, mFmt, maStar, gJoin, mFld, moSome, mSl, gIx, z5, mCallL, miZ, gEqL, gNeL, mIsiT, moNone, gSl, miR1, gAdd, List.set_cons_zero, List.set_cons_succ, decide_true, eq_self, mMake, gRep, gInt, msFor, gAbs, mRev, gGe, gMod, gPow, gI, msPub, mLend, msParOO, msAppPop, msAppO, gDraw, msPar, msPar3, msAsg, mgTup, mgCons, mgNil, DL.gSub, mNeg, gMin, gSl, miEnum]
    cases b with
    | false =>
      refine iteT ⟨trivial, rfl, cs, ts, rfl, hc, ht, fun ss ls hs => ?_⟩
      refine ⟨?_, (show 2 ≤ sizeLine from by decide), ?_⟩
      · rw [List.length_map, List.length_map]
        exact Nat.le_trans (Nat.add_le_add li ls) (by decide)
      · exact told_stack (f _ ⟨by rw [List.length_append]; omega, fa_app hi hs⟩)
    | true =>
      refine iteF (hR _ ?_)
      clear hR
      refine seq_go fun R hR => ?_
      dsimp only [msRet, msRetN, msSeq, msIf, msNext, msExpr, msSet, mtAnd, mtOr, mtNot, mTru, mB, mCB, mCall, maCons, maNil, mVar, mC, mOp, mChain, mIf, mAndV, mOrV, mNotV, mLst, mTup, mMS, gI0, gLen, gEq, gNe, gEqS, gNeS, gIn, gAll, gStrip, truD, start0, dn, mLc, miS, mgName, wipeD, mYes, lcD, List.map_cons, List.map_nil, List.replicate, List.cons_append, List.nil_append, List.getElem?_cons_zero, List.getElem?_cons_succ, List.getElem?_nil, List.append_nil, gLe, gLt, Bool.not_true, Bool.not_false, Bool.false_eq_true, reduceIte, mJoined, mJs, mFmt, maStar, gJoin, mFld, moSome, mSl, gIx, z5, mCallL, miZ, gEqL, gNeL, mIsiT, moNone, gSl, miR1, gAdd, List.set_cons_zero, List.set_cons_succ, decide_true, eq_self, mMake, gRep, gInt, msFor, gAbs, mRev, gGe, gMod, gPow, gI, msPub, mLend, msParOO, msAppPop, msAppO, gDraw, msPar, msPar3, msAsg, mgTup, mgCons, mgNil, DL.gSub, mNeg, gMin, gSl, miEnum]
      refine ⟨trivial, rfl, _, _, rfl, rfl, strs_few (by omega), fun l' hl' => ?_⟩
      obtain ⟨ys, rfl, hp⟩ := perm_strs hl'
      have hY := hc.perm hp
      have lY := hp.length_eq
      rw [List.length_map]
      have hm : ∃ m : Int, (if (cs.length : Int) < 3 then (cs.length : Int) else 3) = m ∧ 0 < m ∧ m ≤ 3 ∧ m ≤ cs.length := by
        refine ⟨_, rfl, ?_, ?_, ?_⟩ <;> split <;> omega
      obtain ⟨m, em, m0, m3, mc⟩ := hm
      rw [em]
      refine ⟨trivial, rfl, m, rfl, m0, by omega, fun r r0 r1 => ?_⟩
      show R ([.deal, .dat (.lst (cs.map .str)), .dat (.lst (ts.map .str)), .dat (.bl true), .dat (.lst ((fresh "j").map .str)), .dat (.str a), .dat (.str t), .dat (.lst (is.map toldD)), .dat (.lst (DL.cutD (ys.map D.str) none (some r))), .un, .un, .un, .un])
      rw [cut_strs _ r0]
      have sp : ys.take r.toNat ++ ys.drop r.toNat = ys := List.take_append_drop ..
      have hnY : (ys.take r.toNat ++ ys.drop r.toNat).Nodup := by rw [sp]; exact hY.nd
      have lt : (ys.take r.toNat).length = r.toNat := by rw [List.length_take]; omega
      have ld : (ys.drop r.toNat).length = ys.length - r.toNat := List.length_drop ..
      have pr : (cs.filter fun x => !decide (x ∈ ys.take r.toNat)).Perm (ys.drop r.toNat) := by
        have := hp.symm.filter (fun x => !decide (x ∈ ys.take r.toNat))
        refine this.trans ?_
        have e := filter_rest hnY
        rw [sp] at e
        rw [e]
      have hcB : Cols 1 (ys.take r.toNat ++ (cs.filter fun x => !decide (x ∈ ys.take r.toNat))) := by
        have p2 : (ys.take r.toNat ++ (cs.filter fun x => !decide (x ∈ ys.take r.toNat))).Perm cs := by
          refine (pr.append_left _).trans ?_
          rw [sp]
          exact hp
        have := hc.perm p2
        exact ⟨Nat.le_trans (by decide) this.lo, this.hi, this.nd, this.pool⟩
      have lr : 1 ≤ (cs.filter fun x => !decide (x ∈ ys.take r.toNat)).length := by
        rw [pr.length_eq, ld]
        omega
      refine hR _ ?_
      clear hR
      refine seq_go fun R hR => ?_
      dsimp only [msRet, msRetN, msSeq, msIf, msNext, msExpr, msSet, mtAnd, mtOr, mtNot, mTru, mB, mCB, mCall, maCons, maNil, mVar, mC, mOp, mChain, mIf, mAndV, mOrV, mNotV, mLst, mTup, mMS, gI0, gLen, gEq, gNe, gEqS, gNeS, gIn, gAll, gStrip, truD, start0, dn, mLc, miS, mgName, wipeD, mYes, lcD, List.map_cons, List.map_nil, List.replicate, List.cons_append, List.nil_append, List.getElem?_cons_zero, List.getElem?_cons_succ, List.getElem?_nil, List.append_nil, gLe, gLt, Bool.not_true, Bool.not_false, Bool.false_eq_true, reduceIte, mJoined, mJs, mFmt, maStar, gJoin, mFld, moSome, mSl, gIx, z5, mCallL, miZ, gEqL, gNeL, mIsiT, moNone, gSl, miR1, gAdd, List.set_cons_zero, List.set_cons_succ, decide_true, eq_self, mMake, gRep, gInt, msFor, gAbs, mRev, gGe, gMod, gPow, gI, msPub, mLend, msParOO, msAppPop, msAppO, gDraw, msPar, msPar3, msAsg, mgTup, mgCons, mgNil, DL.gSub, mNeg, gMin, gSl, miEnum]
      generalize ys.take r.toNat = bs at hcB lr
      refine ⟨_, rfl, strs_few (Nat.lt_of_le_of_lt lC (by decide)), ?_⟩
      refine lcD_gA D.str (fun x => [.deal, .dat (.lst (cs.map .str)), .dat (.lst (ts.map .str)), .dat (.bl true), .dat (.lst ((fresh "j").map .str)), .dat (.str a), .dat (.str t), .dat (.lst (is.map toldD)), .dat (.lst (bs.map .str)), .un, .un, .un, .dat (.str x)]) (fun x => !decide (x ∈ bs)) D.str cs [] (fun x hx => ⟨fun F' q => q, fun F' q => ?_, fun _ F' q => q⟩) ?_
      · dsimp only [msRet, msRetN, msSeq, msIf, msNext, msExpr, msSet, mtAnd, mtOr, mtNot, mTru, mB, mCB, mCall, maCons, maNil, mVar, mC, mOp, mChain, mIf, mAndV, mOrV, mNotV, mLst, mTup, mMS, gI0, gLen, gEq, gNe, gEqS, gNeS, gIn, gAll, gStrip, truD, start0, dn, mLc, miS, mgName, wipeD, mYes, lcD, List.map_cons, List.map_nil, List.replicate, List.cons_append, List.nil_append, List.getElem?_cons_zero, List.getElem?_cons_succ, List.getElem?_nil, List.append_nil, gLe, gLt, Bool.not_true, Bool.not_false, Bool.false_eq_true, reduceIte, mJoined, mJs, mFmt, maStar, gJoin, mFld, moSome, mSl, gIx, z5, mCallL, miZ, gEqL, gNeL, mIsiT, moNone, gSl, miR1, gAdd, List.set_cons_zero, List.set_cons_succ, decide_true, eq_self, mMake, gRep, gInt, msFor, gAbs, mRev, gGe, gMod, gPow, gI, msPub, mLend, msParOO, msAppPop, msAppO, gDraw, msPar, msPar3, msAsg, mgTup, mgCons, mgNil, DL.gSub, mNeg, gMin, gSl, miEnum]
        refine ⟨rfl, DL.flat_strs _, ?_⟩
        rw [inD_strs]
        exact q
      rw [List.nil_append]
      generalize (cs.filter fun x => !decide (x ∈ bs)) = rs at hcB lr
      refine hR _ ?_
      dsimp only [msRet, msRetN, msSeq, msIf, msNext, msExpr, msSet, mtAnd, mtOr, mtNot, mTru, mB, mCB, mCall, maCons, maNil, mVar, mC, mOp, mChain, mIf, mAndV, mOrV, mNotV, mLst, mTup, mMS, gI0, gLen, gEq, gNe, gEqS, gNeS, gIn, gAll, gStrip, truD, start0, dn, mLc, miS, mgName, wipeD, mYes, lcD, List.map_cons, List.map_nil, List.replicate, List.cons_append, List.nil_append, List.getElem?_cons_zero, List.getElem?_cons_succ, List.getElem?_nil, List.append_nil, gLe, gLt, Bool.not_true, Bool.not_false, Bool.false_eq_true, reduceIte, mJoined, mJs, mFmt, maStar, gJoin, mFld, moSome, mSl, gIx, z5, mCallL, miZ, gEqL, gNeL, mIsiT, moNone, gSl, miR1, gAdd, List.set_cons_zero, List.set_cons_succ, decide_true, eq_self, mMake, gRep, gInt, msFor, gAbs, mRev, gGe, gMod, gPow, gI, msPub, mLend, msParOO, msAppPop, msAppO, gDraw, msPar, msPar3, msAsg, mgTup, mgCons, mgNil, DL.gSub, mNeg, gMin, gSl, miEnum]
      refine ⟨trivial, rfl, bs, rs, ts, rfl, hcB, lr, ht, fun ss ls hs => ?_⟩
      refine ⟨?_, (show 3 ≤ sizeLine from by decide), ?_⟩
      · rw [List.length_map, List.length_map]
        exact Nat.le_trans (Nat.add_le_add li ls) (by decide)
      · exact told_join (f _ ⟨(hcB.sub (k := 0) (List.sublist_append_left ..) (Nat.zero_le _)).nms (Nat.zero_le _), by rw [List.length_append]; omega, fa_app hi hs⟩)
end
end K11

set_option Elab.async false
set_option linter.all false
set_option maxRecDepth 100000
set_option maxHeartbeats 4000000
namespace K11
open PySem PySem.Spec PyProof.Rows L2 DL
/-! ### a drawn step -/
def gDrawn : FF := fun ds F _ => ∃ cs ts, ds = [strsL cs, strsL ts, .int 1] ∧ Cols 2 cs ∧ TxsOk ts ∧ ∀ s : Stp, okS 2 s → F (toldD s)
theorem cut_any (ys : List Str) (lo hi : Option Int) : DL.cutD (ys.map D.str) lo hi = (DL.cutD ys lo hi).map D.str := by
  unfold DL.cutD
  rw [List.length_map, List.map_take, List.map_drop]
theorem cut_subl (ys : List Str) (lo hi : Option Int) : (DL.cutD ys lo hi).Sublist ys := by
  unfold DL.cutD
  exact (List.take_sublist ..).trans (List.drop_sublist ..)
theorem strs_last {zs : List Str} (h : 1 ≤ zs.length) (hl : zs.length ≤ 100) : ∃ x ∈ zs, L2.atI (zs.map D.str) (-1) = some (.str x) := by
  have hn : zs.length - 1 < zs.length := by omega
  refine ⟨zs[zs.length - 1], List.getElem_mem hn, ?_⟩
  unfold L2.atI
  rw [List.length_map, show L2.ixN zs.length (-1) = some (zs.length - 1) from by
    unfold L2.ixN
    rw [if_neg (by decide), if_pos (by omega)]
    congr 1
    omega]
  show (zs.map D.str)[zs.length - 1]? = _
  rw [List.getElem?_map, List.getElem?_eq_getElem hn]
  rfl
theorem plain_nm {x : Str} (h : Nm x) : DL.plain 20 (.str x) = true := h.2.2
section
variable {P : Program} {w : World} {K : Fg} {mg : Str → Option Value} {base : Heap}
theorem sc_law_drawn : FnScope ["_law_deal_here", "_law_columns_here", "_law_texts_here", "_law_deep", "_law_form", "_law_one", "_law_two", "_law_fresh", "_law_sign", "_law_name", "_law_some", "_law_ends", "_law_by"] ["_law_deal_here", "_law_columns_here", "_law_texts_here", "_law_deep"] (defScope s_law_drawn) := ⟨rfl, rfl, rfl, by decide +kernel, rfl, by decide +kernel, by decide +kernel⟩
theorem ok_law_drawn (G : Glo K mg) (c : He.SaysD fa fn K) (H_law_draw : Fn P w K mg base "_law_draw" 1 1 true gDraw) (H_law_mixed : Fn P w K mg base "_law_mixed" 2 1 true gMixed) (H_law_pick : Fn P w K mg base "_law_pick" 2 1 true gOneOf) (H_law_heads : Fn P w K mg base "_law_heads" 3 2 true gHeads) (H_law_block : Fn P w K mg base "_law_block" 5 3 true gBlock) : Fn P w K mg base "_law_drawn" 6 3 true (gDrawn) := by
  obtain ⟨fd, F⟩ := c.defs (d := dfn ("_law_drawn", none) "_law_drawn" "_law_drawn" s_law_drawn) (by unfold fn; simp)
  replace F : FunD K "_law_drawn" "_law_drawn" (defArgs s_law_drawn) (defBody s_law_drawn) (defScope s_law_drawn) [] [] (He.ga K "_law_drawn") fd := F
  refine ⟨_, fd, ["_law_deal_here", "_law_columns_here", "_law_texts_here", "_law_deep"], ?_, G.g "_law_drawn" (by decide), F.kp, F.bindsN fun _ _ _ _ _ _ us hl => match us, hl with | [_, _, _, _], _ => rfl⟩
  have nd : (["_law_deal_here", "_law_columns_here", "_law_texts_here", "_law_deep", "_law_form", "_law_one", "_law_two", "_law_fresh", "_law_sign", "_law_name", "_law_some", "_law_ends", "_law_by"] : List Str).Nodup := sc_law_drawn.nd
  obtain ⟨_, h_LETTERS⟩ := G.hL
  obtain ⟨_, h_LAD⟩ := G.hA
  obtain ⟨_, h_LN⟩ := G.hN
  obtain ⟨_, h_LT⟩ := G.hT
  apply fn_okE (k := 5) (N := ["_law_deal_here", "_law_columns_here", "_law_texts_here", "_law_deep", "_law_form", "_law_one", "_law_two", "_law_fresh", "_law_sign", "_law_name", "_law_some", "_law_ends", "_law_by"]) F sc_law_drawn rfl (by decide)
  intro c cdv A outer s H E hr
  have hu := hr.units
  have tk := takes_of (X := cxOf (L2.CX P w) P w K mg base ["_law_deal_here", "_law_columns_here", "_law_texts_here", "_law_deep", "_law_form", "_law_one", "_law_two", "_law_fresh", "_law_sign", "_law_name", "_law_some", "_law_ends", "_law_by"] "_law_drawn" (defScope s_law_drawn) (He.ga K "_law_drawn") cdv A outer s H E) rfl rfl rfl rfl
  apply Exists.intro
  apply Exists.intro
  apply And.intro
  · exact (dss_cons (ds_par3 4 5 6 rfl nd rfl rfl rfl (by decide) (by decide) (by decide) rfl rfl rfl (da_cons (de_fL 0 H_law_draw (hr.mono (by decide)) rfl tk (pv 0) (da_cons de_int da_nil)) (da_cons (de_fL 0 H_law_pick (hr.mono (by decide)) rfl tk (pv 0) (da_cons (de_var 1) da_nil)) (da_cons (de_fL 0 H_law_pick (hr.mono (by decide)) rfl tk (pv 0) (da_cons (de_var 1) da_nil)) da_nil))))
    (dss_cons (ds_setLcF 7 (own := [("_law_sign", 8)]) rfl nd rfl rfl rfl (dic_of (di_str de_str)) (blkOk_by (show blkC ["_law_deal_here", "_law_columns_here", "_law_texts_here", "_law_deep", "_law_form", "_law_one", "_law_two", "_law_fresh", "_law_sign", "_law_name", "_law_some", "_law_ends", "_law_by"] (defScope s_law_drawn) _ _ = true from by decide +kernel)) (by decide) (fun s H C cl fp => (dg_name 8 nd rfl (by first | exact .inl rfl | exact .inr rfl))) (fun s H C cl fp => dts_nil) (fun s H C cl fp => (de_op op_addA rd_add de_str (de_var 8))))
    (dss_cons (ds_setLcF 7 (own := [("_law_name", 9)]) rfl nd rfl rfl rfl (dic_of (di_seq (de_var 7))) (blkOk_by (show blkC ["_law_deal_here", "_law_columns_here", "_law_texts_here", "_law_deep", "_law_form", "_law_one", "_law_two", "_law_fresh", "_law_sign", "_law_name", "_law_some", "_law_ends", "_law_by"] (defScope s_law_drawn) _ _ = true from by decide +kernel)) (by decide) (fun s H C cl fp => (dg_name 9 nd rfl (by first | exact .inl rfl | exact .inr rfl))) (fun s H C cl fp => (dts_one (dt_cmp op_notInA rd_in (de_var 9) (de_var 1) (by rfl)))) (fun s H C cl fp => (de_var 9)))
    (dss_cons (ds_if (dt_cmp op_eq rd_eqS (de_var 4) de_int (nomark _)) (dss_one (ds_ret (de_tup (da_cons de_str (da_cons (de_sl (de_fL 0 H_law_mixed (hr.mono (by decide)) rfl tk (pv 0) (da_cons (de_var 1) da_nil)) do_none (do_some (de_op op_addA rd_add de_int (de_fL 0 H_law_draw (hr.mono (by decide)) rfl tk (pv 0) (da_cons (de_callB call_len cd_len rfl (G.n "len" (by decide)) (by decide +kernel) (da_cons (de_var 1) da_nil)) da_nil))))) da_nil))))) dss_nil)
    (dss_cons (ds_if (dt_cmp op_eq rd_eqS (de_var 4) de_int (nomark _)) (dss_one (ds_ret (de_tup (da_cons de_str (da_cons (de_var 5) (da_cons (de_fL 0 H_law_pick (hr.mono (by decide)) rfl tk (pv 0) (da_cons (de_lst (da_cons (de_ix (de_var 7) de_int (fun _ _ => rfl)) (da_cons (de_ix (de_var 7) de_int (fun _ _ => rfl)) (da_cons (de_var 5) da_nil)))) da_nil)) da_nil)))))) dss_nil)
    (dss_cons (ds_if (dt_cmp op_eq rd_eqS (de_var 4) de_int (nomark _)) (dss_one (ds_ret (de_tup (da_cons de_str (da_cons (de_var 5) (da_cons (de_fL 0 H_law_pick (hr.mono (by decide)) rfl tk (pv 0) (da_cons (de_var 2) da_nil)) da_nil)))))) dss_nil)
    (dss_cons (ds_if (DW.dt (dw_and (dt_cmp op_eq rd_eqS (de_var 4) de_int (nomark _)) (dw_and1 (dt_cmp op_lt rd_lt (de_callB call_len cd_len rfl (G.n "len" (by decide)) (by decide +kernel) (da_cons (de_var 1) da_nil)) de_int (nomark _))))) (dss_one (ds_ret (de_tup (da_cons de_str (da_cons (de_ix (de_var 7) de_int (fun _ _ => rfl)) (da_cons (de_fL 0 H_law_pick (hr.mono (by decide)) rfl tk (pv 0) (da_cons (de_var 2) da_nil)) da_nil)))))) dss_nil)
    (dss_cons (ds_if (DW.dt (dw_and (dt_cmp op_eq rd_eqS (de_var 4) de_int (nomark _)) (dw_and1 (dt_cmp (op_neD hu) rd_ne (de_var 5) (de_var 6) (nomark _))))) (dss_one (ds_ret (de_tup (da_cons de_str (da_cons (de_var 5) (da_cons (de_var 6) da_nil)))))) dss_nil)
    (dss_cons (ds_if (dt_cmp op_eq rd_eqS (de_var 4) de_int (nomark _)) (dss_cons (ds_set 10 nd rfl (by first | exact .inl rfl | exact .inr rfl) (de_sl (de_fL 0 H_law_mixed (hr.mono (by decide)) rfl tk (pv 0) (da_cons (de_var 1) da_nil)) do_none (do_some (de_op op_addA rd_add de_int (de_fL 0 H_law_draw (hr.mono (by decide)) rfl tk (pv 0) (da_cons (de_callB (call_min2 rfl) cd_min rfl (G.n "min" (by decide)) (by decide +kernel) (da_cons de_int (da_cons (de_callB call_len cd_len rfl (G.n "len" (by decide)) (by decide +kernel) (da_cons (de_var 1) da_nil)) da_nil))) da_nil))))))
    (dss_cons (ds_set 11 nd rfl (by first | exact .inl rfl | exact .inr rfl) (de_fL 0 H_law_pick (hr.mono (by decide)) rfl tk (pv 0) (da_cons (de_lst (da_cons (de_sl (de_var 7) do_none (do_some de_int)) (da_cons (de_sl (de_var 7) do_none (do_some de_int)) (da_cons (de_lst (da_cons (de_ix (de_var 10) de_int (fun _ _ => rfl)) (da_cons (de_ix (de_var 7) de_int (fun _ _ => rfl)) da_nil))) (da_cons (de_lst (da_cons (de_ix (de_var 7) de_int (fun _ _ => rfl)) (da_cons (de_ix (de_var 10) (de_neg de_int) (fun _ _ => rfl)) da_nil))) da_nil))))) da_nil)))
    (dss_one (ds_ret (de_tup (da_cons de_str (da_cons (de_var 10) (da_cons (de_ix (de_var 11) de_int (fun _ _ => rfl)) (da_cons (de_ix (de_var 11) de_int (fun _ _ => rfl)) da_nil))))))))) dss_nil)
    (dss_cons (ds_if (DW.dt (dw_and (dt_cmp op_eq rd_eqS (de_var 4) de_int (nomark _)) (dw_and1 (dt_cmp op_gt rd_gt (de_callB call_len cd_len rfl (G.n "len" (by decide)) (by decide +kernel) (da_cons (de_var 1) da_nil)) de_int (nomark _))))) (dss_cons (ds_set 10 nd rfl (by first | exact .inl rfl | exact .inr rfl) (de_fL 0 H_law_mixed (hr.mono (by decide)) rfl tk (pv 0) (da_cons (de_var 1) da_nil)))
    (dss_cons (ds_set 12 nd rfl (by first | exact .inl rfl | exact .inr rfl) (de_sl (de_var 10) (do_some de_int) (do_some (de_op op_addA rd_add de_int (de_fL 0 H_law_draw (hr.mono (by decide)) rfl tk (pv 0) (da_cons de_int da_nil))))))
    (dss_one (ds_ret (de_tup (da_cons de_str (da_cons (de_var 12) (da_cons (de_ix (de_var 10) de_int (fun _ _ => rfl)) (da_cons (de_ix (de_var 10) de_int (fun _ _ => rfl)) (da_cons (de_fL 0 H_law_heads (hr.mono (by decide)) rfl tk (pv 0) (da_cons (de_var 2) (da_cons (de_var 12) da_nil))) da_nil)))))))))) dss_nil)
    (dss_cons (ds_if (DW.dt (dw_and (dt_cmp op_gt rd_gt (de_var 4) de_int (nomark _)) (dw_and (dt_cmp op_gt rd_gt (de_var 3) de_int (nomark _)) (dw_and1 (dt_cmp op_lt rd_lt (de_callB call_len cd_len rfl (G.n "len" (by decide)) (by decide +kernel) (da_cons (de_var 1) da_nil)) de_int (nomark _)))))) (dss_one (ds_ret (de_fL 0 H_law_block (hr.mono (by decide)) rfl tk (pv 0) (da_cons (de_var 1) (da_cons (de_var 2) (da_cons (de_cmp op_eq rd_eqS (de_var 4) de_int (nomark _)) da_nil)))))) dss_nil)
    (dss_one (ds_ret (de_tup (da_cons de_str (da_cons (de_var 5) da_nil))))))))))))))))
  · intro ds F1 X1 hn h
    obtain ⟨cs, ts, rfl, hc, ht, f⟩ := h
    refine ms_at (e := [.deal, .dat (.lst (cs.map .str)), .dat (.lst (ts.map .str)), .dat (.int 1), .un, .un, .un, .un, .un, .un, .un, .un, .un]) rfl ?_
    have lT := ht.1
    have lC := hc.hi
    have lC2 := hc.lo
    have cP : DL.cutD ((fresh "p").map D.str) none (some 2) = [D.str p0, .str p1] := by rw [cut_strs _ (by decide), show (2 : Int).toNat = 2 from rfl, take_p2]; rfl
    refine seq_go fun R hR => ?_
    dsimp only [msRet, msRetN, msSeq, msIf, msNext, msExpr, msSet, mtAnd, mtOr, mtNot, mTru, mB, mCB, mCall, maCons, maNil, mVar, mC, mOp, mChain, mIf, mAndV, mOrV, mNotV, mLst, mTup, mMS, gI0, gLen, gEq, gNe, gEqS, gNeS, gIn, gAll, gStrip, truD, start0, dn, mLc, miS, mgName, wipeD, mYes, lcD, List.map_cons, List.map_nil, List.replicate, List.cons_append, List.nil_append, List.getElem?_cons_zero, List.getElem?_cons_succ, List.getElem?_nil, List.append_nil, gLe, gLt, Bool.not_true, Bool.not_false, Bool.false_eq_true, reduceIte, mJoined, mJs, mFmt, maStar, gJoin, mFld, moSome, mSl, gIx, z5, mCallL, miZ, gEqL, gNeL, mIsiT, moNone, gSl, miR1, gAdd, List.set_cons_zero, List.set_cons_succ, decide_true, eq_self, mMake, gRep, gInt, msFor, gAbs, mRev, gGe, gMod, gPow, gI, msPub, mLend, msParOO, msAppPop, msAppO, gDraw, msPar, msPar3, msAsg, mgTup, mgCons, mgNil, DL.gSub, mNeg, gMin, gSl, miEnum]
    refine ⟨trivial, rfl, 10, rfl, by decide, by decide, fun r r0 r1 => ⟨trivial, rfl, _, _, rfl, rfl, strs_pos (by omega), strs_few (by omega), fun x hx => ⟨trivial, rfl, _, _, rfl, rfl, strs_pos (by omega), strs_few (by omega), fun y hy => ?_⟩⟩⟩
    obtain ⟨a, ha, rfl⟩ := List.mem_map.mp hx
    obtain ⟨b, hb, rfl⟩ := List.mem_map.mp hy
    have na : Nm a := nmC (hc.pool a ha)
    have nb : Nm b := nmC (hc.pool b hb)
    refine hR _ ?_
    clear hR
    refine seq_go fun R hR => ?_
    dsimp only [msRet, msRetN, msSeq, msIf, msNext, msExpr, msSet, mtAnd, mtOr, mtNot, mTru, mB, mCB, mCall, maCons, maNil, mVar, mC, mOp, mChain, mIf, mAndV, mOrV, mNotV, mLst, mTup, mMS, gI0, gLen, gEq, gNe, gEqS, gNeS, gIn, gAll, gStrip, truD, start0, dn, mLc, miS, mgName, wipeD, mYes, lcD, List.map_cons, List.map_nil, List.replicate, List.cons_append, List.nil_append, List.getElem?_cons_zero, List.getElem?_cons_succ, List.getElem?_nil, List.append_nil, gLe, gLt, Bool.not_true, Bool.not_false, Bool.false_eq_true, reduceIte, mJoined, mJs, mFmt, maStar, gJoin, mFld, moSome, mSl, gIx, z5, mCallL, miZ, gEqL, gNeL, mIsiT, moNone, gSl, miR1, gAdd, List.set_cons_zero, List.set_cons_succ, decide_true, eq_self, mMake, gRep, gInt, msFor, gAbs, mRev, gGe, gMod, gPow, gI, msPub, mLend, msParOO, msAppPop, msAppO, gDraw, msPar, msPar3, msAsg, mgTup, mgCons, mgNil, DL.gSub, mNeg, gMin, gSl, miEnum]
    refine ⟨sig_few, ?_⟩
    refine lcD_mapA (fun c => D.str ⟨#[c]⟩) (fun c => D.str (("p" : Str) ++ (⟨#[c]⟩ : Str))) ("abcdefghijklmnopqrst" : Str).cps.toList [] (fun c _ F' q => ?_) ?_
    · exact ⟨(show 1 + 1 ≤ sizeLine from by decide), q⟩
    rw [List.nil_append, fresh_eq]
    refine hR _ ?_
    clear hR
    refine seq_go fun R hR => ?_
    dsimp only [msRet, msRetN, msSeq, msIf, msNext, msExpr, msSet, mtAnd, mtOr, mtNot, mTru, mB, mCB, mCall, maCons, maNil, mVar, mC, mOp, mChain, mIf, mAndV, mOrV, mNotV, mLst, mTup, mMS, gI0, gLen, gEq, gNe, gEqS, gNeS, gIn, gAll, gStrip, truD, start0, dn, mLc, miS, mgName, wipeD, mYes, lcD, List.map_cons, List.map_nil, List.replicate, List.cons_append, List.nil_append, List.getElem?_cons_zero, List.getElem?_cons_succ, List.getElem?_nil, List.append_nil, gLe, gLt, Bool.not_true, Bool.not_false, Bool.false_eq_true, reduceIte, mJoined, mJs, mFmt, maStar, gJoin, mFld, moSome, mSl, gIx, z5, mCallL, miZ, gEqL, gNeL, mIsiT, moNone, gSl, miR1, gAdd, List.set_cons_zero, List.set_cons_succ, decide_true, eq_self, mMake, gRep, gInt, msFor, gAbs, mRev, gGe, gMod, gPow, gI, msPub, mLend, msParOO, msAppPop, msAppO, gDraw, msPar, msPar3, msAsg, mgTup, mgCons, mgNil, DL.gSub, mNeg, gMin, gSl, miEnum]
    refine ⟨_, rfl, strs_few (by rw [len_P]; decide), ?_⟩
    refine lcD_gA D.str (fun x => [.deal, .dat (.lst (cs.map .str)), .dat (.lst (ts.map .str)), .dat (.int 1), .dat (.int r), .dat (.str a), .dat (.str b), .dat (.lst ((fresh "p").map .str)), .un, .dat (.str x), .un, .un, .un]) (fun _ => true) D.str (fresh "p") [] (fun x hx => ⟨fun F' q => q, fun F' q => ?_, fun _ F' q => q⟩) ?_
    · dsimp only [msRet, msRetN, msSeq, msIf, msNext, msExpr, msSet, mtAnd, mtOr, mtNot, mTru, mB, mCB, mCall, maCons, maNil, mVar, mC, mOp, mChain, mIf, mAndV, mOrV, mNotV, mLst, mTup, mMS, gI0, gLen, gEq, gNe, gEqS, gNeS, gIn, gAll, gStrip, truD, start0, dn, mLc, miS, mgName, wipeD, mYes, lcD, List.map_cons, List.map_nil, List.replicate, List.cons_append, List.nil_append, List.getElem?_cons_zero, List.getElem?_cons_succ, List.getElem?_nil, List.append_nil, gLe, gLt, Bool.not_true, Bool.not_false, Bool.false_eq_true, reduceIte, mJoined, mJs, mFmt, maStar, gJoin, mFld, moSome, mSl, gIx, z5, mCallL, miZ, gEqL, gNeL, mIsiT, moNone, gSl, miR1, gAdd, List.set_cons_zero, List.set_cons_succ, decide_true, eq_self, mMake, gRep, gInt, msFor, gAbs, mRev, gGe, gMod, gPow, gI, msPub, mLend, msParOO, msAppPop, msAppO, gDraw, msPar, msPar3, msAsg, mgTup, mgCons, mgNil, DL.gSub, mNeg, gMin, gSl, miEnum]
      refine ⟨rfl, DL.flat_strs _, ?_⟩
      rw [inD_strs, decide_eq_false (fun z => pC hx (hc.pool x z))]
      exact q
    rw [List.nil_append, List.filter_eq_self.mpr (fun _ _ => rfl)]
    refine hR _ ?_
    clear hR
    have txt : ∀ {F : D → Prop}, (∀ t, Tx t → F (.str t)) → ∀ x ∈ ts.map D.str, F x := fun h x hx => by
      obtain ⟨t, htm, rfl⟩ := List.mem_map.mp hx
      exact h t (txT (ht.2 t htm))
    refine seq_go fun R hR => ?_
    dsimp only [msRet, msRetN, msSeq, msIf, msNext, msExpr, msSet, mtAnd, mtOr, mtNot, mTru, mB, mCB, mCall, maCons, maNil, mVar, mC, mOp, mChain, mIf, mAndV, mOrV, mNotV, mLst, mTup, mMS, gI0, gLen, gEq, gNe, gEqS, gNeS, gIn, gAll, gStrip, truD, start0, dn, mLc, miS, mgName, wipeD, mYes, lcD, List.map_cons, List.map_nil, List.replicate, List.cons_append, List.nil_append, List.getElem?_cons_zero, List.getElem?_cons_succ, List.getElem?_nil, List.append_nil, gLe, gLt, Bool.not_true, Bool.not_false, Bool.false_eq_true, reduceIte, mJoined, mJs, mFmt, maStar, gJoin, mFld, moSome, mSl, gIx, z5, mCallL, miZ, gEqL, gNeL, mIsiT, moNone, gSl, miR1, gAdd, List.set_cons_zero, List.set_cons_succ, decide_true, eq_self, mMake, gRep, gInt, msFor, gAbs, mRev, gGe, gMod, gPow, gI, msPub, mLend, msParOO, msAppPop, msAppO, gDraw, msPar, msPar3, msAsg, mgTup, mgCons, mgNil, DL.gSub, mNeg, gMin, gSl, miEnum]
    refine goIf (fun e => ?_) (fun e0 => hR _ ?_)
    · refine ⟨trivial, rfl, _, _, rfl, rfl, strs_few (by omega), fun l' hl' => ?_⟩
      obtain ⟨ys, rfl, hp⟩ := perm_strs hl'
      have hY := hc.perm hp
      have lY := hY.lo
      rw [List.length_map]
      refine ⟨trivial, rfl, (cs.length : Int), rfl, by omega, by omega, fun n n0 n1 => ⟨?_, ?_⟩⟩
      · exact (show 2 ≤ sizeLine from by decide)
      show F1 (.tup [.str "pick", .lst (DL.cutD (ys.map D.str) none (some (1 + n)))])
      rw [cut_strs _ (by omega)]
      exact f (.pick _) ((hY.sub (k := 1) (List.take_sublist ..) (by rw [List.length_take]; omega)).nms (by rw [List.length_take]; omega))
    clear hR
    refine seq_go fun R hR => ?_
    dsimp only [msRet, msRetN, msSeq, msIf, msNext, msExpr, msSet, mtAnd, mtOr, mtNot, mTru, mB, mCB, mCall, maCons, maNil, mVar, mC, mOp, mChain, mIf, mAndV, mOrV, mNotV, mLst, mTup, mMS, gI0, gLen, gEq, gNe, gEqS, gNeS, gIn, gAll, gStrip, truD, start0, dn, mLc, miS, mgName, wipeD, mYes, lcD, List.map_cons, List.map_nil, List.replicate, List.cons_append, List.nil_append, List.getElem?_cons_zero, List.getElem?_cons_succ, List.getElem?_nil, List.append_nil, gLe, gLt, Bool.not_true, Bool.not_false, Bool.false_eq_true, reduceIte, mJoined, mJs, mFmt, maStar, gJoin, mFld, moSome, mSl, gIx, z5, mCallL, miZ, gEqL, gNeL, mIsiT, moNone, gSl, miR1, gAdd, List.set_cons_zero, List.set_cons_succ, decide_true, eq_self, mMake, gRep, gInt, msFor, gAbs, mRev, gGe, gMod, gPow, gI, msPub, mLend, msParOO, msAppPop, msAppO, gDraw, msPar, msPar3, msAsg, mgTup, mgCons, mgNil, DL.gSub, mNeg, gMin, gSl, miEnum]
    refine goIf (fun e => ?_) (fun e1 => hR _ ?_)
    · refine ⟨trivial, _, at_p0, _, at_p1, (show 3 ≤ sizeLine from by decide), rfl, _, _, rfl, rfl, (show 0 < 3 from by decide), (show 3 < 1073741824 from by decide), fun x hx => ⟨(show 3 ≤ sizeLine from by decide), ?_⟩⟩
      rcases List.mem_cons.mp hx with rfl | hx
      · exact f (.rename a p0) ⟨na, nmP memp0⟩
      rcases List.mem_cons.mp hx with rfl | hx
      · exact f (.rename a p1) ⟨na, nmP memp1⟩
      cases List.mem_singleton.mp hx
      exact f (.rename a a) ⟨na, na⟩
    clear hR
    refine seq_go fun R hR => ?_
    dsimp only [msRet, msRetN, msSeq, msIf, msNext, msExpr, msSet, mtAnd, mtOr, mtNot, mTru, mB, mCB, mCall, maCons, maNil, mVar, mC, mOp, mChain, mIf, mAndV, mOrV, mNotV, mLst, mTup, mMS, gI0, gLen, gEq, gNe, gEqS, gNeS, gIn, gAll, gStrip, truD, start0, dn, mLc, miS, mgName, wipeD, mYes, lcD, List.map_cons, List.map_nil, List.replicate, List.cons_append, List.nil_append, List.getElem?_cons_zero, List.getElem?_cons_succ, List.getElem?_nil, List.append_nil, gLe, gLt, Bool.not_true, Bool.not_false, Bool.false_eq_true, reduceIte, mJoined, mJs, mFmt, maStar, gJoin, mFld, moSome, mSl, gIx, z5, mCallL, miZ, gEqL, gNeL, mIsiT, moNone, gSl, miR1, gAdd, List.set_cons_zero, List.set_cons_succ, decide_true, eq_self, mMake, gRep, gInt, msFor, gAbs, mRev, gGe, gMod, gPow, gI, msPub, mLend, msParOO, msAppPop, msAppO, gDraw, msPar, msPar3, msAsg, mgTup, mgCons, mgNil, DL.gSub, mNeg, gMin, gSl, miEnum]
    refine goIf (fun e => ?_) (fun e3 => hR _ ?_)
    · exact ⟨trivial, rfl, _, _, rfl, rfl, strs_pos (by omega), strs_few (by omega), txt fun t h => ⟨(show 3 ≤ sizeLine from by decide), f (.is_ a t) ⟨na, h⟩⟩⟩
    clear hR
    refine seq_go fun R hR => ?_
    dsimp only [msRet, msRetN, msSeq, msIf, msNext, msExpr, msSet, mtAnd, mtOr, mtNot, mTru, mB, mCB, mCall, maCons, maNil, mVar, mC, mOp, mChain, mIf, mAndV, mOrV, mNotV, mLst, mTup, mMS, gI0, gLen, gEq, gNe, gEqS, gNeS, gIn, gAll, gStrip, truD, start0, dn, mLc, miS, mgName, wipeD, mYes, lcD, List.map_cons, List.map_nil, List.replicate, List.cons_append, List.nil_append, List.getElem?_cons_zero, List.getElem?_cons_succ, List.getElem?_nil, List.append_nil, gLe, gLt, Bool.not_true, Bool.not_false, Bool.false_eq_true, reduceIte, mJoined, mJs, mFmt, maStar, gJoin, mFld, moSome, mSl, gIx, z5, mCallL, miZ, gEqL, gNeL, mIsiT, moNone, gSl, miR1, gAdd, List.set_cons_zero, List.set_cons_succ, decide_true, eq_self, mMake, gRep, gInt, msFor, gAbs, mRev, gGe, gMod, gPow, gI, msPub, mLend, msParOO, msAppPop, msAppO, gDraw, msPar, msPar3, msAsg, mgTup, mgCons, mgNil, DL.gSub, mNeg, gMin, gSl, miEnum]
    refine goIf (fun e => goIf (fun z => ?_) (fun z => hR _ ?_)) (fun e4 => hR _ ?_)
    · exact ⟨_, at_p0, trivial, rfl, _, _, rfl, rfl, strs_pos (by omega), strs_few (by omega), txt fun t h => ⟨(show 3 ≤ sizeLine from by decide), f (.put p0 t) ⟨nmP memp0, h⟩⟩⟩
    · rw [List.length_map] at z
      omega
    clear hR
    refine seq_go fun R hR => ?_
    dsimp only [msRet, msRetN, msSeq, msIf, msNext, msExpr, msSet, mtAnd, mtOr, mtNot, mTru, mB, mCB, mCall, maCons, maNil, mVar, mC, mOp, mChain, mIf, mAndV, mOrV, mNotV, mLst, mTup, mMS, gI0, gLen, gEq, gNe, gEqS, gNeS, gIn, gAll, gStrip, truD, start0, dn, mLc, miS, mgName, wipeD, mYes, lcD, List.map_cons, List.map_nil, List.replicate, List.cons_append, List.nil_append, List.getElem?_cons_zero, List.getElem?_cons_succ, List.getElem?_nil, List.append_nil, gLe, gLt, Bool.not_true, Bool.not_false, Bool.false_eq_true, reduceIte, mJoined, mJs, mFmt, maStar, gJoin, mFld, moSome, mSl, gIx, z5, mCallL, miZ, gEqL, gNeL, mIsiT, moNone, gSl, miR1, gAdd, List.set_cons_zero, List.set_cons_succ, decide_true, eq_self, mMake, gRep, gInt, msFor, gAbs, mRev, gGe, gMod, gPow, gI, msPub, mLend, msParOO, msAppPop, msAppO, gDraw, msPar, msPar3, msAsg, mgTup, mgCons, mgNil, DL.gSub, mNeg, gMin, gSl, miEnum]
    suffices key : R [.deal, .dat (.lst (cs.map .str)), .dat (.lst (ts.map .str)), .dat (.int 1), .dat (.int r), .dat (.str a), .dat (.str b), .dat (.lst ((fresh "p").map .str)), .un, .un, .un, .un, .un] by
      refine goIf (fun e => ⟨plain_nm na, plain_nm nb, ?_⟩) (fun e5 => key)
      cases eqD (D.str a) (D.str b) with
      | true => exact iteF key
      | false => exact iteT ⟨(show 3 ≤ sizeLine from by decide), f (.alike a b) ⟨na, nb⟩⟩
    refine hR _ ?_
    clear hR
    refine seq_go fun R hR => ?_
    dsimp only [msRet, msRetN, msSeq, msIf, msNext, msExpr, msSet, mtAnd, mtOr, mtNot, mTru, mB, mCB, mCall, maCons, maNil, mVar, mC, mOp, mChain, mIf, mAndV, mOrV, mNotV, mLst, mTup, mMS, gI0, gLen, gEq, gNe, gEqS, gNeS, gIn, gAll, gStrip, truD, start0, dn, mLc, miS, mgName, wipeD, mYes, lcD, List.map_cons, List.map_nil, List.replicate, List.cons_append, List.nil_append, List.getElem?_cons_zero, List.getElem?_cons_succ, List.getElem?_nil, List.append_nil, gLe, gLt, Bool.not_true, Bool.not_false, Bool.false_eq_true, reduceIte, mJoined, mJs, mFmt, maStar, gJoin, mFld, moSome, mSl, gIx, z5, mCallL, miZ, gEqL, gNeL, mIsiT, moNone, gSl, miR1, gAdd, List.set_cons_zero, List.set_cons_succ, decide_true, eq_self, mMake, gRep, gInt, msFor, gAbs, mRev, gGe, gMod, gPow, gI, msPub, mLend, msParOO, msAppPop, msAppO, gDraw, msPar, msPar3, msAsg, mgTup, mgCons, mgNil, DL.gSub, mNeg, gMin, gSl, miEnum]
    refine goIf (fun e => ?_) (fun e6 => hR _ ?_)
    · refine ⟨trivial, rfl, _, _, rfl, rfl, strs_few (by omega), fun l' hl' => ?_⟩
      obtain ⟨ys, rfl, hp⟩ := perm_strs hl'
      have hY := hc.perm hp
      have lY := hY.lo
      rw [List.length_map]
      have hm : ∃ m : Int, (if (cs.length : Int) < 4 then (cs.length : Int) else 4) = m ∧ 0 < m ∧ m ≤ 4 ∧ m ≤ cs.length := by
        refine ⟨_, rfl, ?_, ?_, ?_⟩ <;> split <;> omega
      obtain ⟨m, em, m0, m4, mc⟩ := hm
      rw [em]
      refine ⟨trivial, rfl, m, rfl, m0, by omega, fun n n0 n1 => ?_⟩
      dsimp only [msRet, msRetN, msSeq, msIf, msNext, msExpr, msSet, mtAnd, mtOr, mtNot, mTru, mB, mCB, mCall, maCons, maNil, mVar, mC, mOp, mChain, mIf, mAndV, mOrV, mNotV, mLst, mTup, mMS, gI0, gLen, gEq, gNe, gEqS, gNeS, gIn, gAll, gStrip, truD, start0, dn, mLc, miS, mgName, wipeD, mYes, lcD, List.map_cons, List.map_nil, List.replicate, List.cons_append, List.nil_append, List.getElem?_cons_zero, List.getElem?_cons_succ, List.getElem?_nil, List.append_nil, gLe, gLt, Bool.not_true, Bool.not_false, Bool.false_eq_true, reduceIte, mJoined, mJs, mFmt, maStar, gJoin, mFld, moSome, mSl, gIx, z5, mCallL, miZ, gEqL, gNeL, mIsiT, moNone, gSl, miR1, gAdd, List.set_cons_zero, List.set_cons_succ, decide_true, eq_self, mMake, gRep, gInt, msFor, gAbs, mRev, gGe, gMod, gPow, gI, msPub, mLend, msParOO, msAppPop, msAppO, gDraw, msPar, msPar3, msAsg, mgTup, mgCons, mgNil, DL.gSub, mNeg, gMin, gSl, miEnum]
      rw [cut_strs _ (by omega)]
      have hZ : Cols 1 (ys.take (1 + n).toNat) := hY.sub (List.take_sublist ..) (by rw [List.length_take]; omega)
      generalize ys.take (1 + n).toNat = zs at hZ
      obtain ⟨z0, zr, ez⟩ := one_of hZ.lo
      have a0 : L2.atI (zs.map D.str) 0 = some (.str z0) := by rw [ez]; exact s_at0
      obtain ⟨zl, hzl, al⟩ := strs_last hZ.lo (Nat.le_trans hZ.hi (by decide))
      have n0' : Nm z0 := nmC (hZ.pool _ (by rw [ez]; exact List.mem_cons_self ..))
      have nl : Nm zl := nmC (hZ.pool _ hzl)
      have hZn : Nms 1 zs := hZ.nms hZ.lo
      rw [cP]
      refine ⟨trivial, _, a0, _, at_p0, (show 2 ≤ sizeLine from by decide), _, at_p0, _, al, (show 2 ≤ sizeLine from by decide), (show 4 ≤ sizeLine from by decide), rfl, _, _, rfl, rfl, (show 0 < 4 from by decide), (show 4 < 1073741824 from by decide), fun x hx => ?_⟩
      rcases List.mem_cons.mp hx with rfl | hx
      · exact ⟨_, s_at0 (x := p0) (l := [p1]), _, s_at1 (x := p0) (y := p1) (l := []), (show 4 ≤ sizeLine from by decide), f (.melt zs p0 p1) ⟨hZn, nmP memp0, nmP memp1⟩⟩
      rcases List.mem_cons.mp hx with rfl | hx
      · exact ⟨_, s_at0 (x := p0) (l := [p1]), _, s_at1 (x := p0) (y := p1) (l := []), (show 4 ≤ sizeLine from by decide), f (.melt zs p0 p1) ⟨hZn, nmP memp0, nmP memp1⟩⟩
      rcases List.mem_cons.mp hx with rfl | hx
      · exact ⟨_, s_at0 (x := z0) (l := [p0]), _, s_at1 (x := z0) (y := p0) (l := []), (show 4 ≤ sizeLine from by decide), f (.melt zs z0 p0) ⟨hZn, n0', nmP memp0⟩⟩
      cases List.mem_singleton.mp hx
      exact ⟨_, s_at0 (x := p0) (l := [zl]), _, s_at1 (x := p0) (y := zl) (l := []), (show 4 ≤ sizeLine from by decide), f (.melt zs p0 zl) ⟨hZn, nmP memp0, nl⟩⟩
    clear hR
    refine seq_go fun R hR => ?_
    dsimp only [msRet, msRetN, msSeq, msIf, msNext, msExpr, msSet, mtAnd, mtOr, mtNot, mTru, mB, mCB, mCall, maCons, maNil, mVar, mC, mOp, mChain, mIf, mAndV, mOrV, mNotV, mLst, mTup, mMS, gI0, gLen, gEq, gNe, gEqS, gNeS, gIn, gAll, gStrip, truD, start0, dn, mLc, miS, mgName, wipeD, mYes, lcD, List.map_cons, List.map_nil, List.replicate, List.cons_append, List.nil_append, List.getElem?_cons_zero, List.getElem?_cons_succ, List.getElem?_nil, List.append_nil, gLe, gLt, Bool.not_true, Bool.not_false, Bool.false_eq_true, reduceIte, mJoined, mJs, mFmt, maStar, gJoin, mFld, moSome, mSl, gIx, z5, mCallL, miZ, gEqL, gNeL, mIsiT, moNone, gSl, miR1, gAdd, List.set_cons_zero, List.set_cons_succ, decide_true, eq_self, mMake, gRep, gInt, msFor, gAbs, mRev, gGe, gMod, gPow, gI, msPub, mLend, msParOO, msAppPop, msAppO, gDraw, msPar, msPar3, msAsg, mgTup, mgCons, mgNil, DL.gSub, mNeg, gMin, gSl, miEnum]
    refine goIf (fun e => goIf (fun z => ?_) (fun z => hR _ ?_)) (fun e7 => hR _ ?_)
    · refine ⟨trivial, rfl, _, _, rfl, rfl, strs_few (by omega), fun l' hl' => ?_⟩
      obtain ⟨ys, rfl, hp⟩ := perm_strs hl'
      have hY := hc.perm hp
      obtain ⟨y0, y1, yr, ey⟩ := two_of hY.lo
      have a0 : L2.atI (ys.map D.str) 0 = some (.str y0) := by rw [ey]; exact s_at0
      have a1 : L2.atI (ys.map D.str) 1 = some (.str y1) := by rw [ey]; exact s_at1
      have m0 : Nm y0 := nmC (hY.pool _ (by rw [ey]; exact List.mem_cons_self ..))
      have m1 : Nm y1 := nmC (hY.pool _ (by rw [ey]; exact List.mem_cons_of_mem _ (List.mem_cons_self ..)))
      dsimp only [msRet, msRetN, msSeq, msIf, msNext, msExpr, msSet, mtAnd, mtOr, mtNot, mTru, mB, mCB, mCall, maCons, maNil, mVar, mC, mOp, mChain, mIf, mAndV, mOrV, mNotV, mLst, mTup, mMS, gI0, gLen, gEq, gNe, gEqS, gNeS, gIn, gAll, gStrip, truD, start0, dn, mLc, miS, mgName, wipeD, mYes, lcD, List.map_cons, List.map_nil, List.replicate, List.cons_append, List.nil_append, List.getElem?_cons_zero, List.getElem?_cons_succ, List.getElem?_nil, List.append_nil, gLe, gLt, Bool.not_true, Bool.not_false, Bool.false_eq_true, reduceIte, mJoined, mJs, mFmt, maStar, gJoin, mFld, moSome, mSl, gIx, z5, mCallL, miZ, gEqL, gNeL, mIsiT, moNone, gSl, miR1, gAdd, List.set_cons_zero, List.set_cons_succ, decide_true, eq_self, mMake, gRep, gInt, msFor, gAbs, mRev, gGe, gMod, gPow, gI, msPub, mLend, msParOO, msAppPop, msAppO, gDraw, msPar, msPar3, msAsg, mgTup, mgCons, mgNil, DL.gSub, mNeg, gMin, gSl, miEnum]
      refine ⟨trivial, rfl, 3, rfl, by decide, by decide, fun n n0 n1 => ?_⟩
      rw [cut_any]
      have hB : Cols 0 (DL.cutD ys (some 2) (some (2 + n))) := hY.sub (cut_subl ..) (Nat.zero_le _)
      generalize DL.cutD ys (some 2) (some (2 + n)) = bs at hB
      refine ⟨_, a0, _, a1, trivial, rfl, ts, bs, rfl, ht, hB.nomay, fun hs hh => ⟨(show 5 ≤ sizeLine from by decide), ?_⟩⟩
      exact f (.pivot bs y0 y1 hs) ⟨hB.nms (Nat.zero_le _), m0, m1, hh.1, Nat.le_trans hh.2.1 (by decide), hh.2.2.1, fun x hx => nmH (hh.2.2.2 x hx).1⟩
    · rw [List.length_map] at z
      omega
    clear hR
    refine seq_go fun R hR => ?_
    dsimp only [msRet, msRetN, msSeq, msIf, msNext, msExpr, msSet, mtAnd, mtOr, mtNot, mTru, mB, mCB, mCall, maCons, maNil, mVar, mC, mOp, mChain, mIf, mAndV, mOrV, mNotV, mLst, mTup, mMS, gI0, gLen, gEq, gNe, gEqS, gNeS, gIn, gAll, gStrip, truD, start0, dn, mLc, miS, mgName, wipeD, mYes, lcD, List.map_cons, List.map_nil, List.replicate, List.cons_append, List.nil_append, List.getElem?_cons_zero, List.getElem?_cons_succ, List.getElem?_nil, List.append_nil, gLe, gLt, Bool.not_true, Bool.not_false, Bool.false_eq_true, reduceIte, mJoined, mJs, mFmt, maStar, gJoin, mFld, moSome, mSl, gIx, z5, mCallL, miZ, gEqL, gNeL, mIsiT, moNone, gSl, miR1, gAdd, List.set_cons_zero, List.set_cons_succ, decide_true, eq_self, mMake, gRep, gInt, msFor, gAbs, mRev, gGe, gMod, gPow, gI, msPub, mLend, msParOO, msAppPop, msAppO, gDraw, msPar, msPar3, msAsg, mgTup, mgCons, mgNil, DL.gSub, mNeg, gMin, gSl, miEnum]
    refine goIf (fun e => ?_) (fun e8 => hR _ ?_)
    · refine goIf (fun z2 => ?_) (fun z2 => ?_)
      · exact ⟨trivial, rfl, cs, ts, _, rfl, hc, ht, f⟩
      · rw [List.length_map] at z2
        omega
    dsimp only [msRet, msRetN, msSeq, msIf, msNext, msExpr, msSet, mtAnd, mtOr, mtNot, mTru, mB, mCB, mCall, maCons, maNil, mVar, mC, mOp, mChain, mIf, mAndV, mOrV, mNotV, mLst, mTup, mMS, gI0, gLen, gEq, gNe, gEqS, gNeS, gIn, gAll, gStrip, truD, start0, dn, mLc, miS, mgName, wipeD, mYes, lcD, List.map_cons, List.map_nil, List.replicate, List.cons_append, List.nil_append, List.getElem?_cons_zero, List.getElem?_cons_succ, List.getElem?_nil, List.append_nil, gLe, gLt, Bool.not_true, Bool.not_false, Bool.false_eq_true, reduceIte, mJoined, mJs, mFmt, maStar, gJoin, mFld, moSome, mSl, gIx, z5, mCallL, miZ, gEqL, gNeL, mIsiT, moNone, gSl, miR1, gAdd, List.set_cons_zero, List.set_cons_succ, decide_true, eq_self, mMake, gRep, gInt, msFor, gAbs, mRev, gGe, gMod, gPow, gI, msPub, mLend, msParOO, msAppPop, msAppO, gDraw, msPar, msPar3, msAsg, mgTup, mgCons, mgNil, DL.gSub, mNeg, gMin, gSl, miEnum]
    exact ⟨(show 2 ≤ sizeLine from by decide), f (.has a) na⟩
end
end K11

set_option Elab.async false
set_option linter.all false
set_option maxRecDepth 100000
set_option maxHeartbeats 4000000
namespace K11
open PySem PySem.Spec PyProof.Rows L2 DL
/-! ### steps made as they are told -/
theorem v2_str {K : Fg} {x : Str} (h : x.length ≤ 6) (k : PyData.strOk x = true) : V2 K (.str x) := ⟨⟨trivial, Nat.le_trans h (by decide), k⟩, fun e he => nomatch he⟩
theorem v2_nm {K : Fg} {x : Str} (h : Nm x) : V2 K (.str x) := v2_str (nm_6 h) h.2.2
theorem v2_tx {K : Fg} {x : Str} (h : Tx x) : V2 K (.str x) := v2_str h.2.1 h.2.2
theorem v2_nms {K : Fg} {m : Nat} {cs : List Str} (h : Nms m cs) : V2 K (.lst (cs.map .str)) := by
  refine ⟨⟨trivial, ?_⟩, fun e he => ?_⟩
  · show (cs.map D.str).length ≤ 100
    rw [List.length_map]
    exact Nat.le_trans h.2.1 (by decide)
  · obtain ⟨x, hx, rfl⟩ := List.mem_map.mp (show e ∈ cs.map D.str from he)
    exact (v2_nm (h.2.2.2 x hx)).1
theorem ddS_nodup : ∀ (xs acc : List Str), (acc ++ xs).Nodup → ddS acc xs = acc ++ xs
  | [], acc, _ => (List.append_nil acc).symm
  | x :: xs, acc, h => by
    have hx : x ∉ acc := fun z => (List.nodup_append.mp h).2.2 x z x (List.mem_cons_self ..) rfl
    show (if x ∈ acc then ddS acc xs else ddS (acc ++ [x]) xs) = _
    rw [if_neg hx, ddS_nodup xs (acc ++ [x]) (by rw [List.append_assoc]; exact h), List.append_assoc]
    rfl
theorem names_ok {m : Nat} {cs : List Str} (h : Nms m cs) : namesD (.lst (cs.map .str)) (m : Int) = true := by
  have e1 : (!decide (((cs.map D.str).length : Int) < (m : Int))) = true := by
    rw [List.length_map, decide_eq_false (by have := h.1; omega)]
    rfl
  have e2 : (cs.map D.str).all nameD = true := List.all_eq_true.mpr fun d hd => by
    obtain ⟨x, hx, rfl⟩ := List.mem_map.mp hd
    exact (h.2.2.2 x hx).1
  have e3 : diffD (cs.map D.str) = true := by
    unfold diffD
    rw [strsD_map]
    show decide (((ddS [] cs).length : Int) = ((cs.map D.str).length : Int)) = true
    rw [ddS_nodup cs [] h.2.2.1, List.nil_append, List.length_map]
    exact decide_eq_true rfl
  show (true && (!decide (((cs.map D.str).length : Int) < (m : Int)) && ((cs.map D.str).all nameD && diffD (cs.map D.str)))) = true
  rw [e1, e2, e3]
  rfl
theorem steps_ok {K : Fg} {ss : List Stp} (h : ss.length ≤ 6) : stepsP K (.lst (ss.map (objD K))) := by
  refine ⟨rfl, ?_, fun e he => ?_⟩
  · show (ss.map (objD K)).length ≤ 100
    rw [List.length_map]
    exact Nat.le_trans h (by decide)
  · obtain ⟨s, _, rfl⟩ := List.mem_map.mp (show e ∈ ss.map (objD K) from he)
    obtain ⟨fs, e⟩ := obj_of K s
    rw [e]
    exact mem_cl10 (cls_mem s)
def gMade (K : Fg) (n : Nat) : FF := fun ds F _ => ∃ s, ds = [toldD s] ∧ okS n s ∧ F (objD K s)
/-- what a def that calls itself knows of itself -/
def gRec (g : Nat → FF) : Nat → FF
  | 0 => fun _ _ _ => False
  | n + 1 => g n
theorem made_join {K : Fg} {F : D → Prop} {cs : List Str} {ss : List Stp} (f : F (objD K (.join cs ss))) : F (.obj (He.ga K "Join") [("columns", .tup (cs.map .str)), ("steps", .tup (ss.map (objD K)))]) := by
  have f : F (.obj (He.ga K "Join") [("columns", strsT cs), ("steps", .tup (objDs K ss))]) := f
  rw [objDs_eq] at f
  exact f
theorem made_stack {K : Fg} {F : D → Prop} {ss : List Stp} (f : F (objD K (.stack ss))) : F (.obj (He.ga K "Stack") [("steps", .tup (ss.map (objD K)))]) := by
  have f : F (.obj (He.ga K "Stack") [("steps", .tup (objDs K ss))]) := f
  rw [objDs_eq] at f
  exact f
theorem made_few {ss : List Stp} (h : ss.length ≤ 6) (g : Stp → D) : (ss.map g).length < sizeLine := by
  rw [List.length_map]
  exact Nat.lt_of_le_of_lt h (by decide)
section
variable {P : Program} {w : World} {K : Fg} {mg : Str → Option Value} {base : Heap}
theorem sc_law_made : FnScope ["_law_step", "_law_word", "_law_one"] ["_law_step"] (defScope s_law_made) := ⟨rfl, rfl, rfl, by decide +kernel, rfl, by decide +kernel, by decide +kernel⟩
theorem ok_law_made (G : Glo K mg) (c : He.SaysD fa fn K) {n : Nat} (H_law_made : Fn P w K mg base "_law_made" (n + 5) 1 false (gRec (gMade K) n)) (H_Pick : Mkr P w K mg base "Pick" (He.ga K "Pick") 4 1 (gPick K)) (H_Rename : Mkr P w K mg base "Rename" (He.ga K "Rename") 4 2 (gRename K)) (H_Has : Mkr P w K mg base "Has" (He.ga K "Has") 4 1 (gHas K)) (H_Is : Mkr P w K mg base "Is" (He.ga K "Is") 4 2 (gIs K)) (H_Put : Mkr P w K mg base "Put" (He.ga K "Put") 4 2 (gPut K)) (H_Alike : Mkr P w K mg base "Alike" (He.ga K "Alike") 4 2 (gAlike K)) (H_Melt : Mkr P w K mg base "Melt" (He.ga K "Melt") 4 3 (gMelt K)) (H_Pivot : Mkr P w K mg base "Pivot" (He.ga K "Pivot") 4 4 (gPivot K)) (H_Join : Mkr P w K mg base "Join" (He.ga K "Join") 4 2 (gJoin K)) (H_Stack : Mkr P w K mg base "Stack" (He.ga K "Stack") 4 1 (gStack K)) : Fn P w K mg base "_law_made" (n + 6) 1 false (gMade K n) := by
  obtain ⟨fd, F⟩ := c.defs (d := dfn ("_law_made", none) "_law_made" "_law_made" s_law_made) (by unfold fn; simp)
  replace F : FunD K "_law_made" "_law_made" (defArgs s_law_made) (defBody s_law_made) (defScope s_law_made) [] [] (He.ga K "_law_made") fd := F
  refine ⟨_, fd, ["_law_step"], ?_, G.g "_law_made" (by decide), F.kp, F.bindsN fun _ _ _ _ _ _ us hl => match us, hl with | [_], _ => rfl⟩
  have nd : (["_law_step", "_law_word", "_law_one"] : List Str).Nodup := sc_law_made.nd
  obtain ⟨_, h_LETTERS⟩ := G.hL
  obtain ⟨_, h_LAD⟩ := G.hA
  obtain ⟨_, h_LN⟩ := G.hN
  obtain ⟨_, h_LT⟩ := G.hT
  apply fn_okE (k := n + 5) (N := ["_law_step", "_law_word", "_law_one"]) F sc_law_made rfl (by decide)
  intro c cdv A outer s H E hr
  have hu := hr.units
  have tk := takes_of (X := cxOf (L2.CX P w) P w K mg base ["_law_step", "_law_word", "_law_one"] "_law_made" (defScope s_law_made) (He.ga K "_law_made") cdv A outer s H E) rfl rfl rfl rfl
  apply Exists.intro
  apply Exists.intro
  apply And.intro
  · exact (dss_cons (ds_set 1 nd rfl (by first | exact .inl rfl | exact .inr rfl) (de_ix (de_var 0) de_int (fun _ _ => rfl)))
    (dss_cons (ds_if (dt_cmp op_eq rd_eqS (de_var 1) de_str (nomark _)) (dss_one (ds_ret (de_mk H_Join (hr.mono (by omega)) rfl tk (da_cons (de_ix (de_var 0) de_int (fun _ _ => rfl)) (da_cons (de_lcF (own := [("_law_one", 2)]) rfl nd (dic_of (di_seq (de_ix (de_var 0) de_int (fun _ _ => rfl)))) (blkOk_by (show blkC ["_law_step", "_law_word", "_law_one"] (defScope s_law_made) _ _ = true from by decide +kernel)) (by decide) (fun s H C cl fp => (dg_name 2 nd rfl (by first | exact .inl rfl | exact .inr rfl))) (fun s H C cl fp => dts_nil) (fun s H C cl fp => (de_f H_law_made (hr.mono (by omega)) rfl DL.takes0 (da_cons (de_var 2) da_nil)))) da_nil))))) dss_nil)
    (dss_cons (ds_if (dt_cmp op_eq rd_eqS (de_var 1) de_str (nomark _)) (dss_one (ds_ret (de_mk H_Stack (hr.mono (by omega)) rfl tk (da_cons (de_lcF (own := [("_law_one", 2)]) rfl nd (dic_of (di_seq (de_ix (de_var 0) de_int (fun _ _ => rfl)))) (blkOk_by (show blkC ["_law_step", "_law_word", "_law_one"] (defScope s_law_made) _ _ = true from by decide +kernel)) (by decide) (fun s H C cl fp => (dg_name 2 nd rfl (by first | exact .inl rfl | exact .inr rfl))) (fun s H C cl fp => dts_nil) (fun s H C cl fp => (de_f H_law_made (hr.mono (by omega)) rfl DL.takes0 (da_cons (de_var 2) da_nil)))) da_nil)))) dss_nil)
    (dss_cons (ds_if (dt_cmp op_eq rd_eqS (de_var 1) de_str (nomark _)) (dss_one (ds_ret (de_mk H_Melt (hr.mono (by omega)) rfl tk (da_cons (de_ix (de_var 0) de_int (fun _ _ => rfl)) (da_cons (de_ix (de_var 0) de_int (fun _ _ => rfl)) (da_cons (de_ix (de_var 0) de_int (fun _ _ => rfl)) da_nil)))))) dss_nil)
    (dss_cons (ds_if (dt_cmp op_eq rd_eqS (de_var 1) de_str (nomark _)) (dss_one (ds_ret (de_mk H_Pivot (hr.mono (by omega)) rfl tk (da_cons (de_ix (de_var 0) de_int (fun _ _ => rfl)) (da_cons (de_ix (de_var 0) de_int (fun _ _ => rfl)) (da_cons (de_ix (de_var 0) de_int (fun _ _ => rfl)) (da_cons (de_ix (de_var 0) de_int (fun _ _ => rfl)) da_nil))))))) dss_nil)
    (dss_cons (ds_if (dt_cmp op_inA rd_in (de_var 1) (de_tup (da_cons de_str (da_cons de_str da_nil))) (by rfl)) (dss_one (ds_ret (de_if (dt_cmp op_eq rd_eqS (de_var 1) de_str (nomark _)) (de_mk H_Pick (hr.mono (by omega)) rfl tk (da_cons (de_ix (de_var 0) de_int (fun _ _ => rfl)) da_nil)) (de_mk H_Has (hr.mono (by omega)) rfl tk (da_cons (de_ix (de_var 0) de_int (fun _ _ => rfl)) da_nil))))) dss_nil)
    (dss_cons (ds_if (dt_cmp op_inA rd_in (de_var 1) (de_tup (da_cons de_str (da_cons de_str da_nil))) (by rfl)) (dss_one (ds_ret (de_if (dt_cmp op_eq rd_eqS (de_var 1) de_str (nomark _)) (de_mk H_Is (hr.mono (by omega)) rfl tk (da_cons (de_ix (de_var 0) de_int (fun _ _ => rfl)) (da_cons (de_ix (de_var 0) de_int (fun _ _ => rfl)) da_nil))) (de_mk H_Put (hr.mono (by omega)) rfl tk (da_cons (de_ix (de_var 0) de_int (fun _ _ => rfl)) (da_cons (de_ix (de_var 0) de_int (fun _ _ => rfl)) da_nil)))))) dss_nil)
    (dss_one (ds_ret (de_if (dt_cmp op_eq rd_eqS (de_var 1) de_str (nomark _)) (de_mk H_Rename (hr.mono (by omega)) rfl tk (da_cons (de_ix (de_var 0) de_int (fun _ _ => rfl)) (da_cons (de_ix (de_var 0) de_int (fun _ _ => rfl)) da_nil))) (de_mk H_Alike (hr.mono (by omega)) rfl tk (da_cons (de_ix (de_var 0) de_int (fun _ _ => rfl)) (da_cons (de_ix (de_var 0) de_int (fun _ _ => rfl)) da_nil)))))))))))))
  · intro ds F1 X1 hn h
    obtain ⟨s, rfl, ho, f⟩ := h
    have hl := hn
    cases s with
    | pick cs =>
      rw [okS] at ho
      refine ms_at (e := [.dat (.tup [.str "pick", .lst (cs.map .str)]), .un, .un]) (by rfl) ?_
      refine seq_go fun R hR => ?_
      dsimp only [msRet, msRetN, msSeq, msIf, msNext, msExpr, msSet, mtAnd, mtOr, mtNot, mTru, mB, mCB, mCall, maCons, maNil, mVar, mC, mOp, mChain, mIf, mAndV, mOrV, mNotV, mLst, mTup, mMS, gI0, gLen, gEq, gNe, gEqS, gNeS, gIn, gAll, gStrip, truD, start0, dn, mLc, miS, mgName, wipeD, mYes, lcD, List.map_cons, List.map_nil, List.replicate, List.cons_append, List.nil_append, List.getElem?_cons_zero, List.getElem?_cons_succ, List.getElem?_nil, List.append_nil, gLe, gLt, Bool.not_true, Bool.not_false, Bool.false_eq_true, reduceIte, mJoined, mJs, mFmt, maStar, gJoin, mFld, moSome, mSl, gIx, z5, mCallL, miZ, gEqL, gNeL, mIsiT, moNone, gSl, miR1, gAdd, List.set_cons_zero, List.set_cons_succ, decide_true, eq_self, mMake, gRep, gInt, msFor, gAbs, mRev, gGe, gMod, gPow, gI, msPub, mLend, msParOO, msAppPop, msAppO, gDraw, msPar, msPar3, msAsg, mgTup, mgCons, mgNil, DL.gSub, mNeg, gMin, gSl, miEnum]
      refine ⟨_, rfl, hR _ ?_⟩
      clear hR
      refine seq_go fun R hR => ?_
      dsimp only [msRet, msRetN, msSeq, msIf, msNext, msExpr, msSet, mtAnd, mtOr, mtNot, mTru, mB, mCB, mCall, maCons, maNil, mVar, mC, mOp, mChain, mIf, mAndV, mOrV, mNotV, mLst, mTup, mMS, gI0, gLen, gEq, gNe, gEqS, gNeS, gIn, gAll, gStrip, truD, start0, dn, mLc, miS, mgName, wipeD, mYes, lcD, List.map_cons, List.map_nil, List.replicate, List.cons_append, List.nil_append, List.getElem?_cons_zero, List.getElem?_cons_succ, List.getElem?_nil, List.append_nil, gLe, gLt, Bool.not_true, Bool.not_false, Bool.false_eq_true, reduceIte, mJoined, mJs, mFmt, maStar, gJoin, mFld, moSome, mSl, gIx, z5, mCallL, miZ, gEqL, gNeL, mIsiT, moNone, gSl, miR1, gAdd, List.set_cons_zero, List.set_cons_succ, decide_true, eq_self, mMake, gRep, gInt, msFor, gAbs, mRev, gGe, gMod, gPow, gI, msPub, mLend, msParOO, msAppPop, msAppO, gDraw, msPar, msPar3, msAsg, mgTup, mgCons, mgNil, DL.gSub, mNeg, gMin, gSl, miEnum]
      refine goIf (fun e => absurd e (by decide +kernel)) (fun _ => hR _ ?_)
      clear hR
      refine seq_go fun R hR => ?_
      dsimp only [msRet, msRetN, msSeq, msIf, msNext, msExpr, msSet, mtAnd, mtOr, mtNot, mTru, mB, mCB, mCall, maCons, maNil, mVar, mC, mOp, mChain, mIf, mAndV, mOrV, mNotV, mLst, mTup, mMS, gI0, gLen, gEq, gNe, gEqS, gNeS, gIn, gAll, gStrip, truD, start0, dn, mLc, miS, mgName, wipeD, mYes, lcD, List.map_cons, List.map_nil, List.replicate, List.cons_append, List.nil_append, List.getElem?_cons_zero, List.getElem?_cons_succ, List.getElem?_nil, List.append_nil, gLe, gLt, Bool.not_true, Bool.not_false, Bool.false_eq_true, reduceIte, mJoined, mJs, mFmt, maStar, gJoin, mFld, moSome, mSl, gIx, z5, mCallL, miZ, gEqL, gNeL, mIsiT, moNone, gSl, miR1, gAdd, List.set_cons_zero, List.set_cons_succ, decide_true, eq_self, mMake, gRep, gInt, msFor, gAbs, mRev, gGe, gMod, gPow, gI, msPub, mLend, msParOO, msAppPop, msAppO, gDraw, msPar, msPar3, msAsg, mgTup, mgCons, mgNil, DL.gSub, mNeg, gMin, gSl, miEnum]
      refine goIf (fun e => absurd e (by decide +kernel)) (fun _ => hR _ ?_)
      clear hR
      refine seq_go fun R hR => ?_
      dsimp only [msRet, msRetN, msSeq, msIf, msNext, msExpr, msSet, mtAnd, mtOr, mtNot, mTru, mB, mCB, mCall, maCons, maNil, mVar, mC, mOp, mChain, mIf, mAndV, mOrV, mNotV, mLst, mTup, mMS, gI0, gLen, gEq, gNe, gEqS, gNeS, gIn, gAll, gStrip, truD, start0, dn, mLc, miS, mgName, wipeD, mYes, lcD, List.map_cons, List.map_nil, List.replicate, List.cons_append, List.nil_append, List.getElem?_cons_zero, List.getElem?_cons_succ, List.getElem?_nil, List.append_nil, gLe, gLt, Bool.not_true, Bool.not_false, Bool.false_eq_true, reduceIte, mJoined, mJs, mFmt, maStar, gJoin, mFld, moSome, mSl, gIx, z5, mCallL, miZ, gEqL, gNeL, mIsiT, moNone, gSl, miR1, gAdd, List.set_cons_zero, List.set_cons_succ, decide_true, eq_self, mMake, gRep, gInt, msFor, gAbs, mRev, gGe, gMod, gPow, gI, msPub, mLend, msParOO, msAppPop, msAppO, gDraw, msPar, msPar3, msAsg, mgTup, mgCons, mgNil, DL.gSub, mNeg, gMin, gSl, miEnum]
      refine goIf (fun e => absurd e (by decide +kernel)) (fun _ => hR _ ?_)
      clear hR
      refine seq_go fun R hR => ?_
      dsimp only [msRet, msRetN, msSeq, msIf, msNext, msExpr, msSet, mtAnd, mtOr, mtNot, mTru, mB, mCB, mCall, maCons, maNil, mVar, mC, mOp, mChain, mIf, mAndV, mOrV, mNotV, mLst, mTup, mMS, gI0, gLen, gEq, gNe, gEqS, gNeS, gIn, gAll, gStrip, truD, start0, dn, mLc, miS, mgName, wipeD, mYes, lcD, List.map_cons, List.map_nil, List.replicate, List.cons_append, List.nil_append, List.getElem?_cons_zero, List.getElem?_cons_succ, List.getElem?_nil, List.append_nil, gLe, gLt, Bool.not_true, Bool.not_false, Bool.false_eq_true, reduceIte, mJoined, mJs, mFmt, maStar, gJoin, mFld, moSome, mSl, gIx, z5, mCallL, miZ, gEqL, gNeL, mIsiT, moNone, gSl, miR1, gAdd, List.set_cons_zero, List.set_cons_succ, decide_true, eq_self, mMake, gRep, gInt, msFor, gAbs, mRev, gGe, gMod, gPow, gI, msPub, mLend, msParOO, msAppPop, msAppO, gDraw, msPar, msPar3, msAsg, mgTup, mgCons, mgNil, DL.gSub, mNeg, gMin, gSl, miEnum]
      refine goIf (fun e => absurd e (by decide +kernel)) (fun _ => hR _ ?_)
      clear hR
      refine seq_go fun R hR => ?_
      dsimp only [msRet, msRetN, msSeq, msIf, msNext, msExpr, msSet, mtAnd, mtOr, mtNot, mTru, mB, mCB, mCall, maCons, maNil, mVar, mC, mOp, mChain, mIf, mAndV, mOrV, mNotV, mLst, mTup, mMS, gI0, gLen, gEq, gNe, gEqS, gNeS, gIn, gAll, gStrip, truD, start0, dn, mLc, miS, mgName, wipeD, mYes, lcD, List.map_cons, List.map_nil, List.replicate, List.cons_append, List.nil_append, List.getElem?_cons_zero, List.getElem?_cons_succ, List.getElem?_nil, List.append_nil, gLe, gLt, Bool.not_true, Bool.not_false, Bool.false_eq_true, reduceIte, mJoined, mJs, mFmt, maStar, gJoin, mFld, moSome, mSl, gIx, z5, mCallL, miZ, gEqL, gNeL, mIsiT, moNone, gSl, miR1, gAdd, List.set_cons_zero, List.set_cons_succ, decide_true, eq_self, mMake, gRep, gInt, msFor, gAbs, mRev, gGe, gMod, gPow, gI, msPub, mLend, msParOO, msAppPop, msAppO, gDraw, msPar, msPar3, msAsg, mgTup, mgCons, mgNil, DL.gSub, mNeg, gMin, gSl, miEnum]
      refine ⟨(show 2 ≤ sizeLine from by decide), rfl, rfl, ?_⟩
      rw [show inD (D.str "pick") [D.str "pick", .str "has"] = true from by decide +kernel]
      refine iteT ?_
      refine goIf (fun _ => ?_) (fun e => absurd rfl e)
      exact ⟨_, rfl, rfl, _, rfl, v2_nms ho, names_ok ho, f⟩
    | rename o n2 =>
      rw [okS] at ho
      refine ms_at (e := [.dat (.tup [.str "rename", .str o, .str n2]), .un, .un]) (by rfl) ?_
      refine seq_go fun R hR => ?_
      dsimp only [msRet, msRetN, msSeq, msIf, msNext, msExpr, msSet, mtAnd, mtOr, mtNot, mTru, mB, mCB, mCall, maCons, maNil, mVar, mC, mOp, mChain, mIf, mAndV, mOrV, mNotV, mLst, mTup, mMS, gI0, gLen, gEq, gNe, gEqS, gNeS, gIn, gAll, gStrip, truD, start0, dn, mLc, miS, mgName, wipeD, mYes, lcD, List.map_cons, List.map_nil, List.replicate, List.cons_append, List.nil_append, List.getElem?_cons_zero, List.getElem?_cons_succ, List.getElem?_nil, List.append_nil, gLe, gLt, Bool.not_true, Bool.not_false, Bool.false_eq_true, reduceIte, mJoined, mJs, mFmt, maStar, gJoin, mFld, moSome, mSl, gIx, z5, mCallL, miZ, gEqL, gNeL, mIsiT, moNone, gSl, miR1, gAdd, List.set_cons_zero, List.set_cons_succ, decide_true, eq_self, mMake, gRep, gInt, msFor, gAbs, mRev, gGe, gMod, gPow, gI, msPub, mLend, msParOO, msAppPop, msAppO, gDraw, msPar, msPar3, msAsg, mgTup, mgCons, mgNil, DL.gSub, mNeg, gMin, gSl, miEnum]
      refine ⟨_, rfl, hR _ ?_⟩
      clear hR
      refine seq_go fun R hR => ?_
      dsimp only [msRet, msRetN, msSeq, msIf, msNext, msExpr, msSet, mtAnd, mtOr, mtNot, mTru, mB, mCB, mCall, maCons, maNil, mVar, mC, mOp, mChain, mIf, mAndV, mOrV, mNotV, mLst, mTup, mMS, gI0, gLen, gEq, gNe, gEqS, gNeS, gIn, gAll, gStrip, truD, start0, dn, mLc, miS, mgName, wipeD, mYes, lcD, List.map_cons, List.map_nil, List.replicate, List.cons_append, List.nil_append, List.getElem?_cons_zero, List.getElem?_cons_succ, List.getElem?_nil, List.append_nil, gLe, gLt, Bool.not_true, Bool.not_false, Bool.false_eq_true, reduceIte, mJoined, mJs, mFmt, maStar, gJoin, mFld, moSome, mSl, gIx, z5, mCallL, miZ, gEqL, gNeL, mIsiT, moNone, gSl, miR1, gAdd, List.set_cons_zero, List.set_cons_succ, decide_true, eq_self, mMake, gRep, gInt, msFor, gAbs, mRev, gGe, gMod, gPow, gI, msPub, mLend, msParOO, msAppPop, msAppO, gDraw, msPar, msPar3, msAsg, mgTup, mgCons, mgNil, DL.gSub, mNeg, gMin, gSl, miEnum]
      refine goIf (fun e => absurd e (by decide +kernel)) (fun _ => hR _ ?_)
      clear hR
      refine seq_go fun R hR => ?_
      dsimp only [msRet, msRetN, msSeq, msIf, msNext, msExpr, msSet, mtAnd, mtOr, mtNot, mTru, mB, mCB, mCall, maCons, maNil, mVar, mC, mOp, mChain, mIf, mAndV, mOrV, mNotV, mLst, mTup, mMS, gI0, gLen, gEq, gNe, gEqS, gNeS, gIn, gAll, gStrip, truD, start0, dn, mLc, miS, mgName, wipeD, mYes, lcD, List.map_cons, List.map_nil, List.replicate, List.cons_append, List.nil_append, List.getElem?_cons_zero, List.getElem?_cons_succ, List.getElem?_nil, List.append_nil, gLe, gLt, Bool.not_true, Bool.not_false, Bool.false_eq_true, reduceIte, mJoined, mJs, mFmt, maStar, gJoin, mFld, moSome, mSl, gIx, z5, mCallL, miZ, gEqL, gNeL, mIsiT, moNone, gSl, miR1, gAdd, List.set_cons_zero, List.set_cons_succ, decide_true, eq_self, mMake, gRep, gInt, msFor, gAbs, mRev, gGe, gMod, gPow, gI, msPub, mLend, msParOO, msAppPop, msAppO, gDraw, msPar, msPar3, msAsg, mgTup, mgCons, mgNil, DL.gSub, mNeg, gMin, gSl, miEnum]
      refine goIf (fun e => absurd e (by decide +kernel)) (fun _ => hR _ ?_)
      clear hR
      refine seq_go fun R hR => ?_
      dsimp only [msRet, msRetN, msSeq, msIf, msNext, msExpr, msSet, mtAnd, mtOr, mtNot, mTru, mB, mCB, mCall, maCons, maNil, mVar, mC, mOp, mChain, mIf, mAndV, mOrV, mNotV, mLst, mTup, mMS, gI0, gLen, gEq, gNe, gEqS, gNeS, gIn, gAll, gStrip, truD, start0, dn, mLc, miS, mgName, wipeD, mYes, lcD, List.map_cons, List.map_nil, List.replicate, List.cons_append, List.nil_append, List.getElem?_cons_zero, List.getElem?_cons_succ, List.getElem?_nil, List.append_nil, gLe, gLt, Bool.not_true, Bool.not_false, Bool.false_eq_true, reduceIte, mJoined, mJs, mFmt, maStar, gJoin, mFld, moSome, mSl, gIx, z5, mCallL, miZ, gEqL, gNeL, mIsiT, moNone, gSl, miR1, gAdd, List.set_cons_zero, List.set_cons_succ, decide_true, eq_self, mMake, gRep, gInt, msFor, gAbs, mRev, gGe, gMod, gPow, gI, msPub, mLend, msParOO, msAppPop, msAppO, gDraw, msPar, msPar3, msAsg, mgTup, mgCons, mgNil, DL.gSub, mNeg, gMin, gSl, miEnum]
      refine goIf (fun e => absurd e (by decide +kernel)) (fun _ => hR _ ?_)
      clear hR
      refine seq_go fun R hR => ?_
      dsimp only [msRet, msRetN, msSeq, msIf, msNext, msExpr, msSet, mtAnd, mtOr, mtNot, mTru, mB, mCB, mCall, maCons, maNil, mVar, mC, mOp, mChain, mIf, mAndV, mOrV, mNotV, mLst, mTup, mMS, gI0, gLen, gEq, gNe, gEqS, gNeS, gIn, gAll, gStrip, truD, start0, dn, mLc, miS, mgName, wipeD, mYes, lcD, List.map_cons, List.map_nil, List.replicate, List.cons_append, List.nil_append, List.getElem?_cons_zero, List.getElem?_cons_succ, List.getElem?_nil, List.append_nil, gLe, gLt, Bool.not_true, Bool.not_false, Bool.false_eq_true, reduceIte, mJoined, mJs, mFmt, maStar, gJoin, mFld, moSome, mSl, gIx, z5, mCallL, miZ, gEqL, gNeL, mIsiT, moNone, gSl, miR1, gAdd, List.set_cons_zero, List.set_cons_succ, decide_true, eq_self, mMake, gRep, gInt, msFor, gAbs, mRev, gGe, gMod, gPow, gI, msPub, mLend, msParOO, msAppPop, msAppO, gDraw, msPar, msPar3, msAsg, mgTup, mgCons, mgNil, DL.gSub, mNeg, gMin, gSl, miEnum]
      refine goIf (fun e => absurd e (by decide +kernel)) (fun _ => hR _ ?_)
      clear hR
      refine seq_go fun R hR => ?_
      dsimp only [msRet, msRetN, msSeq, msIf, msNext, msExpr, msSet, mtAnd, mtOr, mtNot, mTru, mB, mCB, mCall, maCons, maNil, mVar, mC, mOp, mChain, mIf, mAndV, mOrV, mNotV, mLst, mTup, mMS, gI0, gLen, gEq, gNe, gEqS, gNeS, gIn, gAll, gStrip, truD, start0, dn, mLc, miS, mgName, wipeD, mYes, lcD, List.map_cons, List.map_nil, List.replicate, List.cons_append, List.nil_append, List.getElem?_cons_zero, List.getElem?_cons_succ, List.getElem?_nil, List.append_nil, gLe, gLt, Bool.not_true, Bool.not_false, Bool.false_eq_true, reduceIte, mJoined, mJs, mFmt, maStar, gJoin, mFld, moSome, mSl, gIx, z5, mCallL, miZ, gEqL, gNeL, mIsiT, moNone, gSl, miR1, gAdd, List.set_cons_zero, List.set_cons_succ, decide_true, eq_self, mMake, gRep, gInt, msFor, gAbs, mRev, gGe, gMod, gPow, gI, msPub, mLend, msParOO, msAppPop, msAppO, gDraw, msPar, msPar3, msAsg, mgTup, mgCons, mgNil, DL.gSub, mNeg, gMin, gSl, miEnum]
      refine ⟨(show 2 ≤ sizeLine from by decide), rfl, rfl, ?_⟩
      rw [show inD (D.str "rename") [D.str "pick", .str "has"] = false from by decide +kernel]
      refine iteF (hR _ ?_)
      clear hR
      refine seq_go fun R hR => ?_
      dsimp only [msRet, msRetN, msSeq, msIf, msNext, msExpr, msSet, mtAnd, mtOr, mtNot, mTru, mB, mCB, mCall, maCons, maNil, mVar, mC, mOp, mChain, mIf, mAndV, mOrV, mNotV, mLst, mTup, mMS, gI0, gLen, gEq, gNe, gEqS, gNeS, gIn, gAll, gStrip, truD, start0, dn, mLc, miS, mgName, wipeD, mYes, lcD, List.map_cons, List.map_nil, List.replicate, List.cons_append, List.nil_append, List.getElem?_cons_zero, List.getElem?_cons_succ, List.getElem?_nil, List.append_nil, gLe, gLt, Bool.not_true, Bool.not_false, Bool.false_eq_true, reduceIte, mJoined, mJs, mFmt, maStar, gJoin, mFld, moSome, mSl, gIx, z5, mCallL, miZ, gEqL, gNeL, mIsiT, moNone, gSl, miR1, gAdd, List.set_cons_zero, List.set_cons_succ, decide_true, eq_self, mMake, gRep, gInt, msFor, gAbs, mRev, gGe, gMod, gPow, gI, msPub, mLend, msParOO, msAppPop, msAppO, gDraw, msPar, msPar3, msAsg, mgTup, mgCons, mgNil, DL.gSub, mNeg, gMin, gSl, miEnum]
      refine ⟨(show 2 ≤ sizeLine from by decide), rfl, rfl, ?_⟩
      rw [show inD (D.str "rename") [D.str "is", .str "put"] = false from by decide +kernel]
      refine iteF (hR _ ?_)
      clear hR
      dsimp only [msRet, msRetN, msSeq, msIf, msNext, msExpr, msSet, mtAnd, mtOr, mtNot, mTru, mB, mCB, mCall, maCons, maNil, mVar, mC, mOp, mChain, mIf, mAndV, mOrV, mNotV, mLst, mTup, mMS, gI0, gLen, gEq, gNe, gEqS, gNeS, gIn, gAll, gStrip, truD, start0, dn, mLc, miS, mgName, wipeD, mYes, lcD, List.map_cons, List.map_nil, List.replicate, List.cons_append, List.nil_append, List.getElem?_cons_zero, List.getElem?_cons_succ, List.getElem?_nil, List.append_nil, gLe, gLt, Bool.not_true, Bool.not_false, Bool.false_eq_true, reduceIte, mJoined, mJs, mFmt, maStar, gJoin, mFld, moSome, mSl, gIx, z5, mCallL, miZ, gEqL, gNeL, mIsiT, moNone, gSl, miR1, gAdd, List.set_cons_zero, List.set_cons_succ, decide_true, eq_self, mMake, gRep, gInt, msFor, gAbs, mRev, gGe, gMod, gPow, gI, msPub, mLend, msParOO, msAppPop, msAppO, gDraw, msPar, msPar3, msAsg, mgTup, mgCons, mgNil, DL.gSub, mNeg, gMin, gSl, miEnum]
      refine goIf (fun _ => ?_) (fun e => absurd rfl e)
      exact ⟨_, rfl, _, rfl, rfl, _, _, rfl, v2_nm ho.1, v2_nm ho.2, ho.1.1, ho.2.1, f⟩
    | has a =>
      rw [okS] at ho
      refine ms_at (e := [.dat (.tup [.str "has", .str a]), .un, .un]) (by rfl) ?_
      refine seq_go fun R hR => ?_
      dsimp only [msRet, msRetN, msSeq, msIf, msNext, msExpr, msSet, mtAnd, mtOr, mtNot, mTru, mB, mCB, mCall, maCons, maNil, mVar, mC, mOp, mChain, mIf, mAndV, mOrV, mNotV, mLst, mTup, mMS, gI0, gLen, gEq, gNe, gEqS, gNeS, gIn, gAll, gStrip, truD, start0, dn, mLc, miS, mgName, wipeD, mYes, lcD, List.map_cons, List.map_nil, List.replicate, List.cons_append, List.nil_append, List.getElem?_cons_zero, List.getElem?_cons_succ, List.getElem?_nil, List.append_nil, gLe, gLt, Bool.not_true, Bool.not_false, Bool.false_eq_true, reduceIte, mJoined, mJs, mFmt, maStar, gJoin, mFld, moSome, mSl, gIx, z5, mCallL, miZ, gEqL, gNeL, mIsiT, moNone, gSl, miR1, gAdd, List.set_cons_zero, List.set_cons_succ, decide_true, eq_self, mMake, gRep, gInt, msFor, gAbs, mRev, gGe, gMod, gPow, gI, msPub, mLend, msParOO, msAppPop, msAppO, gDraw, msPar, msPar3, msAsg, mgTup, mgCons, mgNil, DL.gSub, mNeg, gMin, gSl, miEnum]
      refine ⟨_, rfl, hR _ ?_⟩
      clear hR
      refine seq_go fun R hR => ?_
      dsimp only [msRet, msRetN, msSeq, msIf, msNext, msExpr, msSet, mtAnd, mtOr, mtNot, mTru, mB, mCB, mCall, maCons, maNil, mVar, mC, mOp, mChain, mIf, mAndV, mOrV, mNotV, mLst, mTup, mMS, gI0, gLen, gEq, gNe, gEqS, gNeS, gIn, gAll, gStrip, truD, start0, dn, mLc, miS, mgName, wipeD, mYes, lcD, List.map_cons, List.map_nil, List.replicate, List.cons_append, List.nil_append, List.getElem?_cons_zero, List.getElem?_cons_succ, List.getElem?_nil, List.append_nil, gLe, gLt, Bool.not_true, Bool.not_false, Bool.false_eq_true, reduceIte, mJoined, mJs, mFmt, maStar, gJoin, mFld, moSome, mSl, gIx, z5, mCallL, miZ, gEqL, gNeL, mIsiT, moNone, gSl, miR1, gAdd, List.set_cons_zero, List.set_cons_succ, decide_true, eq_self, mMake, gRep, gInt, msFor, gAbs, mRev, gGe, gMod, gPow, gI, msPub, mLend, msParOO, msAppPop, msAppO, gDraw, msPar, msPar3, msAsg, mgTup, mgCons, mgNil, DL.gSub, mNeg, gMin, gSl, miEnum]
      refine goIf (fun e => absurd e (by decide +kernel)) (fun _ => hR _ ?_)
      clear hR
      refine seq_go fun R hR => ?_
      dsimp only [msRet, msRetN, msSeq, msIf, msNext, msExpr, msSet, mtAnd, mtOr, mtNot, mTru, mB, mCB, mCall, maCons, maNil, mVar, mC, mOp, mChain, mIf, mAndV, mOrV, mNotV, mLst, mTup, mMS, gI0, gLen, gEq, gNe, gEqS, gNeS, gIn, gAll, gStrip, truD, start0, dn, mLc, miS, mgName, wipeD, mYes, lcD, List.map_cons, List.map_nil, List.replicate, List.cons_append, List.nil_append, List.getElem?_cons_zero, List.getElem?_cons_succ, List.getElem?_nil, List.append_nil, gLe, gLt, Bool.not_true, Bool.not_false, Bool.false_eq_true, reduceIte, mJoined, mJs, mFmt, maStar, gJoin, mFld, moSome, mSl, gIx, z5, mCallL, miZ, gEqL, gNeL, mIsiT, moNone, gSl, miR1, gAdd, List.set_cons_zero, List.set_cons_succ, decide_true, eq_self, mMake, gRep, gInt, msFor, gAbs, mRev, gGe, gMod, gPow, gI, msPub, mLend, msParOO, msAppPop, msAppO, gDraw, msPar, msPar3, msAsg, mgTup, mgCons, mgNil, DL.gSub, mNeg, gMin, gSl, miEnum]
      refine goIf (fun e => absurd e (by decide +kernel)) (fun _ => hR _ ?_)
      clear hR
      refine seq_go fun R hR => ?_
      dsimp only [msRet, msRetN, msSeq, msIf, msNext, msExpr, msSet, mtAnd, mtOr, mtNot, mTru, mB, mCB, mCall, maCons, maNil, mVar, mC, mOp, mChain, mIf, mAndV, mOrV, mNotV, mLst, mTup, mMS, gI0, gLen, gEq, gNe, gEqS, gNeS, gIn, gAll, gStrip, truD, start0, dn, mLc, miS, mgName, wipeD, mYes, lcD, List.map_cons, List.map_nil, List.replicate, List.cons_append, List.nil_append, List.getElem?_cons_zero, List.getElem?_cons_succ, List.getElem?_nil, List.append_nil, gLe, gLt, Bool.not_true, Bool.not_false, Bool.false_eq_true, reduceIte, mJoined, mJs, mFmt, maStar, gJoin, mFld, moSome, mSl, gIx, z5, mCallL, miZ, gEqL, gNeL, mIsiT, moNone, gSl, miR1, gAdd, List.set_cons_zero, List.set_cons_succ, decide_true, eq_self, mMake, gRep, gInt, msFor, gAbs, mRev, gGe, gMod, gPow, gI, msPub, mLend, msParOO, msAppPop, msAppO, gDraw, msPar, msPar3, msAsg, mgTup, mgCons, mgNil, DL.gSub, mNeg, gMin, gSl, miEnum]
      refine goIf (fun e => absurd e (by decide +kernel)) (fun _ => hR _ ?_)
      clear hR
      refine seq_go fun R hR => ?_
      dsimp only [msRet, msRetN, msSeq, msIf, msNext, msExpr, msSet, mtAnd, mtOr, mtNot, mTru, mB, mCB, mCall, maCons, maNil, mVar, mC, mOp, mChain, mIf, mAndV, mOrV, mNotV, mLst, mTup, mMS, gI0, gLen, gEq, gNe, gEqS, gNeS, gIn, gAll, gStrip, truD, start0, dn, mLc, miS, mgName, wipeD, mYes, lcD, List.map_cons, List.map_nil, List.replicate, List.cons_append, List.nil_append, List.getElem?_cons_zero, List.getElem?_cons_succ, List.getElem?_nil, List.append_nil, gLe, gLt, Bool.not_true, Bool.not_false, Bool.false_eq_true, reduceIte, mJoined, mJs, mFmt, maStar, gJoin, mFld, moSome, mSl, gIx, z5, mCallL, miZ, gEqL, gNeL, mIsiT, moNone, gSl, miR1, gAdd, List.set_cons_zero, List.set_cons_succ, decide_true, eq_self, mMake, gRep, gInt, msFor, gAbs, mRev, gGe, gMod, gPow, gI, msPub, mLend, msParOO, msAppPop, msAppO, gDraw, msPar, msPar3, msAsg, mgTup, mgCons, mgNil, DL.gSub, mNeg, gMin, gSl, miEnum]
      refine goIf (fun e => absurd e (by decide +kernel)) (fun _ => hR _ ?_)
      clear hR
      refine seq_go fun R hR => ?_
      dsimp only [msRet, msRetN, msSeq, msIf, msNext, msExpr, msSet, mtAnd, mtOr, mtNot, mTru, mB, mCB, mCall, maCons, maNil, mVar, mC, mOp, mChain, mIf, mAndV, mOrV, mNotV, mLst, mTup, mMS, gI0, gLen, gEq, gNe, gEqS, gNeS, gIn, gAll, gStrip, truD, start0, dn, mLc, miS, mgName, wipeD, mYes, lcD, List.map_cons, List.map_nil, List.replicate, List.cons_append, List.nil_append, List.getElem?_cons_zero, List.getElem?_cons_succ, List.getElem?_nil, List.append_nil, gLe, gLt, Bool.not_true, Bool.not_false, Bool.false_eq_true, reduceIte, mJoined, mJs, mFmt, maStar, gJoin, mFld, moSome, mSl, gIx, z5, mCallL, miZ, gEqL, gNeL, mIsiT, moNone, gSl, miR1, gAdd, List.set_cons_zero, List.set_cons_succ, decide_true, eq_self, mMake, gRep, gInt, msFor, gAbs, mRev, gGe, gMod, gPow, gI, msPub, mLend, msParOO, msAppPop, msAppO, gDraw, msPar, msPar3, msAsg, mgTup, mgCons, mgNil, DL.gSub, mNeg, gMin, gSl, miEnum]
      refine ⟨(show 2 ≤ sizeLine from by decide), rfl, rfl, ?_⟩
      rw [show inD (D.str "has") [D.str "pick", .str "has"] = true from by decide +kernel]
      refine iteT ?_
      refine goIf (fun e => absurd e (by decide +kernel)) (fun _ => ?_)
      exact ⟨_, rfl, rfl, _, rfl, v2_nm ho, ho.1, f⟩
    | is_ a t =>
      rw [okS] at ho
      refine ms_at (e := [.dat (.tup [.str "is", .str a, .str t]), .un, .un]) (by rfl) ?_
      refine seq_go fun R hR => ?_
      dsimp only [msRet, msRetN, msSeq, msIf, msNext, msExpr, msSet, mtAnd, mtOr, mtNot, mTru, mB, mCB, mCall, maCons, maNil, mVar, mC, mOp, mChain, mIf, mAndV, mOrV, mNotV, mLst, mTup, mMS, gI0, gLen, gEq, gNe, gEqS, gNeS, gIn, gAll, gStrip, truD, start0, dn, mLc, miS, mgName, wipeD, mYes, lcD, List.map_cons, List.map_nil, List.replicate, List.cons_append, List.nil_append, List.getElem?_cons_zero, List.getElem?_cons_succ, List.getElem?_nil, List.append_nil, gLe, gLt, Bool.not_true, Bool.not_false, Bool.false_eq_true, reduceIte, mJoined, mJs, mFmt, maStar, gJoin, mFld, moSome, mSl, gIx, z5, mCallL, miZ, gEqL, gNeL, mIsiT, moNone, gSl, miR1, gAdd, List.set_cons_zero, List.set_cons_succ, decide_true, eq_self, mMake, gRep, gInt, msFor, gAbs, mRev, gGe, gMod, gPow, gI, msPub, mLend, msParOO, msAppPop, msAppO, gDraw, msPar, msPar3, msAsg, mgTup, mgCons, mgNil, DL.gSub, mNeg, gMin, gSl, miEnum]
      refine ⟨_, rfl, hR _ ?_⟩
      clear hR
      refine seq_go fun R hR => ?_
      dsimp only [msRet, msRetN, msSeq, msIf, msNext, msExpr, msSet, mtAnd, mtOr, mtNot, mTru, mB, mCB, mCall, maCons, maNil, mVar, mC, mOp, mChain, mIf, mAndV, mOrV, mNotV, mLst, mTup, mMS, gI0, gLen, gEq, gNe, gEqS, gNeS, gIn, gAll, gStrip, truD, start0, dn, mLc, miS, mgName, wipeD, mYes, lcD, List.map_cons, List.map_nil, List.replicate, List.cons_append, List.nil_append, List.getElem?_cons_zero, List.getElem?_cons_succ, List.getElem?_nil, List.append_nil, gLe, gLt, Bool.not_true, Bool.not_false, Bool.false_eq_true, reduceIte, mJoined, mJs, mFmt, maStar, gJoin, mFld, moSome, mSl, gIx, z5, mCallL, miZ, gEqL, gNeL, mIsiT, moNone, gSl, miR1, gAdd, List.set_cons_zero, List.set_cons_succ, decide_true, eq_self, mMake, gRep, gInt, msFor, gAbs, mRev, gGe, gMod, gPow, gI, msPub, mLend, msParOO, msAppPop, msAppO, gDraw, msPar, msPar3, msAsg, mgTup, mgCons, mgNil, DL.gSub, mNeg, gMin, gSl, miEnum]
      refine goIf (fun e => absurd e (by decide +kernel)) (fun _ => hR _ ?_)
      clear hR
      refine seq_go fun R hR => ?_
      dsimp only [msRet, msRetN, msSeq, msIf, msNext, msExpr, msSet, mtAnd, mtOr, mtNot, mTru, mB, mCB, mCall, maCons, maNil, mVar, mC, mOp, mChain, mIf, mAndV, mOrV, mNotV, mLst, mTup, mMS, gI0, gLen, gEq, gNe, gEqS, gNeS, gIn, gAll, gStrip, truD, start0, dn, mLc, miS, mgName, wipeD, mYes, lcD, List.map_cons, List.map_nil, List.replicate, List.cons_append, List.nil_append, List.getElem?_cons_zero, List.getElem?_cons_succ, List.getElem?_nil, List.append_nil, gLe, gLt, Bool.not_true, Bool.not_false, Bool.false_eq_true, reduceIte, mJoined, mJs, mFmt, maStar, gJoin, mFld, moSome, mSl, gIx, z5, mCallL, miZ, gEqL, gNeL, mIsiT, moNone, gSl, miR1, gAdd, List.set_cons_zero, List.set_cons_succ, decide_true, eq_self, mMake, gRep, gInt, msFor, gAbs, mRev, gGe, gMod, gPow, gI, msPub, mLend, msParOO, msAppPop, msAppO, gDraw, msPar, msPar3, msAsg, mgTup, mgCons, mgNil, DL.gSub, mNeg, gMin, gSl, miEnum]
      refine goIf (fun e => absurd e (by decide +kernel)) (fun _ => hR _ ?_)
      clear hR
      refine seq_go fun R hR => ?_
      dsimp only [msRet, msRetN, msSeq, msIf, msNext, msExpr, msSet, mtAnd, mtOr, mtNot, mTru, mB, mCB, mCall, maCons, maNil, mVar, mC, mOp, mChain, mIf, mAndV, mOrV, mNotV, mLst, mTup, mMS, gI0, gLen, gEq, gNe, gEqS, gNeS, gIn, gAll, gStrip, truD, start0, dn, mLc, miS, mgName, wipeD, mYes, lcD, List.map_cons, List.map_nil, List.replicate, List.cons_append, List.nil_append, List.getElem?_cons_zero, List.getElem?_cons_succ, List.getElem?_nil, List.append_nil, gLe, gLt, Bool.not_true, Bool.not_false, Bool.false_eq_true, reduceIte, mJoined, mJs, mFmt, maStar, gJoin, mFld, moSome, mSl, gIx, z5, mCallL, miZ, gEqL, gNeL, mIsiT, moNone, gSl, miR1, gAdd, List.set_cons_zero, List.set_cons_succ, decide_true, eq_self, mMake, gRep, gInt, msFor, gAbs, mRev, gGe, gMod, gPow, gI, msPub, mLend, msParOO, msAppPop, msAppO, gDraw, msPar, msPar3, msAsg, mgTup, mgCons, mgNil, DL.gSub, mNeg, gMin, gSl, miEnum]
      refine goIf (fun e => absurd e (by decide +kernel)) (fun _ => hR _ ?_)
      clear hR
      refine seq_go fun R hR => ?_
      dsimp only [msRet, msRetN, msSeq, msIf, msNext, msExpr, msSet, mtAnd, mtOr, mtNot, mTru, mB, mCB, mCall, maCons, maNil, mVar, mC, mOp, mChain, mIf, mAndV, mOrV, mNotV, mLst, mTup, mMS, gI0, gLen, gEq, gNe, gEqS, gNeS, gIn, gAll, gStrip, truD, start0, dn, mLc, miS, mgName, wipeD, mYes, lcD, List.map_cons, List.map_nil, List.replicate, List.cons_append, List.nil_append, List.getElem?_cons_zero, List.getElem?_cons_succ, List.getElem?_nil, List.append_nil, gLe, gLt, Bool.not_true, Bool.not_false, Bool.false_eq_true, reduceIte, mJoined, mJs, mFmt, maStar, gJoin, mFld, moSome, mSl, gIx, z5, mCallL, miZ, gEqL, gNeL, mIsiT, moNone, gSl, miR1, gAdd, List.set_cons_zero, List.set_cons_succ, decide_true, eq_self, mMake, gRep, gInt, msFor, gAbs, mRev, gGe, gMod, gPow, gI, msPub, mLend, msParOO, msAppPop, msAppO, gDraw, msPar, msPar3, msAsg, mgTup, mgCons, mgNil, DL.gSub, mNeg, gMin, gSl, miEnum]
      refine goIf (fun e => absurd e (by decide +kernel)) (fun _ => hR _ ?_)
      clear hR
      refine seq_go fun R hR => ?_
      dsimp only [msRet, msRetN, msSeq, msIf, msNext, msExpr, msSet, mtAnd, mtOr, mtNot, mTru, mB, mCB, mCall, maCons, maNil, mVar, mC, mOp, mChain, mIf, mAndV, mOrV, mNotV, mLst, mTup, mMS, gI0, gLen, gEq, gNe, gEqS, gNeS, gIn, gAll, gStrip, truD, start0, dn, mLc, miS, mgName, wipeD, mYes, lcD, List.map_cons, List.map_nil, List.replicate, List.cons_append, List.nil_append, List.getElem?_cons_zero, List.getElem?_cons_succ, List.getElem?_nil, List.append_nil, gLe, gLt, Bool.not_true, Bool.not_false, Bool.false_eq_true, reduceIte, mJoined, mJs, mFmt, maStar, gJoin, mFld, moSome, mSl, gIx, z5, mCallL, miZ, gEqL, gNeL, mIsiT, moNone, gSl, miR1, gAdd, List.set_cons_zero, List.set_cons_succ, decide_true, eq_self, mMake, gRep, gInt, msFor, gAbs, mRev, gGe, gMod, gPow, gI, msPub, mLend, msParOO, msAppPop, msAppO, gDraw, msPar, msPar3, msAsg, mgTup, mgCons, mgNil, DL.gSub, mNeg, gMin, gSl, miEnum]
      refine ⟨(show 2 ≤ sizeLine from by decide), rfl, rfl, ?_⟩
      rw [show inD (D.str "is") [D.str "pick", .str "has"] = false from by decide +kernel]
      refine iteF (hR _ ?_)
      clear hR
      refine seq_go fun R hR => ?_
      dsimp only [msRet, msRetN, msSeq, msIf, msNext, msExpr, msSet, mtAnd, mtOr, mtNot, mTru, mB, mCB, mCall, maCons, maNil, mVar, mC, mOp, mChain, mIf, mAndV, mOrV, mNotV, mLst, mTup, mMS, gI0, gLen, gEq, gNe, gEqS, gNeS, gIn, gAll, gStrip, truD, start0, dn, mLc, miS, mgName, wipeD, mYes, lcD, List.map_cons, List.map_nil, List.replicate, List.cons_append, List.nil_append, List.getElem?_cons_zero, List.getElem?_cons_succ, List.getElem?_nil, List.append_nil, gLe, gLt, Bool.not_true, Bool.not_false, Bool.false_eq_true, reduceIte, mJoined, mJs, mFmt, maStar, gJoin, mFld, moSome, mSl, gIx, z5, mCallL, miZ, gEqL, gNeL, mIsiT, moNone, gSl, miR1, gAdd, List.set_cons_zero, List.set_cons_succ, decide_true, eq_self, mMake, gRep, gInt, msFor, gAbs, mRev, gGe, gMod, gPow, gI, msPub, mLend, msParOO, msAppPop, msAppO, gDraw, msPar, msPar3, msAsg, mgTup, mgCons, mgNil, DL.gSub, mNeg, gMin, gSl, miEnum]
      refine ⟨(show 2 ≤ sizeLine from by decide), rfl, rfl, ?_⟩
      rw [show inD (D.str "is") [D.str "is", .str "put"] = true from by decide +kernel]
      refine iteT ?_
      refine goIf (fun _ => ?_) (fun e => absurd rfl e)
      exact ⟨_, rfl, _, rfl, rfl, _, _, rfl, v2_nm ho.1, v2_tx ho.2, ho.1.1, ho.2.1, f⟩
    | put a t =>
      rw [okS] at ho
      refine ms_at (e := [.dat (.tup [.str "put", .str a, .str t]), .un, .un]) (by rfl) ?_
      refine seq_go fun R hR => ?_
      dsimp only [msRet, msRetN, msSeq, msIf, msNext, msExpr, msSet, mtAnd, mtOr, mtNot, mTru, mB, mCB, mCall, maCons, maNil, mVar, mC, mOp, mChain, mIf, mAndV, mOrV, mNotV, mLst, mTup, mMS, gI0, gLen, gEq, gNe, gEqS, gNeS, gIn, gAll, gStrip, truD, start0, dn, mLc, miS, mgName, wipeD, mYes, lcD, List.map_cons, List.map_nil, List.replicate, List.cons_append, List.nil_append, List.getElem?_cons_zero, List.getElem?_cons_succ, List.getElem?_nil, List.append_nil, gLe, gLt, Bool.not_true, Bool.not_false, Bool.false_eq_true, reduceIte, mJoined, mJs, mFmt, maStar, gJoin, mFld, moSome, mSl, gIx, z5, mCallL, miZ, gEqL, gNeL, mIsiT, moNone, gSl, miR1, gAdd, List.set_cons_zero, List.set_cons_succ, decide_true, eq_self, mMake, gRep, gInt, msFor, gAbs, mRev, gGe, gMod, gPow, gI, msPub, mLend, msParOO, msAppPop, msAppO, gDraw, msPar, msPar3, msAsg, mgTup, mgCons, mgNil, DL.gSub, mNeg, gMin, gSl, miEnum]
      refine ⟨_, rfl, hR _ ?_⟩
      clear hR
      refine seq_go fun R hR => ?_
      dsimp only [msRet, msRetN, msSeq, msIf, msNext, msExpr, msSet, mtAnd, mtOr, mtNot, mTru, mB, mCB, mCall, maCons, maNil, mVar, mC, mOp, mChain, mIf, mAndV, mOrV, mNotV, mLst, mTup, mMS, gI0, gLen, gEq, gNe, gEqS, gNeS, gIn, gAll, gStrip, truD, start0, dn, mLc, miS, mgName, wipeD, mYes, lcD, List.map_cons, List.map_nil, List.replicate, List.cons_append, List.nil_append, List.getElem?_cons_zero, List.getElem?_cons_succ, List.getElem?_nil, List.append_nil, gLe, gLt, Bool.not_true, Bool.not_false, Bool.false_eq_true, reduceIte, mJoined, mJs, mFmt, maStar, gJoin, mFld, moSome, mSl, gIx, z5, mCallL, miZ, gEqL, gNeL, mIsiT, moNone, gSl, miR1, gAdd, List.set_cons_zero, List.set_cons_succ, decide_true, eq_self, mMake, gRep, gInt, msFor, gAbs, mRev, gGe, gMod, gPow, gI, msPub, mLend, msParOO, msAppPop, msAppO, gDraw, msPar, msPar3, msAsg, mgTup, mgCons, mgNil, DL.gSub, mNeg, gMin, gSl, miEnum]
      refine goIf (fun e => absurd e (by decide +kernel)) (fun _ => hR _ ?_)
      clear hR
      refine seq_go fun R hR => ?_
      dsimp only [msRet, msRetN, msSeq, msIf, msNext, msExpr, msSet, mtAnd, mtOr, mtNot, mTru, mB, mCB, mCall, maCons, maNil, mVar, mC, mOp, mChain, mIf, mAndV, mOrV, mNotV, mLst, mTup, mMS, gI0, gLen, gEq, gNe, gEqS, gNeS, gIn, gAll, gStrip, truD, start0, dn, mLc, miS, mgName, wipeD, mYes, lcD, List.map_cons, List.map_nil, List.replicate, List.cons_append, List.nil_append, List.getElem?_cons_zero, List.getElem?_cons_succ, List.getElem?_nil, List.append_nil, gLe, gLt, Bool.not_true, Bool.not_false, Bool.false_eq_true, reduceIte, mJoined, mJs, mFmt, maStar, gJoin, mFld, moSome, mSl, gIx, z5, mCallL, miZ, gEqL, gNeL, mIsiT, moNone, gSl, miR1, gAdd, List.set_cons_zero, List.set_cons_succ, decide_true, eq_self, mMake, gRep, gInt, msFor, gAbs, mRev, gGe, gMod, gPow, gI, msPub, mLend, msParOO, msAppPop, msAppO, gDraw, msPar, msPar3, msAsg, mgTup, mgCons, mgNil, DL.gSub, mNeg, gMin, gSl, miEnum]
      refine goIf (fun e => absurd e (by decide +kernel)) (fun _ => hR _ ?_)
      clear hR
      refine seq_go fun R hR => ?_
      dsimp only [msRet, msRetN, msSeq, msIf, msNext, msExpr, msSet, mtAnd, mtOr, mtNot, mTru, mB, mCB, mCall, maCons, maNil, mVar, mC, mOp, mChain, mIf, mAndV, mOrV, mNotV, mLst, mTup, mMS, gI0, gLen, gEq, gNe, gEqS, gNeS, gIn, gAll, gStrip, truD, start0, dn, mLc, miS, mgName, wipeD, mYes, lcD, List.map_cons, List.map_nil, List.replicate, List.cons_append, List.nil_append, List.getElem?_cons_zero, List.getElem?_cons_succ, List.getElem?_nil, List.append_nil, gLe, gLt, Bool.not_true, Bool.not_false, Bool.false_eq_true, reduceIte, mJoined, mJs, mFmt, maStar, gJoin, mFld, moSome, mSl, gIx, z5, mCallL, miZ, gEqL, gNeL, mIsiT, moNone, gSl, miR1, gAdd, List.set_cons_zero, List.set_cons_succ, decide_true, eq_self, mMake, gRep, gInt, msFor, gAbs, mRev, gGe, gMod, gPow, gI, msPub, mLend, msParOO, msAppPop, msAppO, gDraw, msPar, msPar3, msAsg, mgTup, mgCons, mgNil, DL.gSub, mNeg, gMin, gSl, miEnum]
      refine goIf (fun e => absurd e (by decide +kernel)) (fun _ => hR _ ?_)
      clear hR
      refine seq_go fun R hR => ?_
      dsimp only [msRet, msRetN, msSeq, msIf, msNext, msExpr, msSet, mtAnd, mtOr, mtNot, mTru, mB, mCB, mCall, maCons, maNil, mVar, mC, mOp, mChain, mIf, mAndV, mOrV, mNotV, mLst, mTup, mMS, gI0, gLen, gEq, gNe, gEqS, gNeS, gIn, gAll, gStrip, truD, start0, dn, mLc, miS, mgName, wipeD, mYes, lcD, List.map_cons, List.map_nil, List.replicate, List.cons_append, List.nil_append, List.getElem?_cons_zero, List.getElem?_cons_succ, List.getElem?_nil, List.append_nil, gLe, gLt, Bool.not_true, Bool.not_false, Bool.false_eq_true, reduceIte, mJoined, mJs, mFmt, maStar, gJoin, mFld, moSome, mSl, gIx, z5, mCallL, miZ, gEqL, gNeL, mIsiT, moNone, gSl, miR1, gAdd, List.set_cons_zero, List.set_cons_succ, decide_true, eq_self, mMake, gRep, gInt, msFor, gAbs, mRev, gGe, gMod, gPow, gI, msPub, mLend, msParOO, msAppPop, msAppO, gDraw, msPar, msPar3, msAsg, mgTup, mgCons, mgNil, DL.gSub, mNeg, gMin, gSl, miEnum]
      refine goIf (fun e => absurd e (by decide +kernel)) (fun _ => hR _ ?_)
      clear hR
      refine seq_go fun R hR => ?_
      dsimp only [msRet, msRetN, msSeq, msIf, msNext, msExpr, msSet, mtAnd, mtOr, mtNot, mTru, mB, mCB, mCall, maCons, maNil, mVar, mC, mOp, mChain, mIf, mAndV, mOrV, mNotV, mLst, mTup, mMS, gI0, gLen, gEq, gNe, gEqS, gNeS, gIn, gAll, gStrip, truD, start0, dn, mLc, miS, mgName, wipeD, mYes, lcD, List.map_cons, List.map_nil, List.replicate, List.cons_append, List.nil_append, List.getElem?_cons_zero, List.getElem?_cons_succ, List.getElem?_nil, List.append_nil, gLe, gLt, Bool.not_true, Bool.not_false, Bool.false_eq_true, reduceIte, mJoined, mJs, mFmt, maStar, gJoin, mFld, moSome, mSl, gIx, z5, mCallL, miZ, gEqL, gNeL, mIsiT, moNone, gSl, miR1, gAdd, List.set_cons_zero, List.set_cons_succ, decide_true, eq_self, mMake, gRep, gInt, msFor, gAbs, mRev, gGe, gMod, gPow, gI, msPub, mLend, msParOO, msAppPop, msAppO, gDraw, msPar, msPar3, msAsg, mgTup, mgCons, mgNil, DL.gSub, mNeg, gMin, gSl, miEnum]
      refine ⟨(show 2 ≤ sizeLine from by decide), rfl, rfl, ?_⟩
      rw [show inD (D.str "put") [D.str "pick", .str "has"] = false from by decide +kernel]
      refine iteF (hR _ ?_)
      clear hR
      refine seq_go fun R hR => ?_
      dsimp only [msRet, msRetN, msSeq, msIf, msNext, msExpr, msSet, mtAnd, mtOr, mtNot, mTru, mB, mCB, mCall, maCons, maNil, mVar, mC, mOp, mChain, mIf, mAndV, mOrV, mNotV, mLst, mTup, mMS, gI0, gLen, gEq, gNe, gEqS, gNeS, gIn, gAll, gStrip, truD, start0, dn, mLc, miS, mgName, wipeD, mYes, lcD, List.map_cons, List.map_nil, List.replicate, List.cons_append, List.nil_append, List.getElem?_cons_zero, List.getElem?_cons_succ, List.getElem?_nil, List.append_nil, gLe, gLt, Bool.not_true, Bool.not_false, Bool.false_eq_true, reduceIte, mJoined, mJs, mFmt, maStar, gJoin, mFld, moSome, mSl, gIx, z5, mCallL, miZ, gEqL, gNeL, mIsiT, moNone, gSl, miR1, gAdd, List.set_cons_zero, List.set_cons_succ, decide_true, eq_self, mMake, gRep, gInt, msFor, gAbs, mRev, gGe, gMod, gPow, gI, msPub, mLend, msParOO, msAppPop, msAppO, gDraw, msPar, msPar3, msAsg, mgTup, mgCons, mgNil, DL.gSub, mNeg, gMin, gSl, miEnum]
      refine ⟨(show 2 ≤ sizeLine from by decide), rfl, rfl, ?_⟩
      rw [show inD (D.str "put") [D.str "is", .str "put"] = true from by decide +kernel]
      refine iteT ?_
      refine goIf (fun e => absurd e (by decide +kernel)) (fun _ => ?_)
      exact ⟨_, rfl, _, rfl, rfl, _, _, rfl, v2_nm ho.1, v2_tx ho.2, ho.1.1, ho.2.1, f⟩
    | alike a b =>
      rw [okS] at ho
      refine ms_at (e := [.dat (.tup [.str "alike", .str a, .str b]), .un, .un]) (by rfl) ?_
      refine seq_go fun R hR => ?_
      dsimp only [msRet, msRetN, msSeq, msIf, msNext, msExpr, msSet, mtAnd, mtOr, mtNot, mTru, mB, mCB, mCall, maCons, maNil, mVar, mC, mOp, mChain, mIf, mAndV, mOrV, mNotV, mLst, mTup, mMS, gI0, gLen, gEq, gNe, gEqS, gNeS, gIn, gAll, gStrip, truD, start0, dn, mLc, miS, mgName, wipeD, mYes, lcD, List.map_cons, List.map_nil, List.replicate, List.cons_append, List.nil_append, List.getElem?_cons_zero, List.getElem?_cons_succ, List.getElem?_nil, List.append_nil, gLe, gLt, Bool.not_true, Bool.not_false, Bool.false_eq_true, reduceIte, mJoined, mJs, mFmt, maStar, gJoin, mFld, moSome, mSl, gIx, z5, mCallL, miZ, gEqL, gNeL, mIsiT, moNone, gSl, miR1, gAdd, List.set_cons_zero, List.set_cons_succ, decide_true, eq_self, mMake, gRep, gInt, msFor, gAbs, mRev, gGe, gMod, gPow, gI, msPub, mLend, msParOO, msAppPop, msAppO, gDraw, msPar, msPar3, msAsg, mgTup, mgCons, mgNil, DL.gSub, mNeg, gMin, gSl, miEnum]
      refine ⟨_, rfl, hR _ ?_⟩
      clear hR
      refine seq_go fun R hR => ?_
      dsimp only [msRet, msRetN, msSeq, msIf, msNext, msExpr, msSet, mtAnd, mtOr, mtNot, mTru, mB, mCB, mCall, maCons, maNil, mVar, mC, mOp, mChain, mIf, mAndV, mOrV, mNotV, mLst, mTup, mMS, gI0, gLen, gEq, gNe, gEqS, gNeS, gIn, gAll, gStrip, truD, start0, dn, mLc, miS, mgName, wipeD, mYes, lcD, List.map_cons, List.map_nil, List.replicate, List.cons_append, List.nil_append, List.getElem?_cons_zero, List.getElem?_cons_succ, List.getElem?_nil, List.append_nil, gLe, gLt, Bool.not_true, Bool.not_false, Bool.false_eq_true, reduceIte, mJoined, mJs, mFmt, maStar, gJoin, mFld, moSome, mSl, gIx, z5, mCallL, miZ, gEqL, gNeL, mIsiT, moNone, gSl, miR1, gAdd, List.set_cons_zero, List.set_cons_succ, decide_true, eq_self, mMake, gRep, gInt, msFor, gAbs, mRev, gGe, gMod, gPow, gI, msPub, mLend, msParOO, msAppPop, msAppO, gDraw, msPar, msPar3, msAsg, mgTup, mgCons, mgNil, DL.gSub, mNeg, gMin, gSl, miEnum]
      refine goIf (fun e => absurd e (by decide +kernel)) (fun _ => hR _ ?_)
      clear hR
      refine seq_go fun R hR => ?_
      dsimp only [msRet, msRetN, msSeq, msIf, msNext, msExpr, msSet, mtAnd, mtOr, mtNot, mTru, mB, mCB, mCall, maCons, maNil, mVar, mC, mOp, mChain, mIf, mAndV, mOrV, mNotV, mLst, mTup, mMS, gI0, gLen, gEq, gNe, gEqS, gNeS, gIn, gAll, gStrip, truD, start0, dn, mLc, miS, mgName, wipeD, mYes, lcD, List.map_cons, List.map_nil, List.replicate, List.cons_append, List.nil_append, List.getElem?_cons_zero, List.getElem?_cons_succ, List.getElem?_nil, List.append_nil, gLe, gLt, Bool.not_true, Bool.not_false, Bool.false_eq_true, reduceIte, mJoined, mJs, mFmt, maStar, gJoin, mFld, moSome, mSl, gIx, z5, mCallL, miZ, gEqL, gNeL, mIsiT, moNone, gSl, miR1, gAdd, List.set_cons_zero, List.set_cons_succ, decide_true, eq_self, mMake, gRep, gInt, msFor, gAbs, mRev, gGe, gMod, gPow, gI, msPub, mLend, msParOO, msAppPop, msAppO, gDraw, msPar, msPar3, msAsg, mgTup, mgCons, mgNil, DL.gSub, mNeg, gMin, gSl, miEnum]
      refine goIf (fun e => absurd e (by decide +kernel)) (fun _ => hR _ ?_)
      clear hR
      refine seq_go fun R hR => ?_
      dsimp only [msRet, msRetN, msSeq, msIf, msNext, msExpr, msSet, mtAnd, mtOr, mtNot, mTru, mB, mCB, mCall, maCons, maNil, mVar, mC, mOp, mChain, mIf, mAndV, mOrV, mNotV, mLst, mTup, mMS, gI0, gLen, gEq, gNe, gEqS, gNeS, gIn, gAll, gStrip, truD, start0, dn, mLc, miS, mgName, wipeD, mYes, lcD, List.map_cons, List.map_nil, List.replicate, List.cons_append, List.nil_append, List.getElem?_cons_zero, List.getElem?_cons_succ, List.getElem?_nil, List.append_nil, gLe, gLt, Bool.not_true, Bool.not_false, Bool.false_eq_true, reduceIte, mJoined, mJs, mFmt, maStar, gJoin, mFld, moSome, mSl, gIx, z5, mCallL, miZ, gEqL, gNeL, mIsiT, moNone, gSl, miR1, gAdd, List.set_cons_zero, List.set_cons_succ, decide_true, eq_self, mMake, gRep, gInt, msFor, gAbs, mRev, gGe, gMod, gPow, gI, msPub, mLend, msParOO, msAppPop, msAppO, gDraw, msPar, msPar3, msAsg, mgTup, mgCons, mgNil, DL.gSub, mNeg, gMin, gSl, miEnum]
      refine goIf (fun e => absurd e (by decide +kernel)) (fun _ => hR _ ?_)
      clear hR
      refine seq_go fun R hR => ?_
      dsimp only [msRet, msRetN, msSeq, msIf, msNext, msExpr, msSet, mtAnd, mtOr, mtNot, mTru, mB, mCB, mCall, maCons, maNil, mVar, mC, mOp, mChain, mIf, mAndV, mOrV, mNotV, mLst, mTup, mMS, gI0, gLen, gEq, gNe, gEqS, gNeS, gIn, gAll, gStrip, truD, start0, dn, mLc, miS, mgName, wipeD, mYes, lcD, List.map_cons, List.map_nil, List.replicate, List.cons_append, List.nil_append, List.getElem?_cons_zero, List.getElem?_cons_succ, List.getElem?_nil, List.append_nil, gLe, gLt, Bool.not_true, Bool.not_false, Bool.false_eq_true, reduceIte, mJoined, mJs, mFmt, maStar, gJoin, mFld, moSome, mSl, gIx, z5, mCallL, miZ, gEqL, gNeL, mIsiT, moNone, gSl, miR1, gAdd, List.set_cons_zero, List.set_cons_succ, decide_true, eq_self, mMake, gRep, gInt, msFor, gAbs, mRev, gGe, gMod, gPow, gI, msPub, mLend, msParOO, msAppPop, msAppO, gDraw, msPar, msPar3, msAsg, mgTup, mgCons, mgNil, DL.gSub, mNeg, gMin, gSl, miEnum]
      refine goIf (fun e => absurd e (by decide +kernel)) (fun _ => hR _ ?_)
      clear hR
      refine seq_go fun R hR => ?_
      dsimp only [msRet, msRetN, msSeq, msIf, msNext, msExpr, msSet, mtAnd, mtOr, mtNot, mTru, mB, mCB, mCall, maCons, maNil, mVar, mC, mOp, mChain, mIf, mAndV, mOrV, mNotV, mLst, mTup, mMS, gI0, gLen, gEq, gNe, gEqS, gNeS, gIn, gAll, gStrip, truD, start0, dn, mLc, miS, mgName, wipeD, mYes, lcD, List.map_cons, List.map_nil, List.replicate, List.cons_append, List.nil_append, List.getElem?_cons_zero, List.getElem?_cons_succ, List.getElem?_nil, List.append_nil, gLe, gLt, Bool.not_true, Bool.not_false, Bool.false_eq_true, reduceIte, mJoined, mJs, mFmt, maStar, gJoin, mFld, moSome, mSl, gIx, z5, mCallL, miZ, gEqL, gNeL, mIsiT, moNone, gSl, miR1, gAdd, List.set_cons_zero, List.set_cons_succ, decide_true, eq_self, mMake, gRep, gInt, msFor, gAbs, mRev, gGe, gMod, gPow, gI, msPub, mLend, msParOO, msAppPop, msAppO, gDraw, msPar, msPar3, msAsg, mgTup, mgCons, mgNil, DL.gSub, mNeg, gMin, gSl, miEnum]
      refine ⟨(show 2 ≤ sizeLine from by decide), rfl, rfl, ?_⟩
      rw [show inD (D.str "alike") [D.str "pick", .str "has"] = false from by decide +kernel]
      refine iteF (hR _ ?_)
      clear hR
      refine seq_go fun R hR => ?_
      dsimp only [msRet, msRetN, msSeq, msIf, msNext, msExpr, msSet, mtAnd, mtOr, mtNot, mTru, mB, mCB, mCall, maCons, maNil, mVar, mC, mOp, mChain, mIf, mAndV, mOrV, mNotV, mLst, mTup, mMS, gI0, gLen, gEq, gNe, gEqS, gNeS, gIn, gAll, gStrip, truD, start0, dn, mLc, miS, mgName, wipeD, mYes, lcD, List.map_cons, List.map_nil, List.replicate, List.cons_append, List.nil_append, List.getElem?_cons_zero, List.getElem?_cons_succ, List.getElem?_nil, List.append_nil, gLe, gLt, Bool.not_true, Bool.not_false, Bool.false_eq_true, reduceIte, mJoined, mJs, mFmt, maStar, gJoin, mFld, moSome, mSl, gIx, z5, mCallL, miZ, gEqL, gNeL, mIsiT, moNone, gSl, miR1, gAdd, List.set_cons_zero, List.set_cons_succ, decide_true, eq_self, mMake, gRep, gInt, msFor, gAbs, mRev, gGe, gMod, gPow, gI, msPub, mLend, msParOO, msAppPop, msAppO, gDraw, msPar, msPar3, msAsg, mgTup, mgCons, mgNil, DL.gSub, mNeg, gMin, gSl, miEnum]
      refine ⟨(show 2 ≤ sizeLine from by decide), rfl, rfl, ?_⟩
      rw [show inD (D.str "alike") [D.str "is", .str "put"] = false from by decide +kernel]
      refine iteF (hR _ ?_)
      clear hR
      dsimp only [msRet, msRetN, msSeq, msIf, msNext, msExpr, msSet, mtAnd, mtOr, mtNot, mTru, mB, mCB, mCall, maCons, maNil, mVar, mC, mOp, mChain, mIf, mAndV, mOrV, mNotV, mLst, mTup, mMS, gI0, gLen, gEq, gNe, gEqS, gNeS, gIn, gAll, gStrip, truD, start0, dn, mLc, miS, mgName, wipeD, mYes, lcD, List.map_cons, List.map_nil, List.replicate, List.cons_append, List.nil_append, List.getElem?_cons_zero, List.getElem?_cons_succ, List.getElem?_nil, List.append_nil, gLe, gLt, Bool.not_true, Bool.not_false, Bool.false_eq_true, reduceIte, mJoined, mJs, mFmt, maStar, gJoin, mFld, moSome, mSl, gIx, z5, mCallL, miZ, gEqL, gNeL, mIsiT, moNone, gSl, miR1, gAdd, List.set_cons_zero, List.set_cons_succ, decide_true, eq_self, mMake, gRep, gInt, msFor, gAbs, mRev, gGe, gMod, gPow, gI, msPub, mLend, msParOO, msAppPop, msAppO, gDraw, msPar, msPar3, msAsg, mgTup, mgCons, mgNil, DL.gSub, mNeg, gMin, gSl, miEnum]
      refine goIf (fun e => absurd e (by decide +kernel)) (fun _ => ?_)
      exact ⟨_, rfl, _, rfl, rfl, _, _, rfl, v2_nm ho.1, v2_nm ho.2, ho.1.1, ho.2.1, f⟩
    | melt cs n2 v =>
      rw [okS] at ho
      refine ms_at (e := [.dat (.tup [.str "melt", .lst (cs.map .str), .str n2, .str v]), .un, .un]) (by rfl) ?_
      refine seq_go fun R hR => ?_
      dsimp only [msRet, msRetN, msSeq, msIf, msNext, msExpr, msSet, mtAnd, mtOr, mtNot, mTru, mB, mCB, mCall, maCons, maNil, mVar, mC, mOp, mChain, mIf, mAndV, mOrV, mNotV, mLst, mTup, mMS, gI0, gLen, gEq, gNe, gEqS, gNeS, gIn, gAll, gStrip, truD, start0, dn, mLc, miS, mgName, wipeD, mYes, lcD, List.map_cons, List.map_nil, List.replicate, List.cons_append, List.nil_append, List.getElem?_cons_zero, List.getElem?_cons_succ, List.getElem?_nil, List.append_nil, gLe, gLt, Bool.not_true, Bool.not_false, Bool.false_eq_true, reduceIte, mJoined, mJs, mFmt, maStar, gJoin, mFld, moSome, mSl, gIx, z5, mCallL, miZ, gEqL, gNeL, mIsiT, moNone, gSl, miR1, gAdd, List.set_cons_zero, List.set_cons_succ, decide_true, eq_self, mMake, gRep, gInt, msFor, gAbs, mRev, gGe, gMod, gPow, gI, msPub, mLend, msParOO, msAppPop, msAppO, gDraw, msPar, msPar3, msAsg, mgTup, mgCons, mgNil, DL.gSub, mNeg, gMin, gSl, miEnum]
      refine ⟨_, rfl, hR _ ?_⟩
      clear hR
      refine seq_go fun R hR => ?_
      dsimp only [msRet, msRetN, msSeq, msIf, msNext, msExpr, msSet, mtAnd, mtOr, mtNot, mTru, mB, mCB, mCall, maCons, maNil, mVar, mC, mOp, mChain, mIf, mAndV, mOrV, mNotV, mLst, mTup, mMS, gI0, gLen, gEq, gNe, gEqS, gNeS, gIn, gAll, gStrip, truD, start0, dn, mLc, miS, mgName, wipeD, mYes, lcD, List.map_cons, List.map_nil, List.replicate, List.cons_append, List.nil_append, List.getElem?_cons_zero, List.getElem?_cons_succ, List.getElem?_nil, List.append_nil, gLe, gLt, Bool.not_true, Bool.not_false, Bool.false_eq_true, reduceIte, mJoined, mJs, mFmt, maStar, gJoin, mFld, moSome, mSl, gIx, z5, mCallL, miZ, gEqL, gNeL, mIsiT, moNone, gSl, miR1, gAdd, List.set_cons_zero, List.set_cons_succ, decide_true, eq_self, mMake, gRep, gInt, msFor, gAbs, mRev, gGe, gMod, gPow, gI, msPub, mLend, msParOO, msAppPop, msAppO, gDraw, msPar, msPar3, msAsg, mgTup, mgCons, mgNil, DL.gSub, mNeg, gMin, gSl, miEnum]
      refine goIf (fun e => absurd e (by decide +kernel)) (fun _ => hR _ ?_)
      clear hR
      refine seq_go fun R hR => ?_
      dsimp only [msRet, msRetN, msSeq, msIf, msNext, msExpr, msSet, mtAnd, mtOr, mtNot, mTru, mB, mCB, mCall, maCons, maNil, mVar, mC, mOp, mChain, mIf, mAndV, mOrV, mNotV, mLst, mTup, mMS, gI0, gLen, gEq, gNe, gEqS, gNeS, gIn, gAll, gStrip, truD, start0, dn, mLc, miS, mgName, wipeD, mYes, lcD, List.map_cons, List.map_nil, List.replicate, List.cons_append, List.nil_append, List.getElem?_cons_zero, List.getElem?_cons_succ, List.getElem?_nil, List.append_nil, gLe, gLt, Bool.not_true, Bool.not_false, Bool.false_eq_true, reduceIte, mJoined, mJs, mFmt, maStar, gJoin, mFld, moSome, mSl, gIx, z5, mCallL, miZ, gEqL, gNeL, mIsiT, moNone, gSl, miR1, gAdd, List.set_cons_zero, List.set_cons_succ, decide_true, eq_self, mMake, gRep, gInt, msFor, gAbs, mRev, gGe, gMod, gPow, gI, msPub, mLend, msParOO, msAppPop, msAppO, gDraw, msPar, msPar3, msAsg, mgTup, mgCons, mgNil, DL.gSub, mNeg, gMin, gSl, miEnum]
      refine goIf (fun e => absurd e (by decide +kernel)) (fun _ => hR _ ?_)
      clear hR
      refine seq_go fun R hR => ?_
      dsimp only [msRet, msRetN, msSeq, msIf, msNext, msExpr, msSet, mtAnd, mtOr, mtNot, mTru, mB, mCB, mCall, maCons, maNil, mVar, mC, mOp, mChain, mIf, mAndV, mOrV, mNotV, mLst, mTup, mMS, gI0, gLen, gEq, gNe, gEqS, gNeS, gIn, gAll, gStrip, truD, start0, dn, mLc, miS, mgName, wipeD, mYes, lcD, List.map_cons, List.map_nil, List.replicate, List.cons_append, List.nil_append, List.getElem?_cons_zero, List.getElem?_cons_succ, List.getElem?_nil, List.append_nil, gLe, gLt, Bool.not_true, Bool.not_false, Bool.false_eq_true, reduceIte, mJoined, mJs, mFmt, maStar, gJoin, mFld, moSome, mSl, gIx, z5, mCallL, miZ, gEqL, gNeL, mIsiT, moNone, gSl, miR1, gAdd, List.set_cons_zero, List.set_cons_succ, decide_true, eq_self, mMake, gRep, gInt, msFor, gAbs, mRev, gGe, gMod, gPow, gI, msPub, mLend, msParOO, msAppPop, msAppO, gDraw, msPar, msPar3, msAsg, mgTup, mgCons, mgNil, DL.gSub, mNeg, gMin, gSl, miEnum]
      refine goIf (fun _ => ?_) (fun e => absurd rfl e)
      exact ⟨_, rfl, _, rfl, _, rfl, rfl, _, _, _, rfl, v2_nms ho.1, v2_nm ho.2.1, v2_nm ho.2.2, names_ok ho.1, ho.2.1.1, ho.2.2.1, f⟩
    | pivot bs n2 v hs =>
      rw [okS] at ho
      refine ms_at (e := [.dat (.tup [.str "pivot", .lst (bs.map .str), .str n2, .str v, .lst (hs.map .str)]), .un, .un]) (by rfl) ?_
      refine seq_go fun R hR => ?_
      dsimp only [msRet, msRetN, msSeq, msIf, msNext, msExpr, msSet, mtAnd, mtOr, mtNot, mTru, mB, mCB, mCall, maCons, maNil, mVar, mC, mOp, mChain, mIf, mAndV, mOrV, mNotV, mLst, mTup, mMS, gI0, gLen, gEq, gNe, gEqS, gNeS, gIn, gAll, gStrip, truD, start0, dn, mLc, miS, mgName, wipeD, mYes, lcD, List.map_cons, List.map_nil, List.replicate, List.cons_append, List.nil_append, List.getElem?_cons_zero, List.getElem?_cons_succ, List.getElem?_nil, List.append_nil, gLe, gLt, Bool.not_true, Bool.not_false, Bool.false_eq_true, reduceIte, mJoined, mJs, mFmt, maStar, gJoin, mFld, moSome, mSl, gIx, z5, mCallL, miZ, gEqL, gNeL, mIsiT, moNone, gSl, miR1, gAdd, List.set_cons_zero, List.set_cons_succ, decide_true, eq_self, mMake, gRep, gInt, msFor, gAbs, mRev, gGe, gMod, gPow, gI, msPub, mLend, msParOO, msAppPop, msAppO, gDraw, msPar, msPar3, msAsg, mgTup, mgCons, mgNil, DL.gSub, mNeg, gMin, gSl, miEnum]
      refine ⟨_, rfl, hR _ ?_⟩
      clear hR
      refine seq_go fun R hR => ?_
      dsimp only [msRet, msRetN, msSeq, msIf, msNext, msExpr, msSet, mtAnd, mtOr, mtNot, mTru, mB, mCB, mCall, maCons, maNil, mVar, mC, mOp, mChain, mIf, mAndV, mOrV, mNotV, mLst, mTup, mMS, gI0, gLen, gEq, gNe, gEqS, gNeS, gIn, gAll, gStrip, truD, start0, dn, mLc, miS, mgName, wipeD, mYes, lcD, List.map_cons, List.map_nil, List.replicate, List.cons_append, List.nil_append, List.getElem?_cons_zero, List.getElem?_cons_succ, List.getElem?_nil, List.append_nil, gLe, gLt, Bool.not_true, Bool.not_false, Bool.false_eq_true, reduceIte, mJoined, mJs, mFmt, maStar, gJoin, mFld, moSome, mSl, gIx, z5, mCallL, miZ, gEqL, gNeL, mIsiT, moNone, gSl, miR1, gAdd, List.set_cons_zero, List.set_cons_succ, decide_true, eq_self, mMake, gRep, gInt, msFor, gAbs, mRev, gGe, gMod, gPow, gI, msPub, mLend, msParOO, msAppPop, msAppO, gDraw, msPar, msPar3, msAsg, mgTup, mgCons, mgNil, DL.gSub, mNeg, gMin, gSl, miEnum]
      refine goIf (fun e => absurd e (by decide +kernel)) (fun _ => hR _ ?_)
      clear hR
      refine seq_go fun R hR => ?_
      dsimp only [msRet, msRetN, msSeq, msIf, msNext, msExpr, msSet, mtAnd, mtOr, mtNot, mTru, mB, mCB, mCall, maCons, maNil, mVar, mC, mOp, mChain, mIf, mAndV, mOrV, mNotV, mLst, mTup, mMS, gI0, gLen, gEq, gNe, gEqS, gNeS, gIn, gAll, gStrip, truD, start0, dn, mLc, miS, mgName, wipeD, mYes, lcD, List.map_cons, List.map_nil, List.replicate, List.cons_append, List.nil_append, List.getElem?_cons_zero, List.getElem?_cons_succ, List.getElem?_nil, List.append_nil, gLe, gLt, Bool.not_true, Bool.not_false, Bool.false_eq_true, reduceIte, mJoined, mJs, mFmt, maStar, gJoin, mFld, moSome, mSl, gIx, z5, mCallL, miZ, gEqL, gNeL, mIsiT, moNone, gSl, miR1, gAdd, List.set_cons_zero, List.set_cons_succ, decide_true, eq_self, mMake, gRep, gInt, msFor, gAbs, mRev, gGe, gMod, gPow, gI, msPub, mLend, msParOO, msAppPop, msAppO, gDraw, msPar, msPar3, msAsg, mgTup, mgCons, mgNil, DL.gSub, mNeg, gMin, gSl, miEnum]
      refine goIf (fun e => absurd e (by decide +kernel)) (fun _ => hR _ ?_)
      clear hR
      refine seq_go fun R hR => ?_
      dsimp only [msRet, msRetN, msSeq, msIf, msNext, msExpr, msSet, mtAnd, mtOr, mtNot, mTru, mB, mCB, mCall, maCons, maNil, mVar, mC, mOp, mChain, mIf, mAndV, mOrV, mNotV, mLst, mTup, mMS, gI0, gLen, gEq, gNe, gEqS, gNeS, gIn, gAll, gStrip, truD, start0, dn, mLc, miS, mgName, wipeD, mYes, lcD, List.map_cons, List.map_nil, List.replicate, List.cons_append, List.nil_append, List.getElem?_cons_zero, List.getElem?_cons_succ, List.getElem?_nil, List.append_nil, gLe, gLt, Bool.not_true, Bool.not_false, Bool.false_eq_true, reduceIte, mJoined, mJs, mFmt, maStar, gJoin, mFld, moSome, mSl, gIx, z5, mCallL, miZ, gEqL, gNeL, mIsiT, moNone, gSl, miR1, gAdd, List.set_cons_zero, List.set_cons_succ, decide_true, eq_self, mMake, gRep, gInt, msFor, gAbs, mRev, gGe, gMod, gPow, gI, msPub, mLend, msParOO, msAppPop, msAppO, gDraw, msPar, msPar3, msAsg, mgTup, mgCons, mgNil, DL.gSub, mNeg, gMin, gSl, miEnum]
      refine goIf (fun e => absurd e (by decide +kernel)) (fun _ => hR _ ?_)
      clear hR
      refine seq_go fun R hR => ?_
      dsimp only [msRet, msRetN, msSeq, msIf, msNext, msExpr, msSet, mtAnd, mtOr, mtNot, mTru, mB, mCB, mCall, maCons, maNil, mVar, mC, mOp, mChain, mIf, mAndV, mOrV, mNotV, mLst, mTup, mMS, gI0, gLen, gEq, gNe, gEqS, gNeS, gIn, gAll, gStrip, truD, start0, dn, mLc, miS, mgName, wipeD, mYes, lcD, List.map_cons, List.map_nil, List.replicate, List.cons_append, List.nil_append, List.getElem?_cons_zero, List.getElem?_cons_succ, List.getElem?_nil, List.append_nil, gLe, gLt, Bool.not_true, Bool.not_false, Bool.false_eq_true, reduceIte, mJoined, mJs, mFmt, maStar, gJoin, mFld, moSome, mSl, gIx, z5, mCallL, miZ, gEqL, gNeL, mIsiT, moNone, gSl, miR1, gAdd, List.set_cons_zero, List.set_cons_succ, decide_true, eq_self, mMake, gRep, gInt, msFor, gAbs, mRev, gGe, gMod, gPow, gI, msPub, mLend, msParOO, msAppPop, msAppO, gDraw, msPar, msPar3, msAsg, mgTup, mgCons, mgNil, DL.gSub, mNeg, gMin, gSl, miEnum]
      refine goIf (fun _ => ?_) (fun e => absurd rfl e)
      exact ⟨_, rfl, _, rfl, _, rfl, _, rfl, rfl, _, _, _, _, rfl, v2_nms ho.1, v2_nm ho.2.1, v2_nm ho.2.2.1, v2_nms ho.2.2.2, names_ok ho.1, ho.2.1.1, ho.2.2.1.1, names_ok ho.2.2.2, f⟩
    | join cs ss =>
      cases n with
      | zero => exact ho.elim
      | succ n =>
        refine ms_at (e := [.dat (.tup [.str "join", .lst (cs.map .str), .lst (ss.map toldD)]), .un, .un]) (by rw [← toldDs_eq]; rfl) ?_
        refine seq_go fun R hR => ?_
        dsimp only [msRet, msRetN, msSeq, msIf, msNext, msExpr, msSet, mtAnd, mtOr, mtNot, mTru, mB, mCB, mCall, maCons, maNil, mVar, mC, mOp, mChain, mIf, mAndV, mOrV, mNotV, mLst, mTup, mMS, gI0, gLen, gEq, gNe, gEqS, gNeS, gIn, gAll, gStrip, truD, start0, dn, mLc, miS, mgName, wipeD, mYes, lcD, List.map_cons, List.map_nil, List.replicate, List.cons_append, List.nil_append, List.getElem?_cons_zero, List.getElem?_cons_succ, List.getElem?_nil, List.append_nil, gLe, gLt, Bool.not_true, Bool.not_false, Bool.false_eq_true, reduceIte, mJoined, mJs, mFmt, maStar, gJoin, mFld, moSome, mSl, gIx, z5, mCallL, miZ, gEqL, gNeL, mIsiT, moNone, gSl, miR1, gAdd, List.set_cons_zero, List.set_cons_succ, decide_true, eq_self, mMake, gRep, gInt, msFor, gAbs, mRev, gGe, gMod, gPow, gI, msPub, mLend, msParOO, msAppPop, msAppO, gDraw, msPar, msPar3, msAsg, mgTup, mgCons, mgNil, DL.gSub, mNeg, gMin, gSl, miEnum]
        refine ⟨_, rfl, hR _ ?_⟩
        clear hR
        refine seq_go fun R hR => ?_
        dsimp only [msRet, msRetN, msSeq, msIf, msNext, msExpr, msSet, mtAnd, mtOr, mtNot, mTru, mB, mCB, mCall, maCons, maNil, mVar, mC, mOp, mChain, mIf, mAndV, mOrV, mNotV, mLst, mTup, mMS, gI0, gLen, gEq, gNe, gEqS, gNeS, gIn, gAll, gStrip, truD, start0, dn, mLc, miS, mgName, wipeD, mYes, lcD, List.map_cons, List.map_nil, List.replicate, List.cons_append, List.nil_append, List.getElem?_cons_zero, List.getElem?_cons_succ, List.getElem?_nil, List.append_nil, gLe, gLt, Bool.not_true, Bool.not_false, Bool.false_eq_true, reduceIte, mJoined, mJs, mFmt, maStar, gJoin, mFld, moSome, mSl, gIx, z5, mCallL, miZ, gEqL, gNeL, mIsiT, moNone, gSl, miR1, gAdd, List.set_cons_zero, List.set_cons_succ, decide_true, eq_self, mMake, gRep, gInt, msFor, gAbs, mRev, gGe, gMod, gPow, gI, msPub, mLend, msParOO, msAppPop, msAppO, gDraw, msPar, msPar3, msAsg, mgTup, mgCons, mgNil, DL.gSub, mNeg, gMin, gSl, miEnum]
        refine goIf (fun _ => ?_) (fun e => absurd rfl e)
        refine ⟨_, rfl, _, rfl, _, rfl, made_few ho.2.1 _, ?_⟩
        refine lcD_mapA toldD (objD K) ss [] (fun s hs F2 q => ⟨rfl, s, rfl, ho.2.2 s hs, q⟩) ?_
        rw [List.nil_append]
        exact ⟨rfl, _, _, rfl, v2_nms ho.1, trivial, names_ok ho.1, steps_ok ho.2.1, made_join f⟩
    | stack ss =>
      cases n with
      | zero => exact ho.elim
      | succ n =>
        refine ms_at (e := [.dat (.tup [.str "stack", .lst (ss.map toldD)]), .un, .un]) (by rw [← toldDs_eq]; rfl) ?_
        refine seq_go fun R hR => ?_
        dsimp only [msRet, msRetN, msSeq, msIf, msNext, msExpr, msSet, mtAnd, mtOr, mtNot, mTru, mB, mCB, mCall, maCons, maNil, mVar, mC, mOp, mChain, mIf, mAndV, mOrV, mNotV, mLst, mTup, mMS, gI0, gLen, gEq, gNe, gEqS, gNeS, gIn, gAll, gStrip, truD, start0, dn, mLc, miS, mgName, wipeD, mYes, lcD, List.map_cons, List.map_nil, List.replicate, List.cons_append, List.nil_append, List.getElem?_cons_zero, List.getElem?_cons_succ, List.getElem?_nil, List.append_nil, gLe, gLt, Bool.not_true, Bool.not_false, Bool.false_eq_true, reduceIte, mJoined, mJs, mFmt, maStar, gJoin, mFld, moSome, mSl, gIx, z5, mCallL, miZ, gEqL, gNeL, mIsiT, moNone, gSl, miR1, gAdd, List.set_cons_zero, List.set_cons_succ, decide_true, eq_self, mMake, gRep, gInt, msFor, gAbs, mRev, gGe, gMod, gPow, gI, msPub, mLend, msParOO, msAppPop, msAppO, gDraw, msPar, msPar3, msAsg, mgTup, mgCons, mgNil, DL.gSub, mNeg, gMin, gSl, miEnum]
        refine ⟨_, rfl, hR _ ?_⟩
        clear hR
        refine seq_go fun R hR => ?_
        dsimp only [msRet, msRetN, msSeq, msIf, msNext, msExpr, msSet, mtAnd, mtOr, mtNot, mTru, mB, mCB, mCall, maCons, maNil, mVar, mC, mOp, mChain, mIf, mAndV, mOrV, mNotV, mLst, mTup, mMS, gI0, gLen, gEq, gNe, gEqS, gNeS, gIn, gAll, gStrip, truD, start0, dn, mLc, miS, mgName, wipeD, mYes, lcD, List.map_cons, List.map_nil, List.replicate, List.cons_append, List.nil_append, List.getElem?_cons_zero, List.getElem?_cons_succ, List.getElem?_nil, List.append_nil, gLe, gLt, Bool.not_true, Bool.not_false, Bool.false_eq_true, reduceIte, mJoined, mJs, mFmt, maStar, gJoin, mFld, moSome, mSl, gIx, z5, mCallL, miZ, gEqL, gNeL, mIsiT, moNone, gSl, miR1, gAdd, List.set_cons_zero, List.set_cons_succ, decide_true, eq_self, mMake, gRep, gInt, msFor, gAbs, mRev, gGe, gMod, gPow, gI, msPub, mLend, msParOO, msAppPop, msAppO, gDraw, msPar, msPar3, msAsg, mgTup, mgCons, mgNil, DL.gSub, mNeg, gMin, gSl, miEnum]
        refine goIf (fun e => absurd e (by decide +kernel)) (fun _ => hR _ ?_)
        clear hR
        refine seq_go fun R hR => ?_
        dsimp only [msRet, msRetN, msSeq, msIf, msNext, msExpr, msSet, mtAnd, mtOr, mtNot, mTru, mB, mCB, mCall, maCons, maNil, mVar, mC, mOp, mChain, mIf, mAndV, mOrV, mNotV, mLst, mTup, mMS, gI0, gLen, gEq, gNe, gEqS, gNeS, gIn, gAll, gStrip, truD, start0, dn, mLc, miS, mgName, wipeD, mYes, lcD, List.map_cons, List.map_nil, List.replicate, List.cons_append, List.nil_append, List.getElem?_cons_zero, List.getElem?_cons_succ, List.getElem?_nil, List.append_nil, gLe, gLt, Bool.not_true, Bool.not_false, Bool.false_eq_true, reduceIte, mJoined, mJs, mFmt, maStar, gJoin, mFld, moSome, mSl, gIx, z5, mCallL, miZ, gEqL, gNeL, mIsiT, moNone, gSl, miR1, gAdd, List.set_cons_zero, List.set_cons_succ, decide_true, eq_self, mMake, gRep, gInt, msFor, gAbs, mRev, gGe, gMod, gPow, gI, msPub, mLend, msParOO, msAppPop, msAppO, gDraw, msPar, msPar3, msAsg, mgTup, mgCons, mgNil, DL.gSub, mNeg, gMin, gSl, miEnum]
        refine goIf (fun _ => ?_) (fun e => absurd rfl e)
        refine ⟨_, rfl, _, rfl, made_few ho.1 _, ?_⟩
        refine lcD_mapA toldD (objD K) ss [] (fun s hs F2 q => ⟨rfl, s, rfl, ho.2 s hs, q⟩) ?_
        rw [List.nil_append]
        exact ⟨rfl, _, rfl, trivial, steps_ok ho.1, made_stack f⟩
theorem ok_law_made0 (G : Glo K mg) (c : He.SaysD fa fn K) : Fn P w K mg base "_law_made" 1 1 false (fun _ _ _ => False) := by
  obtain ⟨fd, F⟩ := c.defs (d := dfn ("_law_made", none) "_law_made" "_law_made" s_law_made) (by unfold fn; simp)
  replace F : FunD K "_law_made" "_law_made" (defArgs s_law_made) (defBody s_law_made) (defScope s_law_made) [] [] (He.ga K "_law_made") fd := F
  refine ⟨_, fd, ["_law_step"], F.ok (k := 0) sc_law_made (fun vs H Q E h => spD_len h) (fun cdv A outer s H vs Q E hr h => ?_), G.g "_law_made" (by decide), F.kp, F.bindsN fun _ _ _ _ _ _ us hl => match us, hl with | [_], _ => rfl⟩
  obtain ⟨_, _, _, _, _, _, _, _, _, _, _, hf, _⟩ := h
  exact hf.elim
end
end K11

set_option Elab.async false
set_option linter.all false
set_option maxRecDepth 100000
set_option maxHeartbeats 4000000
namespace K11
open PySem PySem.Spec PyProof.Rows L2 DL
/-! ### the lines of a step -/
def gLines (n : Nat) : FF := fun ds F _ => ∃ s, ds = [toldD s] ∧ okS n s ∧ F (strsL (linesS s))
theorem join_map {z : Str} {l : List D} {ys : List Str} {F : D → Prop} (e : l = ys.map D.str) (hl : (ys.map (·.length)).sum + ys.length * z.length ≤ 16777216) (f : F (.str (Txt.join z ys))) : DL.gJoin z [.lst l] F := by
  subst e
  exact ⟨_, ys, rfl, strsD_map ys, hl, f⟩
theorem linesSs_le {m : Nat} : ∀ {ss : List Stp}, (∀ s ∈ ss, (linesS s).length ≤ m) → (linesSs ss).length ≤ ss.length * m
  | [], _ => by rw [linesSs]; exact Nat.zero_le _
  | s :: r, h => by
    rw [linesSs, List.length_append, List.length_cons, Nat.succ_mul]
    have h1 := h s (List.mem_cons_self ..)
    have h2 := linesSs_le (m := m) (ss := r) fun t ht => h t (List.mem_cons_of_mem _ ht)
    omega
theorem lines_few : ∀ {n : Nat} {s : Stp}, okS n s → (linesS s).length ≤ Bd n := by
  intro n
  induction n with
  | zero =>
    intro s h
    cases s with
    | join cs ss => exact h.elim
    | stack ss => exact h.elim
    | _ => rw [linesS]; exact (show 1 ≤ 300 from by decide)
  | succ n ih =>
    intro s h
    cases s with
    | join cs ss =>
      have h : Nms 0 cs ∧ ss.length ≤ 6 ∧ ∀ s ∈ ss, okS n s := h
      have := linesSs_le (m := Bd n) fun s hs => ih (h.2.2 s hs)
      have h6 := Nat.mul_le_mul_right (Bd n) h.2.1
      rw [linesS, List.length_cons, List.length_append]
      show (linesSs ss).length + 1 + 1 ≤ 100 + 6 * (Bd n + 1)
      omega
    | stack ss =>
      have h : ss.length ≤ 6 ∧ ∀ s ∈ ss, okS n s := h
      have := linesSs_le (m := Bd n) fun s hs => ih (h.2 s hs)
      have h6 := Nat.mul_le_mul_right (Bd n) h.1
      rw [linesS, List.length_cons, List.length_append]
      show (linesSs ss).length + 1 + 1 ≤ 100 + 6 * (Bd n + 1)
      omega
    | _ => rw [linesS]; exact (show 1 ≤ 100 + 6 * (Bd n + 1) from by omega)
theorem linesSs_app : ∀ (as bs : List Stp), linesSs (as ++ bs) = linesSs as ++ linesSs bs := fun as bs => by
  rw [linesSs_eq, linesSs_eq, linesSs_eq, List.flatMap_append]
theorem linesSs_one (s : Stp) : linesSs [s] = linesS s := by rw [linesSs, linesSs, List.append_nil]
theorem nm_len {m : Nat} {cs : List Str} (h : Nms m cs) : cs.length ≤ 9 := h.2.1
theorem add_le {a b : Nat} (h : a + b ≤ 100) : a + b ≤ sizeLine := Nat.le_trans h (by decide)
section
variable {P : Program} {w : World} {K : Fg} {mg : Str → Option Value} {base : Heap}
theorem sc_law_lines : FnScope ["_law_step", "_law_word", "_law_found", "_law_one", "_law_words"] ["_law_step"] (defScope s_law_lines) := ⟨rfl, rfl, rfl, by decide +kernel, rfl, by decide +kernel, by decide +kernel⟩
theorem ok_law_lines (G : Glo K mg) (c : He.SaysD fa fn K) {n : Nat} (hn3 : n ≤ 3) (H_law_lines : Fn P w K mg base "_law_lines" (n + 5) 1 false (gRec gLines n)) : Fn P w K mg base "_law_lines" (n + 6) 1 false (gLines n) := by
  obtain ⟨fd, F⟩ := c.defs (d := dfn ("_law_lines", none) "_law_lines" "_law_lines" s_law_lines) (by unfold fn; simp)
  replace F : FunD K "_law_lines" "_law_lines" (defArgs s_law_lines) (defBody s_law_lines) (defScope s_law_lines) [] [] (He.ga K "_law_lines") fd := F
  refine ⟨_, fd, ["_law_step"], ?_, G.g "_law_lines" (by decide), F.kp, F.bindsN fun _ _ _ _ _ _ us hl => match us, hl with | [_], _ => rfl⟩
  have nd : (["_law_step", "_law_word", "_law_found", "_law_one", "_law_words"] : List Str).Nodup := sc_law_lines.nd
  obtain ⟨_, h_LETTERS⟩ := G.hL
  obtain ⟨_, h_LAD⟩ := G.hA
  obtain ⟨_, h_LN⟩ := G.hN
  obtain ⟨_, h_LT⟩ := G.hT
  apply fn_okE (k := n + 5) (N := ["_law_step", "_law_word", "_law_found", "_law_one", "_law_words"]) F sc_law_lines rfl (by decide)
  intro c cdv A outer s H E hr
  have hu := hr.units
  have tk := takes_of (X := cxOf (L2.CX P w) P w K mg base ["_law_step", "_law_word", "_law_found", "_law_one", "_law_words"] "_law_lines" (defScope s_law_lines) (He.ga K "_law_lines") cdv A outer s H E) rfl rfl rfl rfl
  apply Exists.intro
  apply Exists.intro
  apply And.intro
  · exact (dss_cons (ds_set 1 nd rfl (by first | exact .inl rfl | exact .inr rfl) (de_ix (de_var 0) de_int (fun _ _ => rfl)))
    (dss_cons (ds_if (dt_cmp op_inA rd_in (de_var 1) (de_tup (da_cons de_str (da_cons de_str da_nil))) (by rfl)) (dss_cons (ds_own 2 nd rfl (by first | exact .inl rfl | exact .inr rfl) (oe_if (dt_cmp op_eq rd_eqS (de_var 1) de_str (nomark _)) (oe_lst (da_cons (de_ms PySem.F.slot_str_join PySem.F.type_str_join mt_join md_join de_str (da_cons (de_op op_addA rd_add (de_lst (da_cons de_str da_nil)) (de_callTy call_list_of cd_list rfl (G.n "list" (by decide)) (by decide +kernel) (da_cons (de_ix (de_var 0) de_int (fun _ _ => rfl)) da_nil))) da_nil)) da_nil)) (oe_lst (da_cons de_str da_nil))))
    (dss_cons (ds_for (passes_of rfl) rfl (di_seq (de_ix (de_var 0) (de_neg de_int) (fun _ _ => rfl))) (dg_name 3 nd rfl (by first | exact .inl rfl | exact .inr rfl)) (dss_one (ds_extO 2 (pv 2) (de_f H_law_lines (hr.mono (by omega)) rfl tk (da_cons (de_var 3) da_nil)))))
    (dss_one (ds_pub 2 (ds_ret (de_op op_addA rd_add (de_var 2) (de_lst (da_cons de_str da_nil)))))))) dss_nil)
    (dss_cons (ds_if (dt_cmp op_eq rd_eqS (de_var 1) de_str (nomark _)) (dss_one (ds_ret (de_lst (da_cons (de_ms PySem.F.slot_str_join PySem.F.type_str_join mt_join md_join de_str (da_cons (de_op op_addA rd_add (de_lst (da_cons de_str da_nil)) (de_callTy call_list_of cd_list rfl (G.n "list" (by decide)) (by decide +kernel) (da_cons (de_ix (de_var 0) de_int (fun _ _ => rfl)) da_nil))) da_nil)) da_nil)))) dss_nil)
    (dss_cons (ds_if (dt_cmp op_eq rd_eqS (de_var 1) de_str (nomark _)) (dss_one (ds_ret (de_lst (da_cons (de_ms PySem.F.slot_str_join PySem.F.type_str_join mt_join md_join de_str (da_cons (de_op op_addA rd_add (de_op op_addA rd_add (de_lst (da_cons de_str da_nil)) (de_callTy call_list_of cd_list rfl (G.n "list" (by decide)) (by decide +kernel) (da_cons (de_ix (de_var 0) de_int (fun _ _ => rfl)) da_nil))) (de_lst (da_cons de_str (da_cons (de_ix (de_var 0) de_int (fun _ _ => rfl)) (da_cons (de_ix (de_var 0) de_int (fun _ _ => rfl)) da_nil))))) da_nil)) da_nil)))) dss_nil)
    (dss_cons (ds_if (dt_cmp op_eq rd_eqS (de_var 1) de_str (nomark _)) (dss_cons (ds_set 4 nd rfl (by first | exact .inl rfl | exact .inr rfl) (de_op op_addA rd_add (de_op op_addA rd_add (de_lst (da_cons de_str da_nil)) (de_callTy call_list_of cd_list rfl (G.n "list" (by decide)) (by decide +kernel) (da_cons (de_ix (de_var 0) de_int (fun _ _ => rfl)) da_nil))) (de_lst (da_cons de_str (da_cons (de_ix (de_var 0) de_int (fun _ _ => rfl)) (da_cons (de_ix (de_var 0) de_int (fun _ _ => rfl)) (da_cons de_str da_nil)))))))
    (dss_one (ds_ret (de_lst (da_cons (de_ms PySem.F.slot_str_join PySem.F.type_str_join mt_join md_join de_str (da_cons (de_op op_addA rd_add (de_var 4) (de_callTy call_list_of cd_list rfl (G.n "list" (by decide)) (by decide +kernel) (da_cons (de_ix (de_var 0) de_int (fun _ _ => rfl)) da_nil))) da_nil)) da_nil))))) dss_nil)
    (dss_one (ds_ret (de_lst (da_cons (de_ms PySem.F.slot_str_join PySem.F.type_str_join mt_join md_join de_str (da_cons (de_var 0) da_nil)) da_nil)))))))))
  · intro ds F1 X1 hn h
    obtain ⟨s, rfl, ho, f⟩ := h
    cases s with
    | pick cs =>
      rw [okS] at ho
      refine ms_at (e := [.dat (.tup [.str "pick", .lst (cs.map .str)]), .un, .un, .un, .un]) (by rfl) ?_
      refine seq_go fun R hR => ?_
      dsimp only [msRet, msRetN, msSeq, msIf, msNext, msExpr, msSet, mtAnd, mtOr, mtNot, mTru, mB, mCB, mCall, maCons, maNil, mVar, mC, mOp, mChain, mIf, mAndV, mOrV, mNotV, mLst, mTup, mMS, gI0, gLen, gEq, gNe, gEqS, gNeS, gIn, gAll, gStrip, truD, start0, dn, mLc, miS, mgName, wipeD, mYes, lcD, List.map_cons, List.map_nil, List.replicate, List.cons_append, List.nil_append, List.getElem?_cons_zero, List.getElem?_cons_succ, List.getElem?_nil, List.append_nil, gLe, gLt, Bool.not_true, Bool.not_false, Bool.false_eq_true, reduceIte, mJoined, mJs, mFmt, maStar, gJoin, mFld, moSome, mSl, gIx, z5, mCallL, miZ, gEqL, gNeL, mIsiT, moNone, gSl, miR1, gAdd, List.set_cons_zero, List.set_cons_succ, decide_true, eq_self, mMake, gRep, gInt, msFor, gAbs, mRev, gGe, gMod, gPow, gI, msPub, mLend, msParOO, msAppPop, msAppO, gDraw, msPar, msPar3, msAsg, mgTup, mgCons, mgNil, DL.gSub, mNeg, gMin, gSl, miEnum, msExtO, moIf, msOwn, gTuple, gList, miS]
      refine ⟨_, rfl, hR _ ?_⟩
      clear hR
      refine seq_go fun R hR => ?_
      refine ⟨(show 2 ≤ sizeLine from by decide), rfl, rfl, ?_⟩
      show (if inD (D.str "pick") [D.str "join", .str "stack"] = true then _ else _)
      rw [show inD (D.str "pick") [D.str "join", .str "stack"] = false from by decide +kernel]
      refine iteF (hR _ ?_)
      clear hR
      refine seq_go fun R hR => ?_
      dsimp only [msRet, msRetN, msSeq, msIf, msNext, msExpr, msSet, mtAnd, mtOr, mtNot, mTru, mB, mCB, mCall, maCons, maNil, mVar, mC, mOp, mChain, mIf, mAndV, mOrV, mNotV, mLst, mTup, mMS, gI0, gLen, gEq, gNe, gEqS, gNeS, gIn, gAll, gStrip, truD, start0, dn, mLc, miS, mgName, wipeD, mYes, lcD, List.map_cons, List.map_nil, List.replicate, List.cons_append, List.nil_append, List.getElem?_cons_zero, List.getElem?_cons_succ, List.getElem?_nil, List.append_nil, gLe, gLt, Bool.not_true, Bool.not_false, Bool.false_eq_true, reduceIte, mJoined, mJs, mFmt, maStar, gJoin, mFld, moSome, mSl, gIx, z5, mCallL, miZ, gEqL, gNeL, mIsiT, moNone, gSl, miR1, gAdd, List.set_cons_zero, List.set_cons_succ, decide_true, eq_self, mMake, gRep, gInt, msFor, gAbs, mRev, gGe, gMod, gPow, gI, msPub, mLend, msParOO, msAppPop, msAppO, gDraw, msPar, msPar3, msAsg, mgTup, mgCons, mgNil, DL.gSub, mNeg, gMin, gSl, miEnum, msExtO, moIf, msOwn, gTuple, gList, miS]
      refine goIf (fun _ => ?_) (fun e => absurd rfl e)
      have l9 := nm_len ho
      refine ⟨(show 1 ≤ sizeLine from by decide), _, rfl, add_le (by show 1 + (cs.map D.str).length ≤ 100; rw [List.length_map]; omega), _, _, rfl, strsD_map (("pick" : Str) :: cs), words_ok (ys := ("pick" : Str) :: cs) (fa2 (by decide) (nm6 ho)) (by rw [List.length_cons]; omega), (show 1 ≤ sizeLine from by decide), f⟩
    | rename o n2 =>
      rw [okS] at ho
      refine ms_at (e := [.dat (.tup [.str "rename", .str o, .str n2]), .un, .un, .un, .un]) (by rfl) ?_
      refine seq_go fun R hR => ?_
      dsimp only [msRet, msRetN, msSeq, msIf, msNext, msExpr, msSet, mtAnd, mtOr, mtNot, mTru, mB, mCB, mCall, maCons, maNil, mVar, mC, mOp, mChain, mIf, mAndV, mOrV, mNotV, mLst, mTup, mMS, gI0, gLen, gEq, gNe, gEqS, gNeS, gIn, gAll, gStrip, truD, start0, dn, mLc, miS, mgName, wipeD, mYes, lcD, List.map_cons, List.map_nil, List.replicate, List.cons_append, List.nil_append, List.getElem?_cons_zero, List.getElem?_cons_succ, List.getElem?_nil, List.append_nil, gLe, gLt, Bool.not_true, Bool.not_false, Bool.false_eq_true, reduceIte, mJoined, mJs, mFmt, maStar, gJoin, mFld, moSome, mSl, gIx, z5, mCallL, miZ, gEqL, gNeL, mIsiT, moNone, gSl, miR1, gAdd, List.set_cons_zero, List.set_cons_succ, decide_true, eq_self, mMake, gRep, gInt, msFor, gAbs, mRev, gGe, gMod, gPow, gI, msPub, mLend, msParOO, msAppPop, msAppO, gDraw, msPar, msPar3, msAsg, mgTup, mgCons, mgNil, DL.gSub, mNeg, gMin, gSl, miEnum, msExtO, moIf, msOwn, gTuple, gList, miS]
      refine ⟨_, rfl, hR _ ?_⟩
      clear hR
      refine seq_go fun R hR => ?_
      refine ⟨(show 2 ≤ sizeLine from by decide), rfl, rfl, ?_⟩
      show (if inD (D.str "rename") [D.str "join", .str "stack"] = true then _ else _)
      rw [show inD (D.str "rename") [D.str "join", .str "stack"] = false from by decide +kernel]
      refine iteF (hR _ ?_)
      clear hR
      refine seq_go fun R hR => ?_
      dsimp only [msRet, msRetN, msSeq, msIf, msNext, msExpr, msSet, mtAnd, mtOr, mtNot, mTru, mB, mCB, mCall, maCons, maNil, mVar, mC, mOp, mChain, mIf, mAndV, mOrV, mNotV, mLst, mTup, mMS, gI0, gLen, gEq, gNe, gEqS, gNeS, gIn, gAll, gStrip, truD, start0, dn, mLc, miS, mgName, wipeD, mYes, lcD, List.map_cons, List.map_nil, List.replicate, List.cons_append, List.nil_append, List.getElem?_cons_zero, List.getElem?_cons_succ, List.getElem?_nil, List.append_nil, gLe, gLt, Bool.not_true, Bool.not_false, Bool.false_eq_true, reduceIte, mJoined, mJs, mFmt, maStar, gJoin, mFld, moSome, mSl, gIx, z5, mCallL, miZ, gEqL, gNeL, mIsiT, moNone, gSl, miR1, gAdd, List.set_cons_zero, List.set_cons_succ, decide_true, eq_self, mMake, gRep, gInt, msFor, gAbs, mRev, gGe, gMod, gPow, gI, msPub, mLend, msParOO, msAppPop, msAppO, gDraw, msPar, msPar3, msAsg, mgTup, mgCons, mgNil, DL.gSub, mNeg, gMin, gSl, miEnum, msExtO, moIf, msOwn, gTuple, gList, miS]
      refine goIf (fun e => absurd e (by decide +kernel)) (fun _ => hR _ ?_)
      clear hR
      refine seq_go fun R hR => ?_
      dsimp only [msRet, msRetN, msSeq, msIf, msNext, msExpr, msSet, mtAnd, mtOr, mtNot, mTru, mB, mCB, mCall, maCons, maNil, mVar, mC, mOp, mChain, mIf, mAndV, mOrV, mNotV, mLst, mTup, mMS, gI0, gLen, gEq, gNe, gEqS, gNeS, gIn, gAll, gStrip, truD, start0, dn, mLc, miS, mgName, wipeD, mYes, lcD, List.map_cons, List.map_nil, List.replicate, List.cons_append, List.nil_append, List.getElem?_cons_zero, List.getElem?_cons_succ, List.getElem?_nil, List.append_nil, gLe, gLt, Bool.not_true, Bool.not_false, Bool.false_eq_true, reduceIte, mJoined, mJs, mFmt, maStar, gJoin, mFld, moSome, mSl, gIx, z5, mCallL, miZ, gEqL, gNeL, mIsiT, moNone, gSl, miR1, gAdd, List.set_cons_zero, List.set_cons_succ, decide_true, eq_self, mMake, gRep, gInt, msFor, gAbs, mRev, gGe, gMod, gPow, gI, msPub, mLend, msParOO, msAppPop, msAppO, gDraw, msPar, msPar3, msAsg, mgTup, mgCons, mgNil, DL.gSub, mNeg, gMin, gSl, miEnum, msExtO, moIf, msOwn, gTuple, gList, miS]
      refine goIf (fun e => absurd e (by decide +kernel)) (fun _ => hR _ ?_)
      clear hR
      refine seq_go fun R hR => ?_
      dsimp only [msRet, msRetN, msSeq, msIf, msNext, msExpr, msSet, mtAnd, mtOr, mtNot, mTru, mB, mCB, mCall, maCons, maNil, mVar, mC, mOp, mChain, mIf, mAndV, mOrV, mNotV, mLst, mTup, mMS, gI0, gLen, gEq, gNe, gEqS, gNeS, gIn, gAll, gStrip, truD, start0, dn, mLc, miS, mgName, wipeD, mYes, lcD, List.map_cons, List.map_nil, List.replicate, List.cons_append, List.nil_append, List.getElem?_cons_zero, List.getElem?_cons_succ, List.getElem?_nil, List.append_nil, gLe, gLt, Bool.not_true, Bool.not_false, Bool.false_eq_true, reduceIte, mJoined, mJs, mFmt, maStar, gJoin, mFld, moSome, mSl, gIx, z5, mCallL, miZ, gEqL, gNeL, mIsiT, moNone, gSl, miR1, gAdd, List.set_cons_zero, List.set_cons_succ, decide_true, eq_self, mMake, gRep, gInt, msFor, gAbs, mRev, gGe, gMod, gPow, gI, msPub, mLend, msParOO, msAppPop, msAppO, gDraw, msPar, msPar3, msAsg, mgTup, mgCons, mgNil, DL.gSub, mNeg, gMin, gSl, miEnum, msExtO, moIf, msOwn, gTuple, gList, miS]
      refine goIf (fun e => absurd e (by decide +kernel)) (fun _ => hR _ ?_)
      clear hR
      dsimp only [msRet, msRetN, msSeq, msIf, msNext, msExpr, msSet, mtAnd, mtOr, mtNot, mTru, mB, mCB, mCall, maCons, maNil, mVar, mC, mOp, mChain, mIf, mAndV, mOrV, mNotV, mLst, mTup, mMS, gI0, gLen, gEq, gNe, gEqS, gNeS, gIn, gAll, gStrip, truD, start0, dn, mLc, miS, mgName, wipeD, mYes, lcD, List.map_cons, List.map_nil, List.replicate, List.cons_append, List.nil_append, List.getElem?_cons_zero, List.getElem?_cons_succ, List.getElem?_nil, List.append_nil, gLe, gLt, Bool.not_true, Bool.not_false, Bool.false_eq_true, reduceIte, mJoined, mJs, mFmt, maStar, gJoin, mFld, moSome, mSl, gIx, z5, mCallL, miZ, gEqL, gNeL, mIsiT, moNone, gSl, miR1, gAdd, List.set_cons_zero, List.set_cons_succ, decide_true, eq_self, mMake, gRep, gInt, msFor, gAbs, mRev, gGe, gMod, gPow, gI, msPub, mLend, msParOO, msAppPop, msAppO, gDraw, msPar, msPar3, msAsg, mgTup, mgCons, mgNil, DL.gSub, mNeg, gMin, gSl, miEnum, msExtO, moIf, msOwn, gTuple, gList, miS]
      exact ⟨_, _, rfl, rfl, words_ok (ys := [("rename" : Str), o, n2]) (three (by decide) (nm_6 ho.1) (nm_6 ho.2)) (Nat.le_of_ble_eq_true rfl), (show 1 ≤ sizeLine from by decide), f⟩
    | has a =>
      rw [okS] at ho
      refine ms_at (e := [.dat (.tup [.str "has", .str a]), .un, .un, .un, .un]) (by rfl) ?_
      refine seq_go fun R hR => ?_
      dsimp only [msRet, msRetN, msSeq, msIf, msNext, msExpr, msSet, mtAnd, mtOr, mtNot, mTru, mB, mCB, mCall, maCons, maNil, mVar, mC, mOp, mChain, mIf, mAndV, mOrV, mNotV, mLst, mTup, mMS, gI0, gLen, gEq, gNe, gEqS, gNeS, gIn, gAll, gStrip, truD, start0, dn, mLc, miS, mgName, wipeD, mYes, lcD, List.map_cons, List.map_nil, List.replicate, List.cons_append, List.nil_append, List.getElem?_cons_zero, List.getElem?_cons_succ, List.getElem?_nil, List.append_nil, gLe, gLt, Bool.not_true, Bool.not_false, Bool.false_eq_true, reduceIte, mJoined, mJs, mFmt, maStar, gJoin, mFld, moSome, mSl, gIx, z5, mCallL, miZ, gEqL, gNeL, mIsiT, moNone, gSl, miR1, gAdd, List.set_cons_zero, List.set_cons_succ, decide_true, eq_self, mMake, gRep, gInt, msFor, gAbs, mRev, gGe, gMod, gPow, gI, msPub, mLend, msParOO, msAppPop, msAppO, gDraw, msPar, msPar3, msAsg, mgTup, mgCons, mgNil, DL.gSub, mNeg, gMin, gSl, miEnum, msExtO, moIf, msOwn, gTuple, gList, miS]
      refine ⟨_, rfl, hR _ ?_⟩
      clear hR
      refine seq_go fun R hR => ?_
      refine ⟨(show 2 ≤ sizeLine from by decide), rfl, rfl, ?_⟩
      show (if inD (D.str "has") [D.str "join", .str "stack"] = true then _ else _)
      rw [show inD (D.str "has") [D.str "join", .str "stack"] = false from by decide +kernel]
      refine iteF (hR _ ?_)
      clear hR
      refine seq_go fun R hR => ?_
      dsimp only [msRet, msRetN, msSeq, msIf, msNext, msExpr, msSet, mtAnd, mtOr, mtNot, mTru, mB, mCB, mCall, maCons, maNil, mVar, mC, mOp, mChain, mIf, mAndV, mOrV, mNotV, mLst, mTup, mMS, gI0, gLen, gEq, gNe, gEqS, gNeS, gIn, gAll, gStrip, truD, start0, dn, mLc, miS, mgName, wipeD, mYes, lcD, List.map_cons, List.map_nil, List.replicate, List.cons_append, List.nil_append, List.getElem?_cons_zero, List.getElem?_cons_succ, List.getElem?_nil, List.append_nil, gLe, gLt, Bool.not_true, Bool.not_false, Bool.false_eq_true, reduceIte, mJoined, mJs, mFmt, maStar, gJoin, mFld, moSome, mSl, gIx, z5, mCallL, miZ, gEqL, gNeL, mIsiT, moNone, gSl, miR1, gAdd, List.set_cons_zero, List.set_cons_succ, decide_true, eq_self, mMake, gRep, gInt, msFor, gAbs, mRev, gGe, gMod, gPow, gI, msPub, mLend, msParOO, msAppPop, msAppO, gDraw, msPar, msPar3, msAsg, mgTup, mgCons, mgNil, DL.gSub, mNeg, gMin, gSl, miEnum, msExtO, moIf, msOwn, gTuple, gList, miS]
      refine goIf (fun e => absurd e (by decide +kernel)) (fun _ => hR _ ?_)
      clear hR
      refine seq_go fun R hR => ?_
      dsimp only [msRet, msRetN, msSeq, msIf, msNext, msExpr, msSet, mtAnd, mtOr, mtNot, mTru, mB, mCB, mCall, maCons, maNil, mVar, mC, mOp, mChain, mIf, mAndV, mOrV, mNotV, mLst, mTup, mMS, gI0, gLen, gEq, gNe, gEqS, gNeS, gIn, gAll, gStrip, truD, start0, dn, mLc, miS, mgName, wipeD, mYes, lcD, List.map_cons, List.map_nil, List.replicate, List.cons_append, List.nil_append, List.getElem?_cons_zero, List.getElem?_cons_succ, List.getElem?_nil, List.append_nil, gLe, gLt, Bool.not_true, Bool.not_false, Bool.false_eq_true, reduceIte, mJoined, mJs, mFmt, maStar, gJoin, mFld, moSome, mSl, gIx, z5, mCallL, miZ, gEqL, gNeL, mIsiT, moNone, gSl, miR1, gAdd, List.set_cons_zero, List.set_cons_succ, decide_true, eq_self, mMake, gRep, gInt, msFor, gAbs, mRev, gGe, gMod, gPow, gI, msPub, mLend, msParOO, msAppPop, msAppO, gDraw, msPar, msPar3, msAsg, mgTup, mgCons, mgNil, DL.gSub, mNeg, gMin, gSl, miEnum, msExtO, moIf, msOwn, gTuple, gList, miS]
      refine goIf (fun e => absurd e (by decide +kernel)) (fun _ => hR _ ?_)
      clear hR
      refine seq_go fun R hR => ?_
      dsimp only [msRet, msRetN, msSeq, msIf, msNext, msExpr, msSet, mtAnd, mtOr, mtNot, mTru, mB, mCB, mCall, maCons, maNil, mVar, mC, mOp, mChain, mIf, mAndV, mOrV, mNotV, mLst, mTup, mMS, gI0, gLen, gEq, gNe, gEqS, gNeS, gIn, gAll, gStrip, truD, start0, dn, mLc, miS, mgName, wipeD, mYes, lcD, List.map_cons, List.map_nil, List.replicate, List.cons_append, List.nil_append, List.getElem?_cons_zero, List.getElem?_cons_succ, List.getElem?_nil, List.append_nil, gLe, gLt, Bool.not_true, Bool.not_false, Bool.false_eq_true, reduceIte, mJoined, mJs, mFmt, maStar, gJoin, mFld, moSome, mSl, gIx, z5, mCallL, miZ, gEqL, gNeL, mIsiT, moNone, gSl, miR1, gAdd, List.set_cons_zero, List.set_cons_succ, decide_true, eq_self, mMake, gRep, gInt, msFor, gAbs, mRev, gGe, gMod, gPow, gI, msPub, mLend, msParOO, msAppPop, msAppO, gDraw, msPar, msPar3, msAsg, mgTup, mgCons, mgNil, DL.gSub, mNeg, gMin, gSl, miEnum, msExtO, moIf, msOwn, gTuple, gList, miS]
      refine goIf (fun e => absurd e (by decide +kernel)) (fun _ => hR _ ?_)
      clear hR
      dsimp only [msRet, msRetN, msSeq, msIf, msNext, msExpr, msSet, mtAnd, mtOr, mtNot, mTru, mB, mCB, mCall, maCons, maNil, mVar, mC, mOp, mChain, mIf, mAndV, mOrV, mNotV, mLst, mTup, mMS, gI0, gLen, gEq, gNe, gEqS, gNeS, gIn, gAll, gStrip, truD, start0, dn, mLc, miS, mgName, wipeD, mYes, lcD, List.map_cons, List.map_nil, List.replicate, List.cons_append, List.nil_append, List.getElem?_cons_zero, List.getElem?_cons_succ, List.getElem?_nil, List.append_nil, gLe, gLt, Bool.not_true, Bool.not_false, Bool.false_eq_true, reduceIte, mJoined, mJs, mFmt, maStar, gJoin, mFld, moSome, mSl, gIx, z5, mCallL, miZ, gEqL, gNeL, mIsiT, moNone, gSl, miR1, gAdd, List.set_cons_zero, List.set_cons_succ, decide_true, eq_self, mMake, gRep, gInt, msFor, gAbs, mRev, gGe, gMod, gPow, gI, msPub, mLend, msParOO, msAppPop, msAppO, gDraw, msPar, msPar3, msAsg, mgTup, mgCons, mgNil, DL.gSub, mNeg, gMin, gSl, miEnum, msExtO, moIf, msOwn, gTuple, gList, miS]
      exact ⟨_, _, rfl, rfl, words_ok (ys := [("has" : Str), a]) (fa2 (by decide) (fa1 (nm_6 ho))) (Nat.le_of_ble_eq_true rfl), (show 1 ≤ sizeLine from by decide), f⟩
    | is_ a t =>
      rw [okS] at ho
      refine ms_at (e := [.dat (.tup [.str "is", .str a, .str t]), .un, .un, .un, .un]) (by rfl) ?_
      refine seq_go fun R hR => ?_
      dsimp only [msRet, msRetN, msSeq, msIf, msNext, msExpr, msSet, mtAnd, mtOr, mtNot, mTru, mB, mCB, mCall, maCons, maNil, mVar, mC, mOp, mChain, mIf, mAndV, mOrV, mNotV, mLst, mTup, mMS, gI0, gLen, gEq, gNe, gEqS, gNeS, gIn, gAll, gStrip, truD, start0, dn, mLc, miS, mgName, wipeD, mYes, lcD, List.map_cons, List.map_nil, List.replicate, List.cons_append, List.nil_append, List.getElem?_cons_zero, List.getElem?_cons_succ, List.getElem?_nil, List.append_nil, gLe, gLt, Bool.not_true, Bool.not_false, Bool.false_eq_true, reduceIte, mJoined, mJs, mFmt, maStar, gJoin, mFld, moSome, mSl, gIx, z5, mCallL, miZ, gEqL, gNeL, mIsiT, moNone, gSl, miR1, gAdd, List.set_cons_zero, List.set_cons_succ, decide_true, eq_self, mMake, gRep, gInt, msFor, gAbs, mRev, gGe, gMod, gPow, gI, msPub, mLend, msParOO, msAppPop, msAppO, gDraw, msPar, msPar3, msAsg, mgTup, mgCons, mgNil, DL.gSub, mNeg, gMin, gSl, miEnum, msExtO, moIf, msOwn, gTuple, gList, miS]
      refine ⟨_, rfl, hR _ ?_⟩
      clear hR
      refine seq_go fun R hR => ?_
      refine ⟨(show 2 ≤ sizeLine from by decide), rfl, rfl, ?_⟩
      show (if inD (D.str "is") [D.str "join", .str "stack"] = true then _ else _)
      rw [show inD (D.str "is") [D.str "join", .str "stack"] = false from by decide +kernel]
      refine iteF (hR _ ?_)
      clear hR
      refine seq_go fun R hR => ?_
      dsimp only [msRet, msRetN, msSeq, msIf, msNext, msExpr, msSet, mtAnd, mtOr, mtNot, mTru, mB, mCB, mCall, maCons, maNil, mVar, mC, mOp, mChain, mIf, mAndV, mOrV, mNotV, mLst, mTup, mMS, gI0, gLen, gEq, gNe, gEqS, gNeS, gIn, gAll, gStrip, truD, start0, dn, mLc, miS, mgName, wipeD, mYes, lcD, List.map_cons, List.map_nil, List.replicate, List.cons_append, List.nil_append, List.getElem?_cons_zero, List.getElem?_cons_succ, List.getElem?_nil, List.append_nil, gLe, gLt, Bool.not_true, Bool.not_false, Bool.false_eq_true, reduceIte, mJoined, mJs, mFmt, maStar, gJoin, mFld, moSome, mSl, gIx, z5, mCallL, miZ, gEqL, gNeL, mIsiT, moNone, gSl, miR1, gAdd, List.set_cons_zero, List.set_cons_succ, decide_true, eq_self, mMake, gRep, gInt, msFor, gAbs, mRev, gGe, gMod, gPow, gI, msPub, mLend, msParOO, msAppPop, msAppO, gDraw, msPar, msPar3, msAsg, mgTup, mgCons, mgNil, DL.gSub, mNeg, gMin, gSl, miEnum, msExtO, moIf, msOwn, gTuple, gList, miS]
      refine goIf (fun e => absurd e (by decide +kernel)) (fun _ => hR _ ?_)
      clear hR
      refine seq_go fun R hR => ?_
      dsimp only [msRet, msRetN, msSeq, msIf, msNext, msExpr, msSet, mtAnd, mtOr, mtNot, mTru, mB, mCB, mCall, maCons, maNil, mVar, mC, mOp, mChain, mIf, mAndV, mOrV, mNotV, mLst, mTup, mMS, gI0, gLen, gEq, gNe, gEqS, gNeS, gIn, gAll, gStrip, truD, start0, dn, mLc, miS, mgName, wipeD, mYes, lcD, List.map_cons, List.map_nil, List.replicate, List.cons_append, List.nil_append, List.getElem?_cons_zero, List.getElem?_cons_succ, List.getElem?_nil, List.append_nil, gLe, gLt, Bool.not_true, Bool.not_false, Bool.false_eq_true, reduceIte, mJoined, mJs, mFmt, maStar, gJoin, mFld, moSome, mSl, gIx, z5, mCallL, miZ, gEqL, gNeL, mIsiT, moNone, gSl, miR1, gAdd, List.set_cons_zero, List.set_cons_succ, decide_true, eq_self, mMake, gRep, gInt, msFor, gAbs, mRev, gGe, gMod, gPow, gI, msPub, mLend, msParOO, msAppPop, msAppO, gDraw, msPar, msPar3, msAsg, mgTup, mgCons, mgNil, DL.gSub, mNeg, gMin, gSl, miEnum, msExtO, moIf, msOwn, gTuple, gList, miS]
      refine goIf (fun e => absurd e (by decide +kernel)) (fun _ => hR _ ?_)
      clear hR
      refine seq_go fun R hR => ?_
      dsimp only [msRet, msRetN, msSeq, msIf, msNext, msExpr, msSet, mtAnd, mtOr, mtNot, mTru, mB, mCB, mCall, maCons, maNil, mVar, mC, mOp, mChain, mIf, mAndV, mOrV, mNotV, mLst, mTup, mMS, gI0, gLen, gEq, gNe, gEqS, gNeS, gIn, gAll, gStrip, truD, start0, dn, mLc, miS, mgName, wipeD, mYes, lcD, List.map_cons, List.map_nil, List.replicate, List.cons_append, List.nil_append, List.getElem?_cons_zero, List.getElem?_cons_succ, List.getElem?_nil, List.append_nil, gLe, gLt, Bool.not_true, Bool.not_false, Bool.false_eq_true, reduceIte, mJoined, mJs, mFmt, maStar, gJoin, mFld, moSome, mSl, gIx, z5, mCallL, miZ, gEqL, gNeL, mIsiT, moNone, gSl, miR1, gAdd, List.set_cons_zero, List.set_cons_succ, decide_true, eq_self, mMake, gRep, gInt, msFor, gAbs, mRev, gGe, gMod, gPow, gI, msPub, mLend, msParOO, msAppPop, msAppO, gDraw, msPar, msPar3, msAsg, mgTup, mgCons, mgNil, DL.gSub, mNeg, gMin, gSl, miEnum, msExtO, moIf, msOwn, gTuple, gList, miS]
      refine goIf (fun e => absurd e (by decide +kernel)) (fun _ => hR _ ?_)
      clear hR
      dsimp only [msRet, msRetN, msSeq, msIf, msNext, msExpr, msSet, mtAnd, mtOr, mtNot, mTru, mB, mCB, mCall, maCons, maNil, mVar, mC, mOp, mChain, mIf, mAndV, mOrV, mNotV, mLst, mTup, mMS, gI0, gLen, gEq, gNe, gEqS, gNeS, gIn, gAll, gStrip, truD, start0, dn, mLc, miS, mgName, wipeD, mYes, lcD, List.map_cons, List.map_nil, List.replicate, List.cons_append, List.nil_append, List.getElem?_cons_zero, List.getElem?_cons_succ, List.getElem?_nil, List.append_nil, gLe, gLt, Bool.not_true, Bool.not_false, Bool.false_eq_true, reduceIte, mJoined, mJs, mFmt, maStar, gJoin, mFld, moSome, mSl, gIx, z5, mCallL, miZ, gEqL, gNeL, mIsiT, moNone, gSl, miR1, gAdd, List.set_cons_zero, List.set_cons_succ, decide_true, eq_self, mMake, gRep, gInt, msFor, gAbs, mRev, gGe, gMod, gPow, gI, msPub, mLend, msParOO, msAppPop, msAppO, gDraw, msPar, msPar3, msAsg, mgTup, mgCons, mgNil, DL.gSub, mNeg, gMin, gSl, miEnum, msExtO, moIf, msOwn, gTuple, gList, miS]
      exact ⟨_, _, rfl, rfl, words_ok (ys := [("is" : Str), a, t]) (three (by decide) (nm_6 ho.1) ho.2.2.1) (Nat.le_of_ble_eq_true rfl), (show 1 ≤ sizeLine from by decide), f⟩
    | put a t =>
      rw [okS] at ho
      refine ms_at (e := [.dat (.tup [.str "put", .str a, .str t]), .un, .un, .un, .un]) (by rfl) ?_
      refine seq_go fun R hR => ?_
      dsimp only [msRet, msRetN, msSeq, msIf, msNext, msExpr, msSet, mtAnd, mtOr, mtNot, mTru, mB, mCB, mCall, maCons, maNil, mVar, mC, mOp, mChain, mIf, mAndV, mOrV, mNotV, mLst, mTup, mMS, gI0, gLen, gEq, gNe, gEqS, gNeS, gIn, gAll, gStrip, truD, start0, dn, mLc, miS, mgName, wipeD, mYes, lcD, List.map_cons, List.map_nil, List.replicate, List.cons_append, List.nil_append, List.getElem?_cons_zero, List.getElem?_cons_succ, List.getElem?_nil, List.append_nil, gLe, gLt, Bool.not_true, Bool.not_false, Bool.false_eq_true, reduceIte, mJoined, mJs, mFmt, maStar, gJoin, mFld, moSome, mSl, gIx, z5, mCallL, miZ, gEqL, gNeL, mIsiT, moNone, gSl, miR1, gAdd, List.set_cons_zero, List.set_cons_succ, decide_true, eq_self, mMake, gRep, gInt, msFor, gAbs, mRev, gGe, gMod, gPow, gI, msPub, mLend, msParOO, msAppPop, msAppO, gDraw, msPar, msPar3, msAsg, mgTup, mgCons, mgNil, DL.gSub, mNeg, gMin, gSl, miEnum, msExtO, moIf, msOwn, gTuple, gList, miS]
      refine ⟨_, rfl, hR _ ?_⟩
      clear hR
      refine seq_go fun R hR => ?_
      refine ⟨(show 2 ≤ sizeLine from by decide), rfl, rfl, ?_⟩
      show (if inD (D.str "put") [D.str "join", .str "stack"] = true then _ else _)
      rw [show inD (D.str "put") [D.str "join", .str "stack"] = false from by decide +kernel]
      refine iteF (hR _ ?_)
      clear hR
      refine seq_go fun R hR => ?_
      dsimp only [msRet, msRetN, msSeq, msIf, msNext, msExpr, msSet, mtAnd, mtOr, mtNot, mTru, mB, mCB, mCall, maCons, maNil, mVar, mC, mOp, mChain, mIf, mAndV, mOrV, mNotV, mLst, mTup, mMS, gI0, gLen, gEq, gNe, gEqS, gNeS, gIn, gAll, gStrip, truD, start0, dn, mLc, miS, mgName, wipeD, mYes, lcD, List.map_cons, List.map_nil, List.replicate, List.cons_append, List.nil_append, List.getElem?_cons_zero, List.getElem?_cons_succ, List.getElem?_nil, List.append_nil, gLe, gLt, Bool.not_true, Bool.not_false, Bool.false_eq_true, reduceIte, mJoined, mJs, mFmt, maStar, gJoin, mFld, moSome, mSl, gIx, z5, mCallL, miZ, gEqL, gNeL, mIsiT, moNone, gSl, miR1, gAdd, List.set_cons_zero, List.set_cons_succ, decide_true, eq_self, mMake, gRep, gInt, msFor, gAbs, mRev, gGe, gMod, gPow, gI, msPub, mLend, msParOO, msAppPop, msAppO, gDraw, msPar, msPar3, msAsg, mgTup, mgCons, mgNil, DL.gSub, mNeg, gMin, gSl, miEnum, msExtO, moIf, msOwn, gTuple, gList, miS]
      refine goIf (fun e => absurd e (by decide +kernel)) (fun _ => hR _ ?_)
      clear hR
      refine seq_go fun R hR => ?_
      dsimp only [msRet, msRetN, msSeq, msIf, msNext, msExpr, msSet, mtAnd, mtOr, mtNot, mTru, mB, mCB, mCall, maCons, maNil, mVar, mC, mOp, mChain, mIf, mAndV, mOrV, mNotV, mLst, mTup, mMS, gI0, gLen, gEq, gNe, gEqS, gNeS, gIn, gAll, gStrip, truD, start0, dn, mLc, miS, mgName, wipeD, mYes, lcD, List.map_cons, List.map_nil, List.replicate, List.cons_append, List.nil_append, List.getElem?_cons_zero, List.getElem?_cons_succ, List.getElem?_nil, List.append_nil, gLe, gLt, Bool.not_true, Bool.not_false, Bool.false_eq_true, reduceIte, mJoined, mJs, mFmt, maStar, gJoin, mFld, moSome, mSl, gIx, z5, mCallL, miZ, gEqL, gNeL, mIsiT, moNone, gSl, miR1, gAdd, List.set_cons_zero, List.set_cons_succ, decide_true, eq_self, mMake, gRep, gInt, msFor, gAbs, mRev, gGe, gMod, gPow, gI, msPub, mLend, msParOO, msAppPop, msAppO, gDraw, msPar, msPar3, msAsg, mgTup, mgCons, mgNil, DL.gSub, mNeg, gMin, gSl, miEnum, msExtO, moIf, msOwn, gTuple, gList, miS]
      refine goIf (fun e => absurd e (by decide +kernel)) (fun _ => hR _ ?_)
      clear hR
      refine seq_go fun R hR => ?_
      dsimp only [msRet, msRetN, msSeq, msIf, msNext, msExpr, msSet, mtAnd, mtOr, mtNot, mTru, mB, mCB, mCall, maCons, maNil, mVar, mC, mOp, mChain, mIf, mAndV, mOrV, mNotV, mLst, mTup, mMS, gI0, gLen, gEq, gNe, gEqS, gNeS, gIn, gAll, gStrip, truD, start0, dn, mLc, miS, mgName, wipeD, mYes, lcD, List.map_cons, List.map_nil, List.replicate, List.cons_append, List.nil_append, List.getElem?_cons_zero, List.getElem?_cons_succ, List.getElem?_nil, List.append_nil, gLe, gLt, Bool.not_true, Bool.not_false, Bool.false_eq_true, reduceIte, mJoined, mJs, mFmt, maStar, gJoin, mFld, moSome, mSl, gIx, z5, mCallL, miZ, gEqL, gNeL, mIsiT, moNone, gSl, miR1, gAdd, List.set_cons_zero, List.set_cons_succ, decide_true, eq_self, mMake, gRep, gInt, msFor, gAbs, mRev, gGe, gMod, gPow, gI, msPub, mLend, msParOO, msAppPop, msAppO, gDraw, msPar, msPar3, msAsg, mgTup, mgCons, mgNil, DL.gSub, mNeg, gMin, gSl, miEnum, msExtO, moIf, msOwn, gTuple, gList, miS]
      refine goIf (fun e => absurd e (by decide +kernel)) (fun _ => hR _ ?_)
      clear hR
      dsimp only [msRet, msRetN, msSeq, msIf, msNext, msExpr, msSet, mtAnd, mtOr, mtNot, mTru, mB, mCB, mCall, maCons, maNil, mVar, mC, mOp, mChain, mIf, mAndV, mOrV, mNotV, mLst, mTup, mMS, gI0, gLen, gEq, gNe, gEqS, gNeS, gIn, gAll, gStrip, truD, start0, dn, mLc, miS, mgName, wipeD, mYes, lcD, List.map_cons, List.map_nil, List.replicate, List.cons_append, List.nil_append, List.getElem?_cons_zero, List.getElem?_cons_succ, List.getElem?_nil, List.append_nil, gLe, gLt, Bool.not_true, Bool.not_false, Bool.false_eq_true, reduceIte, mJoined, mJs, mFmt, maStar, gJoin, mFld, moSome, mSl, gIx, z5, mCallL, miZ, gEqL, gNeL, mIsiT, moNone, gSl, miR1, gAdd, List.set_cons_zero, List.set_cons_succ, decide_true, eq_self, mMake, gRep, gInt, msFor, gAbs, mRev, gGe, gMod, gPow, gI, msPub, mLend, msParOO, msAppPop, msAppO, gDraw, msPar, msPar3, msAsg, mgTup, mgCons, mgNil, DL.gSub, mNeg, gMin, gSl, miEnum, msExtO, moIf, msOwn, gTuple, gList, miS]
      exact ⟨_, _, rfl, rfl, words_ok (ys := [("put" : Str), a, t]) (three (by decide) (nm_6 ho.1) ho.2.2.1) (Nat.le_of_ble_eq_true rfl), (show 1 ≤ sizeLine from by decide), f⟩
    | alike a b =>
      rw [okS] at ho
      refine ms_at (e := [.dat (.tup [.str "alike", .str a, .str b]), .un, .un, .un, .un]) (by rfl) ?_
      refine seq_go fun R hR => ?_
      dsimp only [msRet, msRetN, msSeq, msIf, msNext, msExpr, msSet, mtAnd, mtOr, mtNot, mTru, mB, mCB, mCall, maCons, maNil, mVar, mC, mOp, mChain, mIf, mAndV, mOrV, mNotV, mLst, mTup, mMS, gI0, gLen, gEq, gNe, gEqS, gNeS, gIn, gAll, gStrip, truD, start0, dn, mLc, miS, mgName, wipeD, mYes, lcD, List.map_cons, List.map_nil, List.replicate, List.cons_append, List.nil_append, List.getElem?_cons_zero, List.getElem?_cons_succ, List.getElem?_nil, List.append_nil, gLe, gLt, Bool.not_true, Bool.not_false, Bool.false_eq_true, reduceIte, mJoined, mJs, mFmt, maStar, gJoin, mFld, moSome, mSl, gIx, z5, mCallL, miZ, gEqL, gNeL, mIsiT, moNone, gSl, miR1, gAdd, List.set_cons_zero, List.set_cons_succ, decide_true, eq_self, mMake, gRep, gInt, msFor, gAbs, mRev, gGe, gMod, gPow, gI, msPub, mLend, msParOO, msAppPop, msAppO, gDraw, msPar, msPar3, msAsg, mgTup, mgCons, mgNil, DL.gSub, mNeg, gMin, gSl, miEnum, msExtO, moIf, msOwn, gTuple, gList, miS]
      refine ⟨_, rfl, hR _ ?_⟩
      clear hR
      refine seq_go fun R hR => ?_
      refine ⟨(show 2 ≤ sizeLine from by decide), rfl, rfl, ?_⟩
      show (if inD (D.str "alike") [D.str "join", .str "stack"] = true then _ else _)
      rw [show inD (D.str "alike") [D.str "join", .str "stack"] = false from by decide +kernel]
      refine iteF (hR _ ?_)
      clear hR
      refine seq_go fun R hR => ?_
      dsimp only [msRet, msRetN, msSeq, msIf, msNext, msExpr, msSet, mtAnd, mtOr, mtNot, mTru, mB, mCB, mCall, maCons, maNil, mVar, mC, mOp, mChain, mIf, mAndV, mOrV, mNotV, mLst, mTup, mMS, gI0, gLen, gEq, gNe, gEqS, gNeS, gIn, gAll, gStrip, truD, start0, dn, mLc, miS, mgName, wipeD, mYes, lcD, List.map_cons, List.map_nil, List.replicate, List.cons_append, List.nil_append, List.getElem?_cons_zero, List.getElem?_cons_succ, List.getElem?_nil, List.append_nil, gLe, gLt, Bool.not_true, Bool.not_false, Bool.false_eq_true, reduceIte, mJoined, mJs, mFmt, maStar, gJoin, mFld, moSome, mSl, gIx, z5, mCallL, miZ, gEqL, gNeL, mIsiT, moNone, gSl, miR1, gAdd, List.set_cons_zero, List.set_cons_succ, decide_true, eq_self, mMake, gRep, gInt, msFor, gAbs, mRev, gGe, gMod, gPow, gI, msPub, mLend, msParOO, msAppPop, msAppO, gDraw, msPar, msPar3, msAsg, mgTup, mgCons, mgNil, DL.gSub, mNeg, gMin, gSl, miEnum, msExtO, moIf, msOwn, gTuple, gList, miS]
      refine goIf (fun e => absurd e (by decide +kernel)) (fun _ => hR _ ?_)
      clear hR
      refine seq_go fun R hR => ?_
      dsimp only [msRet, msRetN, msSeq, msIf, msNext, msExpr, msSet, mtAnd, mtOr, mtNot, mTru, mB, mCB, mCall, maCons, maNil, mVar, mC, mOp, mChain, mIf, mAndV, mOrV, mNotV, mLst, mTup, mMS, gI0, gLen, gEq, gNe, gEqS, gNeS, gIn, gAll, gStrip, truD, start0, dn, mLc, miS, mgName, wipeD, mYes, lcD, List.map_cons, List.map_nil, List.replicate, List.cons_append, List.nil_append, List.getElem?_cons_zero, List.getElem?_cons_succ, List.getElem?_nil, List.append_nil, gLe, gLt, Bool.not_true, Bool.not_false, Bool.false_eq_true, reduceIte, mJoined, mJs, mFmt, maStar, gJoin, mFld, moSome, mSl, gIx, z5, mCallL, miZ, gEqL, gNeL, mIsiT, moNone, gSl, miR1, gAdd, List.set_cons_zero, List.set_cons_succ, decide_true, eq_self, mMake, gRep, gInt, msFor, gAbs, mRev, gGe, gMod, gPow, gI, msPub, mLend, msParOO, msAppPop, msAppO, gDraw, msPar, msPar3, msAsg, mgTup, mgCons, mgNil, DL.gSub, mNeg, gMin, gSl, miEnum, msExtO, moIf, msOwn, gTuple, gList, miS]
      refine goIf (fun e => absurd e (by decide +kernel)) (fun _ => hR _ ?_)
      clear hR
      refine seq_go fun R hR => ?_
      dsimp only [msRet, msRetN, msSeq, msIf, msNext, msExpr, msSet, mtAnd, mtOr, mtNot, mTru, mB, mCB, mCall, maCons, maNil, mVar, mC, mOp, mChain, mIf, mAndV, mOrV, mNotV, mLst, mTup, mMS, gI0, gLen, gEq, gNe, gEqS, gNeS, gIn, gAll, gStrip, truD, start0, dn, mLc, miS, mgName, wipeD, mYes, lcD, List.map_cons, List.map_nil, List.replicate, List.cons_append, List.nil_append, List.getElem?_cons_zero, List.getElem?_cons_succ, List.getElem?_nil, List.append_nil, gLe, gLt, Bool.not_true, Bool.not_false, Bool.false_eq_true, reduceIte, mJoined, mJs, mFmt, maStar, gJoin, mFld, moSome, mSl, gIx, z5, mCallL, miZ, gEqL, gNeL, mIsiT, moNone, gSl, miR1, gAdd, List.set_cons_zero, List.set_cons_succ, decide_true, eq_self, mMake, gRep, gInt, msFor, gAbs, mRev, gGe, gMod, gPow, gI, msPub, mLend, msParOO, msAppPop, msAppO, gDraw, msPar, msPar3, msAsg, mgTup, mgCons, mgNil, DL.gSub, mNeg, gMin, gSl, miEnum, msExtO, moIf, msOwn, gTuple, gList, miS]
      refine goIf (fun e => absurd e (by decide +kernel)) (fun _ => hR _ ?_)
      clear hR
      dsimp only [msRet, msRetN, msSeq, msIf, msNext, msExpr, msSet, mtAnd, mtOr, mtNot, mTru, mB, mCB, mCall, maCons, maNil, mVar, mC, mOp, mChain, mIf, mAndV, mOrV, mNotV, mLst, mTup, mMS, gI0, gLen, gEq, gNe, gEqS, gNeS, gIn, gAll, gStrip, truD, start0, dn, mLc, miS, mgName, wipeD, mYes, lcD, List.map_cons, List.map_nil, List.replicate, List.cons_append, List.nil_append, List.getElem?_cons_zero, List.getElem?_cons_succ, List.getElem?_nil, List.append_nil, gLe, gLt, Bool.not_true, Bool.not_false, Bool.false_eq_true, reduceIte, mJoined, mJs, mFmt, maStar, gJoin, mFld, moSome, mSl, gIx, z5, mCallL, miZ, gEqL, gNeL, mIsiT, moNone, gSl, miR1, gAdd, List.set_cons_zero, List.set_cons_succ, decide_true, eq_self, mMake, gRep, gInt, msFor, gAbs, mRev, gGe, gMod, gPow, gI, msPub, mLend, msParOO, msAppPop, msAppO, gDraw, msPar, msPar3, msAsg, mgTup, mgCons, mgNil, DL.gSub, mNeg, gMin, gSl, miEnum, msExtO, moIf, msOwn, gTuple, gList, miS]
      exact ⟨_, _, rfl, rfl, words_ok (ys := [("alike" : Str), a, b]) (three (by decide) (nm_6 ho.1) (nm_6 ho.2)) (Nat.le_of_ble_eq_true rfl), (show 1 ≤ sizeLine from by decide), f⟩
    | melt cs n2 v =>
      rw [okS] at ho
      refine ms_at (e := [.dat (.tup [.str "melt", .lst (cs.map .str), .str n2, .str v]), .un, .un, .un, .un]) (by rfl) ?_
      refine seq_go fun R hR => ?_
      dsimp only [msRet, msRetN, msSeq, msIf, msNext, msExpr, msSet, mtAnd, mtOr, mtNot, mTru, mB, mCB, mCall, maCons, maNil, mVar, mC, mOp, mChain, mIf, mAndV, mOrV, mNotV, mLst, mTup, mMS, gI0, gLen, gEq, gNe, gEqS, gNeS, gIn, gAll, gStrip, truD, start0, dn, mLc, miS, mgName, wipeD, mYes, lcD, List.map_cons, List.map_nil, List.replicate, List.cons_append, List.nil_append, List.getElem?_cons_zero, List.getElem?_cons_succ, List.getElem?_nil, List.append_nil, gLe, gLt, Bool.not_true, Bool.not_false, Bool.false_eq_true, reduceIte, mJoined, mJs, mFmt, maStar, gJoin, mFld, moSome, mSl, gIx, z5, mCallL, miZ, gEqL, gNeL, mIsiT, moNone, gSl, miR1, gAdd, List.set_cons_zero, List.set_cons_succ, decide_true, eq_self, mMake, gRep, gInt, msFor, gAbs, mRev, gGe, gMod, gPow, gI, msPub, mLend, msParOO, msAppPop, msAppO, gDraw, msPar, msPar3, msAsg, mgTup, mgCons, mgNil, DL.gSub, mNeg, gMin, gSl, miEnum, msExtO, moIf, msOwn, gTuple, gList, miS]
      refine ⟨_, rfl, hR _ ?_⟩
      clear hR
      refine seq_go fun R hR => ?_
      refine ⟨(show 2 ≤ sizeLine from by decide), rfl, rfl, ?_⟩
      show (if inD (D.str "melt") [D.str "join", .str "stack"] = true then _ else _)
      rw [show inD (D.str "melt") [D.str "join", .str "stack"] = false from by decide +kernel]
      refine iteF (hR _ ?_)
      clear hR
      refine seq_go fun R hR => ?_
      dsimp only [msRet, msRetN, msSeq, msIf, msNext, msExpr, msSet, mtAnd, mtOr, mtNot, mTru, mB, mCB, mCall, maCons, maNil, mVar, mC, mOp, mChain, mIf, mAndV, mOrV, mNotV, mLst, mTup, mMS, gI0, gLen, gEq, gNe, gEqS, gNeS, gIn, gAll, gStrip, truD, start0, dn, mLc, miS, mgName, wipeD, mYes, lcD, List.map_cons, List.map_nil, List.replicate, List.cons_append, List.nil_append, List.getElem?_cons_zero, List.getElem?_cons_succ, List.getElem?_nil, List.append_nil, gLe, gLt, Bool.not_true, Bool.not_false, Bool.false_eq_true, reduceIte, mJoined, mJs, mFmt, maStar, gJoin, mFld, moSome, mSl, gIx, z5, mCallL, miZ, gEqL, gNeL, mIsiT, moNone, gSl, miR1, gAdd, List.set_cons_zero, List.set_cons_succ, decide_true, eq_self, mMake, gRep, gInt, msFor, gAbs, mRev, gGe, gMod, gPow, gI, msPub, mLend, msParOO, msAppPop, msAppO, gDraw, msPar, msPar3, msAsg, mgTup, mgCons, mgNil, DL.gSub, mNeg, gMin, gSl, miEnum, msExtO, moIf, msOwn, gTuple, gList, miS]
      refine goIf (fun e => absurd e (by decide +kernel)) (fun _ => hR _ ?_)
      clear hR
      refine seq_go fun R hR => ?_
      dsimp only [msRet, msRetN, msSeq, msIf, msNext, msExpr, msSet, mtAnd, mtOr, mtNot, mTru, mB, mCB, mCall, maCons, maNil, mVar, mC, mOp, mChain, mIf, mAndV, mOrV, mNotV, mLst, mTup, mMS, gI0, gLen, gEq, gNe, gEqS, gNeS, gIn, gAll, gStrip, truD, start0, dn, mLc, miS, mgName, wipeD, mYes, lcD, List.map_cons, List.map_nil, List.replicate, List.cons_append, List.nil_append, List.getElem?_cons_zero, List.getElem?_cons_succ, List.getElem?_nil, List.append_nil, gLe, gLt, Bool.not_true, Bool.not_false, Bool.false_eq_true, reduceIte, mJoined, mJs, mFmt, maStar, gJoin, mFld, moSome, mSl, gIx, z5, mCallL, miZ, gEqL, gNeL, mIsiT, moNone, gSl, miR1, gAdd, List.set_cons_zero, List.set_cons_succ, decide_true, eq_self, mMake, gRep, gInt, msFor, gAbs, mRev, gGe, gMod, gPow, gI, msPub, mLend, msParOO, msAppPop, msAppO, gDraw, msPar, msPar3, msAsg, mgTup, mgCons, mgNil, DL.gSub, mNeg, gMin, gSl, miEnum, msExtO, moIf, msOwn, gTuple, gList, miS]
      refine goIf (fun _ => ?_) (fun e => absurd rfl e)
      have l9 := nm_len ho.1
      have e : ([D.str "melt"] ++ cs.map D.str) ++ [D.str "as", .str n2, .str v] = (("melt" : Str) :: (cs ++ [("as" : Str), n2, v])).map D.str := by rw [List.map_cons, List.map_append]; rfl
      refine ⟨(show 1 ≤ sizeLine from by decide), _, rfl, add_le (by show 1 + (cs.map D.str).length ≤ 100; rw [List.length_map]; omega), _, rfl, _, rfl, (show 3 ≤ sizeLine from by decide), add_le (by show ((cs.map D.str).length + 1) + 3 ≤ 100; rw [List.length_map]; omega), ?_⟩
      refine ⟨_, _, rfl, (congrArg strsD e).trans (strsD_map _), words_ok (ys := ("melt" : Str) :: (cs ++ [("as" : Str), n2, v])) (fa2 (by decide) fun y hy => ?_) (by rw [List.length_cons, List.length_append]; show cs.length + 3 + 1 ≤ 30; omega), (show 1 ≤ sizeLine from by decide), f⟩
      exact (List.mem_append.mp hy).elim (nm6 ho.1 y) (three (by decide) (nm_6 ho.2.1) (nm_6 ho.2.2) y)
    | pivot bs n2 v hs =>
      rw [okS] at ho
      refine ms_at (e := [.dat (.tup [.str "pivot", .lst (bs.map .str), .str n2, .str v, .lst (hs.map .str)]), .un, .un, .un, .un]) (by rfl) ?_
      refine seq_go fun R hR => ?_
      dsimp only [msRet, msRetN, msSeq, msIf, msNext, msExpr, msSet, mtAnd, mtOr, mtNot, mTru, mB, mCB, mCall, maCons, maNil, mVar, mC, mOp, mChain, mIf, mAndV, mOrV, mNotV, mLst, mTup, mMS, gI0, gLen, gEq, gNe, gEqS, gNeS, gIn, gAll, gStrip, truD, start0, dn, mLc, miS, mgName, wipeD, mYes, lcD, List.map_cons, List.map_nil, List.replicate, List.cons_append, List.nil_append, List.getElem?_cons_zero, List.getElem?_cons_succ, List.getElem?_nil, List.append_nil, gLe, gLt, Bool.not_true, Bool.not_false, Bool.false_eq_true, reduceIte, mJoined, mJs, mFmt, maStar, gJoin, mFld, moSome, mSl, gIx, z5, mCallL, miZ, gEqL, gNeL, mIsiT, moNone, gSl, miR1, gAdd, List.set_cons_zero, List.set_cons_succ, decide_true, eq_self, mMake, gRep, gInt, msFor, gAbs, mRev, gGe, gMod, gPow, gI, msPub, mLend, msParOO, msAppPop, msAppO, gDraw, msPar, msPar3, msAsg, mgTup, mgCons, mgNil, DL.gSub, mNeg, gMin, gSl, miEnum, msExtO, moIf, msOwn, gTuple, gList, miS]
      refine ⟨_, rfl, hR _ ?_⟩
      clear hR
      refine seq_go fun R hR => ?_
      refine ⟨(show 2 ≤ sizeLine from by decide), rfl, rfl, ?_⟩
      show (if inD (D.str "pivot") [D.str "join", .str "stack"] = true then _ else _)
      rw [show inD (D.str "pivot") [D.str "join", .str "stack"] = false from by decide +kernel]
      refine iteF (hR _ ?_)
      clear hR
      refine seq_go fun R hR => ?_
      dsimp only [msRet, msRetN, msSeq, msIf, msNext, msExpr, msSet, mtAnd, mtOr, mtNot, mTru, mB, mCB, mCall, maCons, maNil, mVar, mC, mOp, mChain, mIf, mAndV, mOrV, mNotV, mLst, mTup, mMS, gI0, gLen, gEq, gNe, gEqS, gNeS, gIn, gAll, gStrip, truD, start0, dn, mLc, miS, mgName, wipeD, mYes, lcD, List.map_cons, List.map_nil, List.replicate, List.cons_append, List.nil_append, List.getElem?_cons_zero, List.getElem?_cons_succ, List.getElem?_nil, List.append_nil, gLe, gLt, Bool.not_true, Bool.not_false, Bool.false_eq_true, reduceIte, mJoined, mJs, mFmt, maStar, gJoin, mFld, moSome, mSl, gIx, z5, mCallL, miZ, gEqL, gNeL, mIsiT, moNone, gSl, miR1, gAdd, List.set_cons_zero, List.set_cons_succ, decide_true, eq_self, mMake, gRep, gInt, msFor, gAbs, mRev, gGe, gMod, gPow, gI, msPub, mLend, msParOO, msAppPop, msAppO, gDraw, msPar, msPar3, msAsg, mgTup, mgCons, mgNil, DL.gSub, mNeg, gMin, gSl, miEnum, msExtO, moIf, msOwn, gTuple, gList, miS]
      refine goIf (fun e => absurd e (by decide +kernel)) (fun _ => hR _ ?_)
      clear hR
      refine seq_go fun R hR => ?_
      dsimp only [msRet, msRetN, msSeq, msIf, msNext, msExpr, msSet, mtAnd, mtOr, mtNot, mTru, mB, mCB, mCall, maCons, maNil, mVar, mC, mOp, mChain, mIf, mAndV, mOrV, mNotV, mLst, mTup, mMS, gI0, gLen, gEq, gNe, gEqS, gNeS, gIn, gAll, gStrip, truD, start0, dn, mLc, miS, mgName, wipeD, mYes, lcD, List.map_cons, List.map_nil, List.replicate, List.cons_append, List.nil_append, List.getElem?_cons_zero, List.getElem?_cons_succ, List.getElem?_nil, List.append_nil, gLe, gLt, Bool.not_true, Bool.not_false, Bool.false_eq_true, reduceIte, mJoined, mJs, mFmt, maStar, gJoin, mFld, moSome, mSl, gIx, z5, mCallL, miZ, gEqL, gNeL, mIsiT, moNone, gSl, miR1, gAdd, List.set_cons_zero, List.set_cons_succ, decide_true, eq_self, mMake, gRep, gInt, msFor, gAbs, mRev, gGe, gMod, gPow, gI, msPub, mLend, msParOO, msAppPop, msAppO, gDraw, msPar, msPar3, msAsg, mgTup, mgCons, mgNil, DL.gSub, mNeg, gMin, gSl, miEnum, msExtO, moIf, msOwn, gTuple, gList, miS]
      refine goIf (fun e => absurd e (by decide +kernel)) (fun _ => hR _ ?_)
      clear hR
      refine seq_go fun R hR => ?_
      dsimp only [msRet, msRetN, msSeq, msIf, msNext, msExpr, msSet, mtAnd, mtOr, mtNot, mTru, mB, mCB, mCall, maCons, maNil, mVar, mC, mOp, mChain, mIf, mAndV, mOrV, mNotV, mLst, mTup, mMS, gI0, gLen, gEq, gNe, gEqS, gNeS, gIn, gAll, gStrip, truD, start0, dn, mLc, miS, mgName, wipeD, mYes, lcD, List.map_cons, List.map_nil, List.replicate, List.cons_append, List.nil_append, List.getElem?_cons_zero, List.getElem?_cons_succ, List.getElem?_nil, List.append_nil, gLe, gLt, Bool.not_true, Bool.not_false, Bool.false_eq_true, reduceIte, mJoined, mJs, mFmt, maStar, gJoin, mFld, moSome, mSl, gIx, z5, mCallL, miZ, gEqL, gNeL, mIsiT, moNone, gSl, miR1, gAdd, List.set_cons_zero, List.set_cons_succ, decide_true, eq_self, mMake, gRep, gInt, msFor, gAbs, mRev, gGe, gMod, gPow, gI, msPub, mLend, msParOO, msAppPop, msAppO, gDraw, msPar, msPar3, msAsg, mgTup, mgCons, mgNil, DL.gSub, mNeg, gMin, gSl, miEnum, msExtO, moIf, msOwn, gTuple, gList, miS]
      refine goIf (fun _ => ?_) (fun e => absurd rfl e)
      have l9 := nm_len ho.1
      have l9h := nm_len ho.2.2.2
      refine ⟨(show 1 ≤ sizeLine from by decide), _, rfl, add_le (by show 1 + (bs.map D.str).length ≤ 100; rw [List.length_map]; omega), _, rfl, _, rfl, (show 4 ≤ sizeLine from by decide), add_le (by show ((bs.map D.str).length + 1) + 4 ≤ 100; rw [List.length_map]; omega), ?_⟩
      have e : (([D.str "pivot"] ++ bs.map D.str) ++ [D.str "by", .str n2, .str v, .str "to"]) ++ hs.map D.str = (("pivot" : Str) :: (bs ++ (("by" : Str) :: n2 :: v :: ("to" : Str) :: hs))).map D.str := by rw [List.map_cons, List.map_append, List.append_assoc]; rfl
      refine ⟨_, rfl, add_le ?_, _, _, rfl, (congrArg strsD e).trans (strsD_map _), words_ok (ys := ("pivot" : Str) :: (bs ++ (("by" : Str) :: n2 :: v :: ("to" : Str) :: hs))) (fa2 (by decide) fun y hy => ?_) (by rw [List.length_cons, List.length_append]; show bs.length + (hs.length + 4) + 1 ≤ 30; omega), (show 1 ≤ sizeLine from by decide), f⟩
      · show (D.str "pivot" :: bs.map D.str ++ [D.str "by", .str n2, .str v, .str "to"]).length + (hs.map D.str).length ≤ 100
        rw [List.length_append, List.length_cons, List.length_map, List.length_map]
        show bs.length + 1 + 4 + hs.length ≤ 100
        omega
      · exact (List.mem_append.mp hy).elim (nm6 ho.1 y) (fa2 (p := fun y : Str => y.length ≤ 6) (by decide) (fa2 (p := fun y : Str => y.length ≤ 6) (nm_6 ho.2.1) (fa2 (p := fun y : Str => y.length ≤ 6) (nm_6 ho.2.2.1) (fa2 (p := fun y : Str => y.length ≤ 6) (by decide) (nm6 ho.2.2.2)))) y)
    | join cs ss =>
      cases n with
      | zero => exact ho.elim
      | succ n =>
        refine ms_at (e := [.dat (.tup [.str "join", .lst (cs.map .str), .lst (ss.map toldD)]), .un, .un, .un, .un]) (by rw [← toldDs_eq]; rfl) ?_
        refine seq_go fun R hR => ?_
        dsimp only [msRet, msRetN, msSeq, msIf, msNext, msExpr, msSet, mtAnd, mtOr, mtNot, mTru, mB, mCB, mCall, maCons, maNil, mVar, mC, mOp, mChain, mIf, mAndV, mOrV, mNotV, mLst, mTup, mMS, gI0, gLen, gEq, gNe, gEqS, gNeS, gIn, gAll, gStrip, truD, start0, dn, mLc, miS, mgName, wipeD, mYes, lcD, List.map_cons, List.map_nil, List.replicate, List.cons_append, List.nil_append, List.getElem?_cons_zero, List.getElem?_cons_succ, List.getElem?_nil, List.append_nil, gLe, gLt, Bool.not_true, Bool.not_false, Bool.false_eq_true, reduceIte, mJoined, mJs, mFmt, maStar, gJoin, mFld, moSome, mSl, gIx, z5, mCallL, miZ, gEqL, gNeL, mIsiT, moNone, gSl, miR1, gAdd, List.set_cons_zero, List.set_cons_succ, decide_true, eq_self, mMake, gRep, gInt, msFor, gAbs, mRev, gGe, gMod, gPow, gI, msPub, mLend, msParOO, msAppPop, msAppO, gDraw, msPar, msPar3, msAsg, mgTup, mgCons, mgNil, DL.gSub, mNeg, gMin, gSl, miEnum, msExtO, moIf, msOwn, gTuple, gList, miS]
        refine ⟨_, rfl, hR _ ?_⟩
        clear hR
        refine seq_go fun R hR => ?_
        refine ⟨(show 2 ≤ sizeLine from by decide), rfl, rfl, ?_⟩
        show (if inD (D.str "join") [D.str "join", .str "stack"] = true then _ else _)
        rw [show inD (D.str "join") [D.str "join", .str "stack"] = true from by decide +kernel]
        refine iteT ?_
        clear hR
        refine seq_go fun R hR => ?_
        have key : R [.dat (.tup [.str "join", .lst (cs.map .str), .lst (ss.map toldD)]), .dat (.str "join"), .own [.str (Txt.join " " (("join" : Str) :: cs))], .un, .un] := by
          refine hR _ ?_
          clear hR
          refine seq_go fun R hR => ?_
          dsimp only [msRet, msRetN, msSeq, msIf, msNext, msExpr, msSet, mtAnd, mtOr, mtNot, mTru, mB, mCB, mCall, maCons, maNil, mVar, mC, mOp, mChain, mIf, mAndV, mOrV, mNotV, mLst, mTup, mMS, gI0, gLen, gEq, gNe, gEqS, gNeS, gIn, gAll, gStrip, truD, start0, dn, mLc, miS, mgName, wipeD, mYes, lcD, List.map_cons, List.map_nil, List.replicate, List.cons_append, List.nil_append, List.getElem?_cons_zero, List.getElem?_cons_succ, List.getElem?_nil, List.append_nil, gLe, gLt, Bool.not_true, Bool.not_false, Bool.false_eq_true, reduceIte, mJoined, mJs, mFmt, maStar, gJoin, mFld, moSome, mSl, gIx, z5, mCallL, miZ, gEqL, gNeL, mIsiT, moNone, gSl, miR1, gAdd, List.set_cons_zero, List.set_cons_succ, decide_true, eq_self, mMake, gRep, gInt, msFor, gAbs, mRev, gGe, gMod, gPow, gI, msPub, mLend, msParOO, msAppPop, msAppO, gDraw, msPar, msPar3, msAsg, mgTup, mgCons, mgNil, DL.gSub, mNeg, gMin, gSl, miEnum, msExtO, moIf, msOwn, gTuple, gList, miS]
          refine ⟨_, rfl, _, rfl, ?_⟩
          refine forD_map toldD (fun don δ => ∃ x, δ = [.dat (.tup [.str "join", .lst (cs.map .str), .lst (ss.map toldD)]), .dat (.str "join"), .own (((Txt.join " " (("join" : Str) :: cs)) :: linesSs don).map D.str), x, .un]) ss ss [] _ rfl (fun s don rest δ e i k2 q2 _ _ => ?_) ⟨_, rfl⟩ (fun δ i => ?_)
          · obtain ⟨x, rfl⟩ := i
            have hs : s ∈ ss := by rw [← e]; exact List.mem_append_right _ (List.mem_cons_self ..)
            have hl6 : ss.length ≤ 6 := ho.2.1
            have hd : don.length ≤ 6 := by have := congrArg List.length e; rw [List.length_append] at this; omega
            have hb := linesSs_le (m := Bd n) (ss := don) fun t ht => lines_few (ho.2.2 t (by rw [← e]; exact List.mem_append_left _ ht))
            have h6 := Nat.mul_le_mul_right (Bd n) hd
            have hB := Bd_le (n := n) (by omega)
            have hc := lines_few (ho.2.2 s hs)
            dsimp only [msRet, msRetN, msSeq, msIf, msNext, msExpr, msSet, mtAnd, mtOr, mtNot, mTru, mB, mCB, mCall, maCons, maNil, mVar, mC, mOp, mChain, mIf, mAndV, mOrV, mNotV, mLst, mTup, mMS, gI0, gLen, gEq, gNe, gEqS, gNeS, gIn, gAll, gStrip, truD, start0, dn, mLc, miS, mgName, wipeD, mYes, lcD, List.map_cons, List.map_nil, List.replicate, List.cons_append, List.nil_append, List.getElem?_cons_zero, List.getElem?_cons_succ, List.getElem?_nil, List.append_nil, gLe, gLt, Bool.not_true, Bool.not_false, Bool.false_eq_true, reduceIte, mJoined, mJs, mFmt, maStar, gJoin, mFld, moSome, mSl, gIx, z5, mCallL, miZ, gEqL, gNeL, mIsiT, moNone, gSl, miR1, gAdd, List.set_cons_zero, List.set_cons_succ, decide_true, eq_self, mMake, gRep, gInt, msFor, gAbs, mRev, gGe, gMod, gPow, gI, msPub, mLend, msParOO, msAppPop, msAppO, gDraw, msPar, msPar3, msAsg, mgTup, mgCons, mgNil, DL.gSub, mNeg, gMin, gSl, miEnum, msExtO, moIf, msOwn, gTuple, gList, miS]
            refine ⟨rfl, s, rfl, ho.2.2 s hs, ?_⟩
            refine ⟨?_, q2 _ ⟨.dat (toldD s), ?_⟩⟩
            · show ((Txt.join " " (("join" : Str) :: cs) :: linesSs don).map D.str).length + ((linesS s).map D.str).length ≤ 16777216
              rw [List.length_map, List.length_map, List.length_cons]
              omega
            · rw [linesSs_app, linesSs_one]
              rw [← List.cons_append, List.map_append]
          · obtain ⟨x, rfl⟩ := i
            refine hR _ ?_
            have hb := linesSs_le (m := Bd n) fun t ht => lines_few (ho.2.2 t ht)
            have h6 := Nat.mul_le_mul_right (Bd n) ho.2.1
            have hB := Bd_le (n := n) (by omega)
            refine ⟨(show 1 ≤ sizeLine from by decide), ?_, ?_⟩
            · show ((Txt.join " " (("join" : Str) :: cs) :: linesSs ss).map D.str).length + 1 ≤ 16777216
              rw [List.length_map, List.length_cons]
              omega
            · have f : F1 (.lst ((Txt.join " " (("join" : Str) :: cs) :: (linesSs ss ++ [("end" : Str)])).map D.str)) := f
              rw [← List.cons_append, List.map_append] at f
              exact f
        dsimp only [msRet, msRetN, msSeq, msIf, msNext, msExpr, msSet, mtAnd, mtOr, mtNot, mTru, mB, mCB, mCall, maCons, maNil, mVar, mC, mOp, mChain, mIf, mAndV, mOrV, mNotV, mLst, mTup, mMS, gI0, gLen, gEq, gNe, gEqS, gNeS, gIn, gAll, gStrip, truD, start0, dn, mLc, miS, mgName, wipeD, mYes, lcD, List.map_cons, List.map_nil, List.replicate, List.cons_append, List.nil_append, List.getElem?_cons_zero, List.getElem?_cons_succ, List.getElem?_nil, List.append_nil, gLe, gLt, Bool.not_true, Bool.not_false, Bool.false_eq_true, reduceIte, mJoined, mJs, mFmt, maStar, gJoin, mFld, moSome, mSl, gIx, z5, mCallL, miZ, gEqL, gNeL, mIsiT, moNone, gSl, miR1, gAdd, List.set_cons_zero, List.set_cons_succ, decide_true, eq_self, mMake, gRep, gInt, msFor, gAbs, mRev, gGe, gMod, gPow, gI, msPub, mLend, msParOO, msAppPop, msAppO, gDraw, msPar, msPar3, msAsg, mgTup, mgCons, mgNil, DL.gSub, mNeg, gMin, gSl, miEnum, msExtO, moIf, msOwn, gTuple, gList, miS]
        refine goIf (fun _ => ?_) (fun e => absurd rfl e)
        have l9 := nm_len ho.1
        exact ⟨(show 1 ≤ sizeLine from by decide), _, rfl, add_le (by show 1 + (cs.map D.str).length ≤ 100; rw [List.length_map]; omega), _, _, rfl, strsD_map (("join" : Str) :: cs), words_ok (ys := ("join" : Str) :: cs) (fa2 (by decide) (nm6 ho.1)) (by rw [List.length_cons]; omega), (show 1 ≤ sizeLine from by decide), key⟩
    | stack ss =>
      cases n with
      | zero => exact ho.elim
      | succ n =>
        refine ms_at (e := [.dat (.tup [.str "stack", .lst (ss.map toldD)]), .un, .un, .un, .un]) (by rw [← toldDs_eq]; rfl) ?_
        refine seq_go fun R hR => ?_
        dsimp only [msRet, msRetN, msSeq, msIf, msNext, msExpr, msSet, mtAnd, mtOr, mtNot, mTru, mB, mCB, mCall, maCons, maNil, mVar, mC, mOp, mChain, mIf, mAndV, mOrV, mNotV, mLst, mTup, mMS, gI0, gLen, gEq, gNe, gEqS, gNeS, gIn, gAll, gStrip, truD, start0, dn, mLc, miS, mgName, wipeD, mYes, lcD, List.map_cons, List.map_nil, List.replicate, List.cons_append, List.nil_append, List.getElem?_cons_zero, List.getElem?_cons_succ, List.getElem?_nil, List.append_nil, gLe, gLt, Bool.not_true, Bool.not_false, Bool.false_eq_true, reduceIte, mJoined, mJs, mFmt, maStar, gJoin, mFld, moSome, mSl, gIx, z5, mCallL, miZ, gEqL, gNeL, mIsiT, moNone, gSl, miR1, gAdd, List.set_cons_zero, List.set_cons_succ, decide_true, eq_self, mMake, gRep, gInt, msFor, gAbs, mRev, gGe, gMod, gPow, gI, msPub, mLend, msParOO, msAppPop, msAppO, gDraw, msPar, msPar3, msAsg, mgTup, mgCons, mgNil, DL.gSub, mNeg, gMin, gSl, miEnum, msExtO, moIf, msOwn, gTuple, gList, miS]
        refine ⟨_, rfl, hR _ ?_⟩
        clear hR
        refine seq_go fun R hR => ?_
        refine ⟨(show 2 ≤ sizeLine from by decide), rfl, rfl, ?_⟩
        show (if inD (D.str "stack") [D.str "join", .str "stack"] = true then _ else _)
        rw [show inD (D.str "stack") [D.str "join", .str "stack"] = true from by decide +kernel]
        refine iteT ?_
        clear hR
        refine seq_go fun R hR => ?_
        have key : R [.dat (.tup [.str "stack", .lst (ss.map toldD)]), .dat (.str "stack"), .own [.str (("stack" : Str))], .un, .un] := by
          refine hR _ ?_
          clear hR
          refine seq_go fun R hR => ?_
          dsimp only [msRet, msRetN, msSeq, msIf, msNext, msExpr, msSet, mtAnd, mtOr, mtNot, mTru, mB, mCB, mCall, maCons, maNil, mVar, mC, mOp, mChain, mIf, mAndV, mOrV, mNotV, mLst, mTup, mMS, gI0, gLen, gEq, gNe, gEqS, gNeS, gIn, gAll, gStrip, truD, start0, dn, mLc, miS, mgName, wipeD, mYes, lcD, List.map_cons, List.map_nil, List.replicate, List.cons_append, List.nil_append, List.getElem?_cons_zero, List.getElem?_cons_succ, List.getElem?_nil, List.append_nil, gLe, gLt, Bool.not_true, Bool.not_false, Bool.false_eq_true, reduceIte, mJoined, mJs, mFmt, maStar, gJoin, mFld, moSome, mSl, gIx, z5, mCallL, miZ, gEqL, gNeL, mIsiT, moNone, gSl, miR1, gAdd, List.set_cons_zero, List.set_cons_succ, decide_true, eq_self, mMake, gRep, gInt, msFor, gAbs, mRev, gGe, gMod, gPow, gI, msPub, mLend, msParOO, msAppPop, msAppO, gDraw, msPar, msPar3, msAsg, mgTup, mgCons, mgNil, DL.gSub, mNeg, gMin, gSl, miEnum, msExtO, moIf, msOwn, gTuple, gList, miS]
          refine ⟨_, rfl, _, rfl, ?_⟩
          refine forD_map toldD (fun don δ => ∃ x, δ = [.dat (.tup [.str "stack", .lst (ss.map toldD)]), .dat (.str "stack"), .own (((("stack" : Str)) :: linesSs don).map D.str), x, .un]) ss ss [] _ rfl (fun s don rest δ e i k2 q2 _ _ => ?_) ⟨_, rfl⟩ (fun δ i => ?_)
          · obtain ⟨x, rfl⟩ := i
            have hs : s ∈ ss := by rw [← e]; exact List.mem_append_right _ (List.mem_cons_self ..)
            have hl6 : ss.length ≤ 6 := ho.1
            have hd : don.length ≤ 6 := by have := congrArg List.length e; rw [List.length_append] at this; omega
            have hb := linesSs_le (m := Bd n) (ss := don) fun t ht => lines_few (ho.2 t (by rw [← e]; exact List.mem_append_left _ ht))
            have h6 := Nat.mul_le_mul_right (Bd n) hd
            have hB := Bd_le (n := n) (by omega)
            have hc := lines_few (ho.2 s hs)
            dsimp only [msRet, msRetN, msSeq, msIf, msNext, msExpr, msSet, mtAnd, mtOr, mtNot, mTru, mB, mCB, mCall, maCons, maNil, mVar, mC, mOp, mChain, mIf, mAndV, mOrV, mNotV, mLst, mTup, mMS, gI0, gLen, gEq, gNe, gEqS, gNeS, gIn, gAll, gStrip, truD, start0, dn, mLc, miS, mgName, wipeD, mYes, lcD, List.map_cons, List.map_nil, List.replicate, List.cons_append, List.nil_append, List.getElem?_cons_zero, List.getElem?_cons_succ, List.getElem?_nil, List.append_nil, gLe, gLt, Bool.not_true, Bool.not_false, Bool.false_eq_true, reduceIte, mJoined, mJs, mFmt, maStar, gJoin, mFld, moSome, mSl, gIx, z5, mCallL, miZ, gEqL, gNeL, mIsiT, moNone, gSl, miR1, gAdd, List.set_cons_zero, List.set_cons_succ, decide_true, eq_self, mMake, gRep, gInt, msFor, gAbs, mRev, gGe, gMod, gPow, gI, msPub, mLend, msParOO, msAppPop, msAppO, gDraw, msPar, msPar3, msAsg, mgTup, mgCons, mgNil, DL.gSub, mNeg, gMin, gSl, miEnum, msExtO, moIf, msOwn, gTuple, gList, miS]
            refine ⟨rfl, s, rfl, ho.2 s hs, ?_⟩
            refine ⟨?_, q2 _ ⟨.dat (toldD s), ?_⟩⟩
            · show ((("stack" : Str) :: linesSs don).map D.str).length + ((linesS s).map D.str).length ≤ 16777216
              rw [List.length_map, List.length_map, List.length_cons]
              omega
            · rw [linesSs_app, linesSs_one]
              rw [← List.cons_append, List.map_append]
          · obtain ⟨x, rfl⟩ := i
            refine hR _ ?_
            have hb := linesSs_le (m := Bd n) fun t ht => lines_few (ho.2 t ht)
            have h6 := Nat.mul_le_mul_right (Bd n) ho.1
            have hB := Bd_le (n := n) (by omega)
            refine ⟨(show 1 ≤ sizeLine from by decide), ?_, ?_⟩
            · show ((("stack" : Str) :: linesSs ss).map D.str).length + 1 ≤ 16777216
              rw [List.length_map, List.length_cons]
              omega
            · have f : F1 (.lst ((("stack" : Str) :: (linesSs ss ++ [("end" : Str)])).map D.str)) := f
              rw [← List.cons_append, List.map_append] at f
              exact f
        dsimp only [msRet, msRetN, msSeq, msIf, msNext, msExpr, msSet, mtAnd, mtOr, mtNot, mTru, mB, mCB, mCall, maCons, maNil, mVar, mC, mOp, mChain, mIf, mAndV, mOrV, mNotV, mLst, mTup, mMS, gI0, gLen, gEq, gNe, gEqS, gNeS, gIn, gAll, gStrip, truD, start0, dn, mLc, miS, mgName, wipeD, mYes, lcD, List.map_cons, List.map_nil, List.replicate, List.cons_append, List.nil_append, List.getElem?_cons_zero, List.getElem?_cons_succ, List.getElem?_nil, List.append_nil, gLe, gLt, Bool.not_true, Bool.not_false, Bool.false_eq_true, reduceIte, mJoined, mJs, mFmt, maStar, gJoin, mFld, moSome, mSl, gIx, z5, mCallL, miZ, gEqL, gNeL, mIsiT, moNone, gSl, miR1, gAdd, List.set_cons_zero, List.set_cons_succ, decide_true, eq_self, mMake, gRep, gInt, msFor, gAbs, mRev, gGe, gMod, gPow, gI, msPub, mLend, msParOO, msAppPop, msAppO, gDraw, msPar, msPar3, msAsg, mgTup, mgCons, mgNil, DL.gSub, mNeg, gMin, gSl, miEnum, msExtO, moIf, msOwn, gTuple, gList, miS]
        refine goIf (fun e => absurd e (by decide +kernel)) (fun _ => ?_)
        exact ⟨(show 1 ≤ sizeLine from by decide), key⟩
theorem ok_law_lines0 (G : Glo K mg) (c : He.SaysD fa fn K) : Fn P w K mg base "_law_lines" 1 1 false (fun _ _ _ => False) := by
  obtain ⟨fd, F⟩ := c.defs (d := dfn ("_law_lines", none) "_law_lines" "_law_lines" s_law_lines) (by unfold fn; simp)
  replace F : FunD K "_law_lines" "_law_lines" (defArgs s_law_lines) (defBody s_law_lines) (defScope s_law_lines) [] [] (He.ga K "_law_lines") fd := F
  refine ⟨_, fd, ["_law_step"], F.ok (k := 0) sc_law_lines (fun vs H Q E h => spD_len h) (fun cdv A outer s H vs Q E hr h => ?_), G.g "_law_lines" (by decide), F.kp, F.bindsN fun _ _ _ _ _ _ us hl => match us, hl with | [_], _ => rfl⟩
  obtain ⟨_, _, _, _, _, _, _, _, _, _, _, hf, _⟩ := h
  exact hf.elim
end
end K11

set_option Elab.async false
set_option linter.all false
set_option maxRecDepth 100000
set_option maxHeartbeats 4000000
namespace K11
open PySem PySem.Spec PyProof.Rows L2 DL
/-! ### the text that is told, and what is kept -/
theorem line_len : ∀ {n : Nat} {s : Stp}, okS n s → ∀ l ∈ linesS s, l.length ≤ 300 := by
  have w : ∀ {ys : List Str}, (∀ y ∈ ys, y.length ≤ 6) → ys.length ≤ 30 → ∀ l ∈ [Txt.join " " ys], l.length ≤ 300 := fun {ys} h hl l hm => by
    cases List.mem_singleton.mp hm
    have := words_len h
    omega
  intro n
  induction n with
  | zero =>
    intro s h
    cases s with
    | join cs ss => exact h.elim
    | stack ss => exact h.elim
    | pick cs => rw [okS] at h; rw [linesS]; exact w (fa2 (by decide) (nm6 h)) (by rw [List.length_cons]; have := h.2.1; omega)
    | rename o m => rw [okS] at h; rw [linesS]; exact w (three (by decide) (nm_6 h.1) (nm_6 h.2)) (Nat.le_of_ble_eq_true rfl)
    | has a => rw [okS] at h; rw [linesS]; exact w (fa2 (by decide) (fa1 (nm_6 h))) (Nat.le_of_ble_eq_true rfl)
    | is_ a t => rw [okS] at h; rw [linesS]; exact w (three (by decide) (nm_6 h.1) h.2.2.1) (Nat.le_of_ble_eq_true rfl)
    | put a t => rw [okS] at h; rw [linesS]; exact w (three (by decide) (nm_6 h.1) h.2.2.1) (Nat.le_of_ble_eq_true rfl)
    | alike a b => rw [okS] at h; rw [linesS]; exact w (three (by decide) (nm_6 h.1) (nm_6 h.2)) (Nat.le_of_ble_eq_true rfl)
    | melt cs m v => rw [okS] at h; rw [linesS]; exact w (fa2 (by decide) fun y hy => (List.mem_append.mp hy).elim (nm6 h.1 y) (three (by decide) (nm_6 h.2.1) (nm_6 h.2.2) y)) (by rw [List.length_cons, List.length_append]; have := h.1.2.1; show cs.length + 3 + 1 ≤ 30; omega)
    | pivot bs m v hs => rw [okS] at h; rw [linesS]; exact w (fa2 (by decide) fun y hy => (List.mem_append.mp hy).elim (nm6 h.1 y) (fa2 (p := fun y : Str => y.length ≤ 6) (by decide) (fa2 (p := fun y : Str => y.length ≤ 6) (nm_6 h.2.1) (fa2 (p := fun y : Str => y.length ≤ 6) (nm_6 h.2.2.1) (fa2 (p := fun y : Str => y.length ≤ 6) (by decide) (nm6 h.2.2.2)))) y)) (by rw [List.length_cons, List.length_append]; have := h.1.2.1; have := h.2.2.2.2.1; show bs.length + (hs.length + 4) + 1 ≤ 30; omega)
  | succ n ih =>
    intro s h
    have sub : ∀ ss : List Stp, (∀ s ∈ ss, okS n s) → ∀ l ∈ linesSs ss ++ [("end" : Str)], l.length ≤ 300 := fun ss hs l hl => by
      rcases List.mem_append.mp hl with hl | hl
      · rw [linesSs_eq] at hl
        obtain ⟨s, h1, h2⟩ := List.mem_flatMap.mp hl
        exact ih (hs s h1) l h2
      · cases List.mem_singleton.mp hl
        decide
    cases s with
    | join cs ss =>
      have h : Nms 0 cs ∧ ss.length ≤ 6 ∧ ∀ s ∈ ss, okS n s := h
      rw [linesS]
      refine fa2 (p := fun l : Str => l.length ≤ 300) ?_ (sub ss h.2.2)
      have := join_len h.1
      omega
    | stack ss =>
      have h : ss.length ≤ 6 ∧ ∀ s ∈ ss, okS n s := h
      rw [linesS]
      exact fa2 (p := fun l : Str => l.length ≤ 300) (by decide) (sub ss h.2)
    | pick cs => rw [okS] at h; rw [linesS]; exact w (fa2 (by decide) (nm6 h)) (by rw [List.length_cons]; have := h.2.1; omega)
    | rename o m => rw [okS] at h; rw [linesS]; exact w (three (by decide) (nm_6 h.1) (nm_6 h.2)) (Nat.le_of_ble_eq_true rfl)
    | has a => rw [okS] at h; rw [linesS]; exact w (fa2 (by decide) (fa1 (nm_6 h))) (Nat.le_of_ble_eq_true rfl)
    | is_ a t => rw [okS] at h; rw [linesS]; exact w (three (by decide) (nm_6 h.1) h.2.2.1) (Nat.le_of_ble_eq_true rfl)
    | put a t => rw [okS] at h; rw [linesS]; exact w (three (by decide) (nm_6 h.1) h.2.2.1) (Nat.le_of_ble_eq_true rfl)
    | alike a b => rw [okS] at h; rw [linesS]; exact w (three (by decide) (nm_6 h.1) (nm_6 h.2)) (Nat.le_of_ble_eq_true rfl)
    | melt cs m v => rw [okS] at h; rw [linesS]; exact w (fa2 (by decide) fun y hy => (List.mem_append.mp hy).elim (nm6 h.1 y) (three (by decide) (nm_6 h.2.1) (nm_6 h.2.2) y)) (by rw [List.length_cons, List.length_append]; have := h.1.2.1; show cs.length + 3 + 1 ≤ 30; omega)
    | pivot bs m v hs => rw [okS] at h; rw [linesS]; exact w (fa2 (by decide) fun y hy => (List.mem_append.mp hy).elim (nm6 h.1 y) (fa2 (p := fun y : Str => y.length ≤ 6) (by decide) (fa2 (p := fun y : Str => y.length ≤ 6) (nm_6 h.2.1) (fa2 (p := fun y : Str => y.length ≤ 6) (nm_6 h.2.2.1) (fa2 (p := fun y : Str => y.length ≤ 6) (by decide) (nm6 h.2.2.2)))) y)) (by rw [List.length_cons, List.length_append]; have := h.1.2.1; have := h.2.2.2.2.1; show bs.length + (hs.length + 4) + 1 ≤ 30; omega)
theorem Bd_2 : ∀ {n : Nat}, n ≤ 2 → Bd n ≤ 12000
  | 0, _ => by decide
  | 1, _ => by decide
  | 2, _ => by decide
def gTextOf (n : Nat) : FF := fun ds F _ => ∃ s, ds = [toldD s] ∧ okS n s ∧ F (.str (textS s))
def gKept (K : Fg) (n : Nat) : FF := fun ds F _ => ∃ s, ds = [objD K s, toldD s] ∧ okS n s ∧ F (.bl true)
theorem eq_strs : ∀ xs : List Str, eqDs (xs.map D.str) (xs.map D.str) = true
  | [] => rfl
  | x :: xs => by
    show (eqD (.str x) (.str x) && eqDs (xs.map D.str) (xs.map D.str)) = true
    rw [eq_strs xs]
    show (decide (x = x) && true) = true
    rw [decide_eq_true rfl]
    rfl
theorem eq_str (x : Str) : eqD (.str x) (.str x) = true := by
  show decide (x = x) = true
  exact decide_eq_true rfl
theorem eq_tup {xs ys : List D} (h : eqDs xs ys = true) : eqD (.tup xs) (.tup ys) = true := h
theorem eq_cons {x y : D} {xs ys : List D} (h : eqD x y = true) (k : eqDs xs ys = true) : eqDs (x :: xs) (y :: ys) = true := by
  show (eqD x y && eqDs xs ys) = true
  rw [h, k]
  rfl
theorem plain_strs {m : Nat} {cs : List Str} (h : Nms m cs) {k : Nat} : DL.plain (k + 1) (.tup (cs.map D.str)) = true := List.all_eq_true.mpr fun d hd => by
  obtain ⟨x, hx, rfl⟩ := List.mem_map.mp hd
  have := (h.2.2.2 x hx).2.2
  cases k <;> exact this
theorem plain_cons {k : Nat} {x : D} {xs : List D} (h : DL.plain k x = true) (t : DL.plain (k + 1) (.tup xs) = true) : DL.plain (k + 1) (.tup (x :: xs)) = true := by
  show (DL.plain k x && xs.all (DL.plain k)) = true
  rw [h]
  exact t
theorem plain_s {k : Nat} {x : Str} (h : PyData.strOk x = true) : DL.plain k (.str x) = true := by cases k <;> exact h
theorem own_same {K : Fg} (x : Exf K) {n : Nat} {s : Stp} (ho : okS n s) : ownP K (fun C => C ∈ cl10 K) (gEqC K n) (objD K s) (objD K s) := by
  obtain ⟨fs, e⟩ := obj_of K s
  have m0 : He.ga K (clsN s) ∈ cl10 K := mem_cl10 (cls_mem s)
  exact ⟨_, fs, _, fs, e, e, m0, ((x.own _ m0).cl _ m0).1, fun F f => ⟨s, objD K s, true, rfl, rfl, ho, .inl ⟨s, rfl, ho, by rw [decide_eq_true rfl, decide_eq_true rfl]; rfl⟩, f⟩⟩
theorem own_all {K : Fg} (x : Exf K) {n : Nat} {ss : List Stp} (ho : ∀ s ∈ ss, okS n s) {F : D → Prop} (f : F (.bl true)) : gEqT K (fun C => C ∈ cl10 K) (gEqC K n) (.tup (objDs K ss)) (.tup (ss.map (objD K))) F := by
  refine ⟨_, _, rfl, rfl, by rw [objDs_eq], fun i a b ha hb => ?_, f⟩
  rw [objDs_eq, hb] at ha
  cases ha
  rw [List.getElem?_map] at hb
  cases e : ss[i]? with
  | none => rw [e] at hb; cases hb
  | some s =>
    rw [e] at hb
    cases hb
    exact own_same x (ho s (List.mem_of_getElem? e))
section
variable {P : Program} {w : World} {K : Fg} {mg : Str → Option Value} {base : Heap}
theorem sc_law_text_of : FnScope ["_law_told"] ["_law_told"] (defScope s_law_text_of) := ⟨rfl, rfl, rfl, by decide +kernel, rfl, by decide +kernel, by decide +kernel⟩
theorem ok_law_text_of (G : Glo K mg) (c : He.SaysD fa fn K) {n : Nat} (hn2 : n ≤ 2) (H_law_lines : Fn P w K mg base "_law_lines" (n + 6) 1 false (gLines n)) : Fn P w K mg base "_law_text_of" (n + 7) 1 false (gTextOf n) := by
  obtain ⟨fd, F⟩ := c.defs (d := dfn ("_law_text_of", none) "_law_text_of" "_law_text_of" s_law_text_of) (by unfold fn; simp)
  replace F : FunD K "_law_text_of" "_law_text_of" (defArgs s_law_text_of) (defBody s_law_text_of) (defScope s_law_text_of) [] [] (He.ga K "_law_text_of") fd := F
  refine ⟨_, fd, ["_law_told"], ?_, G.g "_law_text_of" (by decide), F.kp, F.bindsN fun _ _ _ _ _ _ us hl => match us, hl with | [_], _ => rfl⟩
  have nd : (["_law_told"] : List Str).Nodup := sc_law_text_of.nd
  obtain ⟨_, h_LETTERS⟩ := G.hL
  obtain ⟨_, h_LAD⟩ := G.hA
  obtain ⟨_, h_LN⟩ := G.hN
  obtain ⟨_, h_LT⟩ := G.hT
  apply fn_okE (k := n + 6) (N := ["_law_told"]) F sc_law_text_of rfl (by decide)
  intro c cdv A outer s H E hr
  have hu := hr.units
  have tk := takes_of (X := cxOf (L2.CX P w) P w K mg base ["_law_told"] "_law_text_of" (defScope s_law_text_of) (He.ga K "_law_text_of") cdv A outer s H E) rfl rfl rfl rfl
  apply Exists.intro
  apply Exists.intro
  apply And.intro
  · exact (dss_one (ds_ret (de_ms PySem.F.slot_str_join PySem.F.type_str_join mt_join md_join de_str (da_cons (de_f H_law_lines (hr.mono (by omega)) rfl tk (da_cons (de_var 0) da_nil)) da_nil))))
  · intro ds F1 X1 hn h
    obtain ⟨s, rfl, ho, f⟩ := h
    refine ms_at (e := [.dat (toldD s)]) rfl ?_
    dsimp only [msRet, msRetN, msSeq, msIf, msNext, msExpr, msSet, mtAnd, mtOr, mtNot, mTru, mB, mCB, mCall, maCons, maNil, mVar, mC, mOp, mChain, mIf, mAndV, mOrV, mNotV, mLst, mTup, mMS, gI0, gLen, gEq, gNe, gEqS, gNeS, gIn, gAll, gStrip, truD, start0, dn, mLc, miS, mgName, wipeD, mYes, lcD, List.map_cons, List.map_nil, List.replicate, List.cons_append, List.nil_append, List.getElem?_cons_zero, List.getElem?_cons_succ, List.getElem?_nil, List.append_nil, gLe, gLt, Bool.not_true, Bool.not_false, Bool.false_eq_true, reduceIte, mJoined, mJs, mFmt, maStar, gJoin, mFld, moSome, mSl, gIx, z5, mCallL, miZ, gEqL, gNeL, mIsiT, moNone, gSl, miR1, gAdd, List.set_cons_zero, List.set_cons_succ, decide_true, eq_self, mMake, gRep, gInt, msFor, gAbs, mRev, gGe, gMod, gPow, gI, msPub, mLend, msParOO, msAppPop, msAppO, gDraw, msPar, msPar3, msAsg, mgTup, mgCons, mgNil, DL.gSub, mNeg, gMin, gSl, miEnum, gTuple, gList, miS, mAndV, mOrV, moSome, moNone, mSl]
    refine ⟨rfl, s, rfl, ho, _, _, rfl, strsD_map _, ?_, f⟩
    have h1 := lines_few ho
    have h2 := Bd_2 hn2
    have h3 := sum_le (line_len ho)
    have h4 := Nat.mul_le_mul_right 300 (Nat.le_trans h1 h2)
    show _ + (linesS s).length * 1 ≤ 16777216
    omega
theorem sc_law_is_kept : FnScope ["_law_step", "_law_told", "_law_word", "_law_inner", "_law_one"] ["_law_step", "_law_told"] (defScope s_law_is_kept) := ⟨rfl, rfl, rfl, by decide +kernel, rfl, by decide +kernel, by decide +kernel⟩
theorem ok_law_is_kept (G : Glo K mg) (c : He.SaysD fa fn K) {n : Nat} (H_law_made : Fn P w K mg base "_law_made" (n + 6) 1 false (gMade K n)) (x : Exf K) (M : OwnM P w K mg base (fun C => C ∈ cl10 K) "__eq__" (3 * n + 4) 2 (gEqC K n)) : Fn P w K mg base "_law_is_kept" (3 * n + 9) 2 false (gKept K (n + 1)) := by
  obtain ⟨fd, F⟩ := c.defs (d := dfn ("_law_is_kept", none) "_law_is_kept" "_law_is_kept" s_law_is_kept) (by unfold fn; simp)
  replace F : FunD K "_law_is_kept" "_law_is_kept" (defArgs s_law_is_kept) (defBody s_law_is_kept) (defScope s_law_is_kept) [] [] (He.ga K "_law_is_kept") fd := F
  refine ⟨_, fd, ["_law_step", "_law_told"], ?_, G.g "_law_is_kept" (by decide), F.kp, F.bindsN fun _ _ _ _ _ _ us hl => match us, hl with | [_, _], _ => rfl⟩
  have nd : (["_law_step", "_law_told", "_law_word", "_law_inner", "_law_one"] : List Str).Nodup := sc_law_is_kept.nd
  obtain ⟨_, h_LETTERS⟩ := G.hL
  obtain ⟨_, h_LAD⟩ := G.hA
  obtain ⟨_, h_LN⟩ := G.hN
  obtain ⟨_, h_LT⟩ := G.hT
  have cf := c
  apply fn_okE (k := 3 * n + 8) (N := ["_law_step", "_law_told", "_law_word", "_law_inner", "_law_one"]) F sc_law_is_kept rfl (by decide)
  intro c cdv A outer s H E hr
  have hu := hr.units
  have tk := takes_of (X := cxOf (L2.CX P w) P w K mg base ["_law_step", "_law_told", "_law_word", "_law_inner", "_law_one"] "_law_is_kept" (defScope s_law_is_kept) (He.ga K "_law_is_kept") cdv A outer s H E) rfl rfl rfl rfl
  apply Exists.intro
  apply Exists.intro
  apply And.intro
  · exact (dss_cons (ds_set 2 nd rfl (by first | exact .inl rfl | exact .inr rfl) (de_ix (de_var 1) de_int (fun _ _ => rfl)))
    (dss_cons (ds_if (dt_cmp op_eq rd_eqS (de_var 2) de_str (nomark _)) (dss_one (ds_ret (de_cmp (op_eqD hu) rd_eq (de_fld (de_var 0)) (de_callTy call_tuple_of cd_tuple rfl (G.n "tuple" (by decide)) (by decide +kernel) (da_cons (de_ix (de_var 1) de_int (fun _ _ => rfl)) da_nil)) (nomark _)))) dss_nil)
    (dss_cons (ds_if (dt_cmp op_inA rd_in (de_var 2) (de_tup (da_cons de_str (da_cons de_str da_nil))) (by rfl)) (dss_cons (ds_set 3 nd rfl (by first | exact .inl rfl | exact .inr rfl) (de_callTy call_tuple_of cd_tuple rfl (G.n "tuple" (by decide)) (by decide +kernel) (da_cons (de_lcF (own := [("_law_one", 4)]) rfl nd (dic_of (di_seq (de_ix (de_var 1) (de_neg de_int) (fun _ _ => rfl)))) (blkOk_by (show blkC ["_law_step", "_law_told", "_law_word", "_law_inner", "_law_one"] (defScope s_law_is_kept) _ _ = true from by decide +kernel)) (by decide) (fun s H C cl fp => (dg_name 4 nd rfl (by first | exact .inl rfl | exact .inr rfl))) (fun s H C cl fp => dts_nil) (fun s H C cl fp => (de_f H_law_made (hr.mono (by omega)) rfl DL.takes0 (da_cons (de_var 4) da_nil)))) da_nil)))
    (dss_one (ds_ret (de_and (de_cmp (op_eqT M (hr.mono (by omega))) rd_eqT (de_fld (de_var 0)) (de_var 3) (nomark _)) (de_one (de_or (de_cmp op_eq rd_eqS (de_var 2) de_str (nomark _)) (de_one (de_cmp (op_eqD hu) rd_eq (de_fld (de_var 0)) (de_callTy call_tuple_of cd_tuple rfl (G.n "tuple" (by decide)) (by decide +kernel) (da_cons (de_ix (de_var 1) de_int (fun _ _ => rfl)) da_nil)) (nomark _))))))))) dss_nil)
    (dss_cons (ds_if (dt_cmp op_eq rd_eqS (de_var 2) de_str (nomark _)) (dss_one (ds_ret (de_cmp (op_eqD hu) rd_eq (de_tup (da_cons (de_fld (de_var 0)) (da_cons (de_fld (de_var 0)) (da_cons (de_fld (de_var 0)) da_nil)))) (de_tup (da_cons (de_callTy call_tuple_of cd_tuple rfl (G.n "tuple" (by decide)) (by decide +kernel) (da_cons (de_ix (de_var 1) de_int (fun _ _ => rfl)) da_nil)) (da_cons (de_ix (de_var 1) de_int (fun _ _ => rfl)) (da_cons (de_ix (de_var 1) de_int (fun _ _ => rfl)) da_nil)))) (nomark _)))) dss_nil)
    (dss_cons (ds_if (dt_cmp op_eq rd_eqS (de_var 2) de_str (nomark _)) (dss_one (ds_ret (de_cmp (op_eqD hu) rd_eq (de_tup (da_cons (de_fld (de_var 0)) (da_cons (de_fld (de_var 0)) (da_cons (de_fld (de_var 0)) (da_cons (de_fld (de_var 0)) da_nil))))) (de_tup (da_cons (de_callTy call_tuple_of cd_tuple rfl (G.n "tuple" (by decide)) (by decide +kernel) (da_cons (de_ix (de_var 1) de_int (fun _ _ => rfl)) da_nil)) (da_cons (de_ix (de_var 1) de_int (fun _ _ => rfl)) (da_cons (de_ix (de_var 1) de_int (fun _ _ => rfl)) (da_cons (de_callTy call_tuple_of cd_tuple rfl (G.n "tuple" (by decide)) (by decide +kernel) (da_cons (de_ix (de_var 1) de_int (fun _ _ => rfl)) da_nil)) da_nil))))) (nomark _)))) dss_nil)
    (dss_cons (ds_if (dt_cmp op_eq rd_eqS (de_var 2) de_str (nomark _)) (dss_one (ds_ret (de_cmp (op_eqD hu) rd_eq (de_tup (da_cons (de_fld (de_var 0)) (da_cons (de_fld (de_var 0)) da_nil))) (de_sl (de_var 1) (do_some de_int) do_none) (nomark _)))) dss_nil)
    (dss_cons (ds_if (dt_cmp op_eq rd_eqS (de_var 2) de_str (nomark _)) (dss_one (ds_ret (de_cmp (op_eqD hu) rd_eq (de_tup (da_cons (de_fld (de_var 0)) (da_cons (de_fld (de_var 0)) da_nil))) (de_sl (de_var 1) (do_some de_int) do_none) (nomark _)))) dss_nil)
    (dss_one (ds_ret (de_and (de_cmp (op_eqD hu) rd_eq (de_fld (de_var 0)) (de_ix (de_var 1) de_int (fun _ _ => rfl)) (nomark _)) (de_one (de_or (de_cmp op_eq rd_eqS (de_var 2) de_str (nomark _)) (de_one (de_cmp (op_eqD hu) rd_eq (de_fld (de_var 0)) (de_ix (de_var 1) de_int (fun _ _ => rfl)) (nomark _)))))))))))))))
  · intro ds F1 X1 hn h
    obtain ⟨s, rfl, ho, f⟩ := h
    cases s with
    | pick cs =>
      rw [okS] at ho
      have kC := He.cls_ok (cf.facts (f := .cls "Pick") (List.mem_append_right _ (List.mem_append_right _ (by simp))))
      have n_columns := He.noat_ok (cf.facts (f := .noat "Pick" "columns") (List.mem_append_right _ (List.mem_append_right _ (by simp))))
      refine ms_at (e := [.dat (.obj (He.ga K "Pick") [("columns", .tup (cs.map .str))]), .dat (.tup [.str "pick", .lst (cs.map .str)]), .un, .un, .un]) (by rfl) ?_
      refine seq_go fun R hR => ?_
      dsimp only [msRet, msRetN, msSeq, msIf, msNext, msExpr, msSet, mtAnd, mtOr, mtNot, mTru, mB, mCB, mCall, maCons, maNil, mVar, mC, mOp, mChain, mIf, mAndV, mOrV, mNotV, mLst, mTup, mMS, gI0, gLen, gEq, gNe, gEqS, gNeS, gIn, gAll, gStrip, truD, start0, dn, mLc, miS, mgName, wipeD, mYes, lcD, List.map_cons, List.map_nil, List.replicate, List.cons_append, List.nil_append, List.getElem?_cons_zero, List.getElem?_cons_succ, List.getElem?_nil, List.append_nil, gLe, gLt, Bool.not_true, Bool.not_false, Bool.false_eq_true, reduceIte, mJoined, mJs, mFmt, maStar, gJoin, mFld, moSome, mSl, gIx, z5, mCallL, miZ, gEqL, gNeL, mIsiT, moNone, gSl, miR1, gAdd, List.set_cons_zero, List.set_cons_succ, decide_true, eq_self, mMake, gRep, gInt, msFor, gAbs, mRev, gGe, gMod, gPow, gI, msPub, mLend, msParOO, msAppPop, msAppO, gDraw, msPar, msPar3, msAsg, mgTup, mgCons, mgNil, DL.gSub, mNeg, gMin, gSl, miEnum, gTuple, gList, miS, mAndV, mOrV, moSome, moNone, mSl]
      refine ⟨_, rfl, hR _ ?_⟩
      clear hR
      refine seq_go fun R hR => ?_
      dsimp only [msRet, msRetN, msSeq, msIf, msNext, msExpr, msSet, mtAnd, mtOr, mtNot, mTru, mB, mCB, mCall, maCons, maNil, mVar, mC, mOp, mChain, mIf, mAndV, mOrV, mNotV, mLst, mTup, mMS, gI0, gLen, gEq, gNe, gEqS, gNeS, gIn, gAll, gStrip, truD, start0, dn, mLc, miS, mgName, wipeD, mYes, lcD, List.map_cons, List.map_nil, List.replicate, List.cons_append, List.nil_append, List.getElem?_cons_zero, List.getElem?_cons_succ, List.getElem?_nil, List.append_nil, gLe, gLt, Bool.not_true, Bool.not_false, Bool.false_eq_true, reduceIte, mJoined, mJs, mFmt, maStar, gJoin, mFld, moSome, mSl, gIx, z5, mCallL, miZ, gEqL, gNeL, mIsiT, moNone, gSl, miR1, gAdd, List.set_cons_zero, List.set_cons_succ, decide_true, eq_self, mMake, gRep, gInt, msFor, gAbs, mRev, gGe, gMod, gPow, gI, msPub, mLend, msParOO, msAppPop, msAppO, gDraw, msPar, msPar3, msAsg, mgTup, mgCons, mgNil, DL.gSub, mNeg, gMin, gSl, miEnum, gTuple, gList, miS, mAndV, mOrV, moSome, moNone, mSl]
      refine goIf (fun _ => ?_) (fun e => absurd rfl e)
      refine ⟨kC, n_columns, _, rfl, _, rfl, plain_strs ho, plain_strs ho, ?_⟩
      rw [eq_tup (eq_strs cs)]
      exact f
    | rename o n2 =>
      rw [okS] at ho
      have kC := He.cls_ok (cf.facts (f := .cls "Rename") (List.mem_append_right _ (List.mem_append_right _ (by simp))))
      have n_old := He.noat_ok (cf.facts (f := .noat "Rename" "old") (List.mem_append_right _ (List.mem_append_right _ (by simp))))
      have n_new := He.noat_ok (cf.facts (f := .noat "Rename" "new") (List.mem_append_right _ (List.mem_append_right _ (by simp))))
      refine ms_at (e := [.dat (.obj (He.ga K "Rename") [("old", .str o), ("new", .str n2)]), .dat (.tup [.str "rename", .str o, .str n2]), .un, .un, .un]) (by rfl) ?_
      refine seq_go fun R hR => ?_
      dsimp only [msRet, msRetN, msSeq, msIf, msNext, msExpr, msSet, mtAnd, mtOr, mtNot, mTru, mB, mCB, mCall, maCons, maNil, mVar, mC, mOp, mChain, mIf, mAndV, mOrV, mNotV, mLst, mTup, mMS, gI0, gLen, gEq, gNe, gEqS, gNeS, gIn, gAll, gStrip, truD, start0, dn, mLc, miS, mgName, wipeD, mYes, lcD, List.map_cons, List.map_nil, List.replicate, List.cons_append, List.nil_append, List.getElem?_cons_zero, List.getElem?_cons_succ, List.getElem?_nil, List.append_nil, gLe, gLt, Bool.not_true, Bool.not_false, Bool.false_eq_true, reduceIte, mJoined, mJs, mFmt, maStar, gJoin, mFld, moSome, mSl, gIx, z5, mCallL, miZ, gEqL, gNeL, mIsiT, moNone, gSl, miR1, gAdd, List.set_cons_zero, List.set_cons_succ, decide_true, eq_self, mMake, gRep, gInt, msFor, gAbs, mRev, gGe, gMod, gPow, gI, msPub, mLend, msParOO, msAppPop, msAppO, gDraw, msPar, msPar3, msAsg, mgTup, mgCons, mgNil, DL.gSub, mNeg, gMin, gSl, miEnum, gTuple, gList, miS, mAndV, mOrV, moSome, moNone, mSl]
      refine ⟨_, rfl, hR _ ?_⟩
      clear hR
      refine seq_go fun R hR => ?_
      dsimp only [msRet, msRetN, msSeq, msIf, msNext, msExpr, msSet, mtAnd, mtOr, mtNot, mTru, mB, mCB, mCall, maCons, maNil, mVar, mC, mOp, mChain, mIf, mAndV, mOrV, mNotV, mLst, mTup, mMS, gI0, gLen, gEq, gNe, gEqS, gNeS, gIn, gAll, gStrip, truD, start0, dn, mLc, miS, mgName, wipeD, mYes, lcD, List.map_cons, List.map_nil, List.replicate, List.cons_append, List.nil_append, List.getElem?_cons_zero, List.getElem?_cons_succ, List.getElem?_nil, List.append_nil, gLe, gLt, Bool.not_true, Bool.not_false, Bool.false_eq_true, reduceIte, mJoined, mJs, mFmt, maStar, gJoin, mFld, moSome, mSl, gIx, z5, mCallL, miZ, gEqL, gNeL, mIsiT, moNone, gSl, miR1, gAdd, List.set_cons_zero, List.set_cons_succ, decide_true, eq_self, mMake, gRep, gInt, msFor, gAbs, mRev, gGe, gMod, gPow, gI, msPub, mLend, msParOO, msAppPop, msAppO, gDraw, msPar, msPar3, msAsg, mgTup, mgCons, mgNil, DL.gSub, mNeg, gMin, gSl, miEnum, gTuple, gList, miS, mAndV, mOrV, moSome, moNone, mSl]
      refine goIf (fun e => absurd e (by decide +kernel)) (fun _ => hR _ ?_)
      clear hR
      refine seq_go fun R hR => ?_
      dsimp only [msRet, msRetN, msSeq, msIf, msNext, msExpr, msSet, mtAnd, mtOr, mtNot, mTru, mB, mCB, mCall, maCons, maNil, mVar, mC, mOp, mChain, mIf, mAndV, mOrV, mNotV, mLst, mTup, mMS, gI0, gLen, gEq, gNe, gEqS, gNeS, gIn, gAll, gStrip, truD, start0, dn, mLc, miS, mgName, wipeD, mYes, lcD, List.map_cons, List.map_nil, List.replicate, List.cons_append, List.nil_append, List.getElem?_cons_zero, List.getElem?_cons_succ, List.getElem?_nil, List.append_nil, gLe, gLt, Bool.not_true, Bool.not_false, Bool.false_eq_true, reduceIte, mJoined, mJs, mFmt, maStar, gJoin, mFld, moSome, mSl, gIx, z5, mCallL, miZ, gEqL, gNeL, mIsiT, moNone, gSl, miR1, gAdd, List.set_cons_zero, List.set_cons_succ, decide_true, eq_self, mMake, gRep, gInt, msFor, gAbs, mRev, gGe, gMod, gPow, gI, msPub, mLend, msParOO, msAppPop, msAppO, gDraw, msPar, msPar3, msAsg, mgTup, mgCons, mgNil, DL.gSub, mNeg, gMin, gSl, miEnum, gTuple, gList, miS, mAndV, mOrV, moSome, moNone, mSl]
      refine ⟨(show 2 ≤ sizeLine from by decide), rfl, rfl, ?_⟩
      rw [show inD (D.str "rename") [D.str "join", .str "stack"] = false from by decide +kernel]
      refine iteF (hR _ ?_)
      clear hR
      refine seq_go fun R hR => ?_
      dsimp only [msRet, msRetN, msSeq, msIf, msNext, msExpr, msSet, mtAnd, mtOr, mtNot, mTru, mB, mCB, mCall, maCons, maNil, mVar, mC, mOp, mChain, mIf, mAndV, mOrV, mNotV, mLst, mTup, mMS, gI0, gLen, gEq, gNe, gEqS, gNeS, gIn, gAll, gStrip, truD, start0, dn, mLc, miS, mgName, wipeD, mYes, lcD, List.map_cons, List.map_nil, List.replicate, List.cons_append, List.nil_append, List.getElem?_cons_zero, List.getElem?_cons_succ, List.getElem?_nil, List.append_nil, gLe, gLt, Bool.not_true, Bool.not_false, Bool.false_eq_true, reduceIte, mJoined, mJs, mFmt, maStar, gJoin, mFld, moSome, mSl, gIx, z5, mCallL, miZ, gEqL, gNeL, mIsiT, moNone, gSl, miR1, gAdd, List.set_cons_zero, List.set_cons_succ, decide_true, eq_self, mMake, gRep, gInt, msFor, gAbs, mRev, gGe, gMod, gPow, gI, msPub, mLend, msParOO, msAppPop, msAppO, gDraw, msPar, msPar3, msAsg, mgTup, mgCons, mgNil, DL.gSub, mNeg, gMin, gSl, miEnum, gTuple, gList, miS, mAndV, mOrV, moSome, moNone, mSl]
      refine goIf (fun e => absurd e (by decide +kernel)) (fun _ => hR _ ?_)
      clear hR
      refine seq_go fun R hR => ?_
      dsimp only [msRet, msRetN, msSeq, msIf, msNext, msExpr, msSet, mtAnd, mtOr, mtNot, mTru, mB, mCB, mCall, maCons, maNil, mVar, mC, mOp, mChain, mIf, mAndV, mOrV, mNotV, mLst, mTup, mMS, gI0, gLen, gEq, gNe, gEqS, gNeS, gIn, gAll, gStrip, truD, start0, dn, mLc, miS, mgName, wipeD, mYes, lcD, List.map_cons, List.map_nil, List.replicate, List.cons_append, List.nil_append, List.getElem?_cons_zero, List.getElem?_cons_succ, List.getElem?_nil, List.append_nil, gLe, gLt, Bool.not_true, Bool.not_false, Bool.false_eq_true, reduceIte, mJoined, mJs, mFmt, maStar, gJoin, mFld, moSome, mSl, gIx, z5, mCallL, miZ, gEqL, gNeL, mIsiT, moNone, gSl, miR1, gAdd, List.set_cons_zero, List.set_cons_succ, decide_true, eq_self, mMake, gRep, gInt, msFor, gAbs, mRev, gGe, gMod, gPow, gI, msPub, mLend, msParOO, msAppPop, msAppO, gDraw, msPar, msPar3, msAsg, mgTup, mgCons, mgNil, DL.gSub, mNeg, gMin, gSl, miEnum, gTuple, gList, miS, mAndV, mOrV, moSome, moNone, mSl]
      refine goIf (fun e => absurd e (by decide +kernel)) (fun _ => hR _ ?_)
      clear hR
      refine seq_go fun R hR => ?_
      dsimp only [msRet, msRetN, msSeq, msIf, msNext, msExpr, msSet, mtAnd, mtOr, mtNot, mTru, mB, mCB, mCall, maCons, maNil, mVar, mC, mOp, mChain, mIf, mAndV, mOrV, mNotV, mLst, mTup, mMS, gI0, gLen, gEq, gNe, gEqS, gNeS, gIn, gAll, gStrip, truD, start0, dn, mLc, miS, mgName, wipeD, mYes, lcD, List.map_cons, List.map_nil, List.replicate, List.cons_append, List.nil_append, List.getElem?_cons_zero, List.getElem?_cons_succ, List.getElem?_nil, List.append_nil, gLe, gLt, Bool.not_true, Bool.not_false, Bool.false_eq_true, reduceIte, mJoined, mJs, mFmt, maStar, gJoin, mFld, moSome, mSl, gIx, z5, mCallL, miZ, gEqL, gNeL, mIsiT, moNone, gSl, miR1, gAdd, List.set_cons_zero, List.set_cons_succ, decide_true, eq_self, mMake, gRep, gInt, msFor, gAbs, mRev, gGe, gMod, gPow, gI, msPub, mLend, msParOO, msAppPop, msAppO, gDraw, msPar, msPar3, msAsg, mgTup, mgCons, mgNil, DL.gSub, mNeg, gMin, gSl, miEnum, gTuple, gList, miS, mAndV, mOrV, moSome, moNone, mSl]
      refine goIf (fun _ => ?_) (fun e => absurd rfl e)
      refine ⟨kC, n_old, _, rfl, kC, n_new, _, rfl, (show 2 ≤ sizeLine from by decide), .inl ⟨(show ¬ (HT.sIx 3 0 (some 1) = 0 ∧ HT.sIx 3 3 none = 3) from by decide), ?_⟩⟩
      have hp : DL.plain 20 (.tup [.str o, .str n2]) = true := plain_cons (plain_s ho.1.2.2) (plain_cons (plain_s ho.2.2.2) rfl)
      refine ⟨hp, hp, ?_⟩
      show F1 (.bl (eqD (.tup [.str o, .str n2]) (.tup [.str o, .str n2])))
      rw [eq_tup (eq_cons (eq_str o) (eq_cons (eq_str n2) rfl))]
      exact f
    | has a =>
      rw [okS] at ho
      have kC := He.cls_ok (cf.facts (f := .cls "Has") (List.mem_append_right _ (List.mem_append_right _ (by simp))))
      have n_column := He.noat_ok (cf.facts (f := .noat "Has" "column") (List.mem_append_right _ (List.mem_append_right _ (by simp))))
      refine ms_at (e := [.dat (.obj (He.ga K "Has") [("column", .str a)]), .dat (.tup [.str "has", .str a]), .un, .un, .un]) (by rfl) ?_
      refine seq_go fun R hR => ?_
      dsimp only [msRet, msRetN, msSeq, msIf, msNext, msExpr, msSet, mtAnd, mtOr, mtNot, mTru, mB, mCB, mCall, maCons, maNil, mVar, mC, mOp, mChain, mIf, mAndV, mOrV, mNotV, mLst, mTup, mMS, gI0, gLen, gEq, gNe, gEqS, gNeS, gIn, gAll, gStrip, truD, start0, dn, mLc, miS, mgName, wipeD, mYes, lcD, List.map_cons, List.map_nil, List.replicate, List.cons_append, List.nil_append, List.getElem?_cons_zero, List.getElem?_cons_succ, List.getElem?_nil, List.append_nil, gLe, gLt, Bool.not_true, Bool.not_false, Bool.false_eq_true, reduceIte, mJoined, mJs, mFmt, maStar, gJoin, mFld, moSome, mSl, gIx, z5, mCallL, miZ, gEqL, gNeL, mIsiT, moNone, gSl, miR1, gAdd, List.set_cons_zero, List.set_cons_succ, decide_true, eq_self, mMake, gRep, gInt, msFor, gAbs, mRev, gGe, gMod, gPow, gI, msPub, mLend, msParOO, msAppPop, msAppO, gDraw, msPar, msPar3, msAsg, mgTup, mgCons, mgNil, DL.gSub, mNeg, gMin, gSl, miEnum, gTuple, gList, miS, mAndV, mOrV, moSome, moNone, mSl]
      refine ⟨_, rfl, hR _ ?_⟩
      clear hR
      refine seq_go fun R hR => ?_
      dsimp only [msRet, msRetN, msSeq, msIf, msNext, msExpr, msSet, mtAnd, mtOr, mtNot, mTru, mB, mCB, mCall, maCons, maNil, mVar, mC, mOp, mChain, mIf, mAndV, mOrV, mNotV, mLst, mTup, mMS, gI0, gLen, gEq, gNe, gEqS, gNeS, gIn, gAll, gStrip, truD, start0, dn, mLc, miS, mgName, wipeD, mYes, lcD, List.map_cons, List.map_nil, List.replicate, List.cons_append, List.nil_append, List.getElem?_cons_zero, List.getElem?_cons_succ, List.getElem?_nil, List.append_nil, gLe, gLt, Bool.not_true, Bool.not_false, Bool.false_eq_true, reduceIte, mJoined, mJs, mFmt, maStar, gJoin, mFld, moSome, mSl, gIx, z5, mCallL, miZ, gEqL, gNeL, mIsiT, moNone, gSl, miR1, gAdd, List.set_cons_zero, List.set_cons_succ, decide_true, eq_self, mMake, gRep, gInt, msFor, gAbs, mRev, gGe, gMod, gPow, gI, msPub, mLend, msParOO, msAppPop, msAppO, gDraw, msPar, msPar3, msAsg, mgTup, mgCons, mgNil, DL.gSub, mNeg, gMin, gSl, miEnum, gTuple, gList, miS, mAndV, mOrV, moSome, moNone, mSl]
      refine goIf (fun e => absurd e (by decide +kernel)) (fun _ => hR _ ?_)
      clear hR
      refine seq_go fun R hR => ?_
      dsimp only [msRet, msRetN, msSeq, msIf, msNext, msExpr, msSet, mtAnd, mtOr, mtNot, mTru, mB, mCB, mCall, maCons, maNil, mVar, mC, mOp, mChain, mIf, mAndV, mOrV, mNotV, mLst, mTup, mMS, gI0, gLen, gEq, gNe, gEqS, gNeS, gIn, gAll, gStrip, truD, start0, dn, mLc, miS, mgName, wipeD, mYes, lcD, List.map_cons, List.map_nil, List.replicate, List.cons_append, List.nil_append, List.getElem?_cons_zero, List.getElem?_cons_succ, List.getElem?_nil, List.append_nil, gLe, gLt, Bool.not_true, Bool.not_false, Bool.false_eq_true, reduceIte, mJoined, mJs, mFmt, maStar, gJoin, mFld, moSome, mSl, gIx, z5, mCallL, miZ, gEqL, gNeL, mIsiT, moNone, gSl, miR1, gAdd, List.set_cons_zero, List.set_cons_succ, decide_true, eq_self, mMake, gRep, gInt, msFor, gAbs, mRev, gGe, gMod, gPow, gI, msPub, mLend, msParOO, msAppPop, msAppO, gDraw, msPar, msPar3, msAsg, mgTup, mgCons, mgNil, DL.gSub, mNeg, gMin, gSl, miEnum, gTuple, gList, miS, mAndV, mOrV, moSome, moNone, mSl]
      refine ⟨(show 2 ≤ sizeLine from by decide), rfl, rfl, ?_⟩
      rw [show inD (D.str "has") [D.str "join", .str "stack"] = false from by decide +kernel]
      refine iteF (hR _ ?_)
      clear hR
      refine seq_go fun R hR => ?_
      dsimp only [msRet, msRetN, msSeq, msIf, msNext, msExpr, msSet, mtAnd, mtOr, mtNot, mTru, mB, mCB, mCall, maCons, maNil, mVar, mC, mOp, mChain, mIf, mAndV, mOrV, mNotV, mLst, mTup, mMS, gI0, gLen, gEq, gNe, gEqS, gNeS, gIn, gAll, gStrip, truD, start0, dn, mLc, miS, mgName, wipeD, mYes, lcD, List.map_cons, List.map_nil, List.replicate, List.cons_append, List.nil_append, List.getElem?_cons_zero, List.getElem?_cons_succ, List.getElem?_nil, List.append_nil, gLe, gLt, Bool.not_true, Bool.not_false, Bool.false_eq_true, reduceIte, mJoined, mJs, mFmt, maStar, gJoin, mFld, moSome, mSl, gIx, z5, mCallL, miZ, gEqL, gNeL, mIsiT, moNone, gSl, miR1, gAdd, List.set_cons_zero, List.set_cons_succ, decide_true, eq_self, mMake, gRep, gInt, msFor, gAbs, mRev, gGe, gMod, gPow, gI, msPub, mLend, msParOO, msAppPop, msAppO, gDraw, msPar, msPar3, msAsg, mgTup, mgCons, mgNil, DL.gSub, mNeg, gMin, gSl, miEnum, gTuple, gList, miS, mAndV, mOrV, moSome, moNone, mSl]
      refine goIf (fun e => absurd e (by decide +kernel)) (fun _ => hR _ ?_)
      clear hR
      refine seq_go fun R hR => ?_
      dsimp only [msRet, msRetN, msSeq, msIf, msNext, msExpr, msSet, mtAnd, mtOr, mtNot, mTru, mB, mCB, mCall, maCons, maNil, mVar, mC, mOp, mChain, mIf, mAndV, mOrV, mNotV, mLst, mTup, mMS, gI0, gLen, gEq, gNe, gEqS, gNeS, gIn, gAll, gStrip, truD, start0, dn, mLc, miS, mgName, wipeD, mYes, lcD, List.map_cons, List.map_nil, List.replicate, List.cons_append, List.nil_append, List.getElem?_cons_zero, List.getElem?_cons_succ, List.getElem?_nil, List.append_nil, gLe, gLt, Bool.not_true, Bool.not_false, Bool.false_eq_true, reduceIte, mJoined, mJs, mFmt, maStar, gJoin, mFld, moSome, mSl, gIx, z5, mCallL, miZ, gEqL, gNeL, mIsiT, moNone, gSl, miR1, gAdd, List.set_cons_zero, List.set_cons_succ, decide_true, eq_self, mMake, gRep, gInt, msFor, gAbs, mRev, gGe, gMod, gPow, gI, msPub, mLend, msParOO, msAppPop, msAppO, gDraw, msPar, msPar3, msAsg, mgTup, mgCons, mgNil, DL.gSub, mNeg, gMin, gSl, miEnum, gTuple, gList, miS, mAndV, mOrV, moSome, moNone, mSl]
      refine goIf (fun e => absurd e (by decide +kernel)) (fun _ => hR _ ?_)
      clear hR
      refine seq_go fun R hR => ?_
      dsimp only [msRet, msRetN, msSeq, msIf, msNext, msExpr, msSet, mtAnd, mtOr, mtNot, mTru, mB, mCB, mCall, maCons, maNil, mVar, mC, mOp, mChain, mIf, mAndV, mOrV, mNotV, mLst, mTup, mMS, gI0, gLen, gEq, gNe, gEqS, gNeS, gIn, gAll, gStrip, truD, start0, dn, mLc, miS, mgName, wipeD, mYes, lcD, List.map_cons, List.map_nil, List.replicate, List.cons_append, List.nil_append, List.getElem?_cons_zero, List.getElem?_cons_succ, List.getElem?_nil, List.append_nil, gLe, gLt, Bool.not_true, Bool.not_false, Bool.false_eq_true, reduceIte, mJoined, mJs, mFmt, maStar, gJoin, mFld, moSome, mSl, gIx, z5, mCallL, miZ, gEqL, gNeL, mIsiT, moNone, gSl, miR1, gAdd, List.set_cons_zero, List.set_cons_succ, decide_true, eq_self, mMake, gRep, gInt, msFor, gAbs, mRev, gGe, gMod, gPow, gI, msPub, mLend, msParOO, msAppPop, msAppO, gDraw, msPar, msPar3, msAsg, mgTup, mgCons, mgNil, DL.gSub, mNeg, gMin, gSl, miEnum, gTuple, gList, miS, mAndV, mOrV, moSome, moNone, mSl]
      refine goIf (fun e => absurd e (by decide +kernel)) (fun _ => hR _ ?_)
      clear hR
      refine seq_go fun R hR => ?_
      dsimp only [msRet, msRetN, msSeq, msIf, msNext, msExpr, msSet, mtAnd, mtOr, mtNot, mTru, mB, mCB, mCall, maCons, maNil, mVar, mC, mOp, mChain, mIf, mAndV, mOrV, mNotV, mLst, mTup, mMS, gI0, gLen, gEq, gNe, gEqS, gNeS, gIn, gAll, gStrip, truD, start0, dn, mLc, miS, mgName, wipeD, mYes, lcD, List.map_cons, List.map_nil, List.replicate, List.cons_append, List.nil_append, List.getElem?_cons_zero, List.getElem?_cons_succ, List.getElem?_nil, List.append_nil, gLe, gLt, Bool.not_true, Bool.not_false, Bool.false_eq_true, reduceIte, mJoined, mJs, mFmt, maStar, gJoin, mFld, moSome, mSl, gIx, z5, mCallL, miZ, gEqL, gNeL, mIsiT, moNone, gSl, miR1, gAdd, List.set_cons_zero, List.set_cons_succ, decide_true, eq_self, mMake, gRep, gInt, msFor, gAbs, mRev, gGe, gMod, gPow, gI, msPub, mLend, msParOO, msAppPop, msAppO, gDraw, msPar, msPar3, msAsg, mgTup, mgCons, mgNil, DL.gSub, mNeg, gMin, gSl, miEnum, gTuple, gList, miS, mAndV, mOrV, moSome, moNone, mSl]
      refine goIf (fun e => absurd e (by decide +kernel)) (fun _ => hR _ ?_)
      clear hR
      dsimp only [msRet, msRetN, msSeq, msIf, msNext, msExpr, msSet, mtAnd, mtOr, mtNot, mTru, mB, mCB, mCall, maCons, maNil, mVar, mC, mOp, mChain, mIf, mAndV, mOrV, mNotV, mLst, mTup, mMS, gI0, gLen, gEq, gNe, gEqS, gNeS, gIn, gAll, gStrip, truD, start0, dn, mLc, miS, mgName, wipeD, mYes, lcD, List.map_cons, List.map_nil, List.replicate, List.cons_append, List.nil_append, List.getElem?_cons_zero, List.getElem?_cons_succ, List.getElem?_nil, List.append_nil, gLe, gLt, Bool.not_true, Bool.not_false, Bool.false_eq_true, reduceIte, mJoined, mJs, mFmt, maStar, gJoin, mFld, moSome, mSl, gIx, z5, mCallL, miZ, gEqL, gNeL, mIsiT, moNone, gSl, miR1, gAdd, List.set_cons_zero, List.set_cons_succ, decide_true, eq_self, mMake, gRep, gInt, msFor, gAbs, mRev, gGe, gMod, gPow, gI, msPub, mLend, msParOO, msAppPop, msAppO, gDraw, msPar, msPar3, msAsg, mgTup, mgCons, mgNil, DL.gSub, mNeg, gMin, gSl, miEnum, gTuple, gList, miS, mAndV, mOrV, moSome, moNone, mSl]
      refine ⟨kC, n_column, _, rfl, _, rfl, plain_s ho.2.2, plain_s ho.2.2, ?_⟩
      rw [eq_str a]
      dsimp only [msRet, msRetN, msSeq, msIf, msNext, msExpr, msSet, mtAnd, mtOr, mtNot, mTru, mB, mCB, mCall, maCons, maNil, mVar, mC, mOp, mChain, mIf, mAndV, mOrV, mNotV, mLst, mTup, mMS, gI0, gLen, gEq, gNe, gEqS, gNeS, gIn, gAll, gStrip, truD, start0, dn, mLc, miS, mgName, wipeD, mYes, lcD, List.map_cons, List.map_nil, List.replicate, List.cons_append, List.nil_append, List.getElem?_cons_zero, List.getElem?_cons_succ, List.getElem?_nil, List.append_nil, gLe, gLt, Bool.not_true, Bool.not_false, Bool.false_eq_true, reduceIte, mJoined, mJs, mFmt, maStar, gJoin, mFld, moSome, mSl, gIx, z5, mCallL, miZ, gEqL, gNeL, mIsiT, moNone, gSl, miR1, gAdd, List.set_cons_zero, List.set_cons_succ, decide_true, eq_self, mMake, gRep, gInt, msFor, gAbs, mRev, gGe, gMod, gPow, gI, msPub, mLend, msParOO, msAppPop, msAppO, gDraw, msPar, msPar3, msAsg, mgTup, mgCons, mgNil, DL.gSub, mNeg, gMin, gSl, miEnum, gTuple, gList, miS, mAndV, mOrV, moSome, moNone, mSl]
      rw [show decide (("has" : Str) = "has") = true from by decide +kernel]
      exact f
    | is_ a t =>
      rw [okS] at ho
      have kC := He.cls_ok (cf.facts (f := .cls "Is") (List.mem_append_right _ (List.mem_append_right _ (by simp))))
      have n_column := He.noat_ok (cf.facts (f := .noat "Is" "column") (List.mem_append_right _ (List.mem_append_right _ (by simp))))
      have n_text := He.noat_ok (cf.facts (f := .noat "Is" "text") (List.mem_append_right _ (List.mem_append_right _ (by simp))))
      refine ms_at (e := [.dat (.obj (He.ga K "Is") [("column", .str a), ("text", .str t)]), .dat (.tup [.str "is", .str a, .str t]), .un, .un, .un]) (by rfl) ?_
      refine seq_go fun R hR => ?_
      dsimp only [msRet, msRetN, msSeq, msIf, msNext, msExpr, msSet, mtAnd, mtOr, mtNot, mTru, mB, mCB, mCall, maCons, maNil, mVar, mC, mOp, mChain, mIf, mAndV, mOrV, mNotV, mLst, mTup, mMS, gI0, gLen, gEq, gNe, gEqS, gNeS, gIn, gAll, gStrip, truD, start0, dn, mLc, miS, mgName, wipeD, mYes, lcD, List.map_cons, List.map_nil, List.replicate, List.cons_append, List.nil_append, List.getElem?_cons_zero, List.getElem?_cons_succ, List.getElem?_nil, List.append_nil, gLe, gLt, Bool.not_true, Bool.not_false, Bool.false_eq_true, reduceIte, mJoined, mJs, mFmt, maStar, gJoin, mFld, moSome, mSl, gIx, z5, mCallL, miZ, gEqL, gNeL, mIsiT, moNone, gSl, miR1, gAdd, List.set_cons_zero, List.set_cons_succ, decide_true, eq_self, mMake, gRep, gInt, msFor, gAbs, mRev, gGe, gMod, gPow, gI, msPub, mLend, msParOO, msAppPop, msAppO, gDraw, msPar, msPar3, msAsg, mgTup, mgCons, mgNil, DL.gSub, mNeg, gMin, gSl, miEnum, gTuple, gList, miS, mAndV, mOrV, moSome, moNone, mSl]
      refine ⟨_, rfl, hR _ ?_⟩
      clear hR
      refine seq_go fun R hR => ?_
      dsimp only [msRet, msRetN, msSeq, msIf, msNext, msExpr, msSet, mtAnd, mtOr, mtNot, mTru, mB, mCB, mCall, maCons, maNil, mVar, mC, mOp, mChain, mIf, mAndV, mOrV, mNotV, mLst, mTup, mMS, gI0, gLen, gEq, gNe, gEqS, gNeS, gIn, gAll, gStrip, truD, start0, dn, mLc, miS, mgName, wipeD, mYes, lcD, List.map_cons, List.map_nil, List.replicate, List.cons_append, List.nil_append, List.getElem?_cons_zero, List.getElem?_cons_succ, List.getElem?_nil, List.append_nil, gLe, gLt, Bool.not_true, Bool.not_false, Bool.false_eq_true, reduceIte, mJoined, mJs, mFmt, maStar, gJoin, mFld, moSome, mSl, gIx, z5, mCallL, miZ, gEqL, gNeL, mIsiT, moNone, gSl, miR1, gAdd, List.set_cons_zero, List.set_cons_succ, decide_true, eq_self, mMake, gRep, gInt, msFor, gAbs, mRev, gGe, gMod, gPow, gI, msPub, mLend, msParOO, msAppPop, msAppO, gDraw, msPar, msPar3, msAsg, mgTup, mgCons, mgNil, DL.gSub, mNeg, gMin, gSl, miEnum, gTuple, gList, miS, mAndV, mOrV, moSome, moNone, mSl]
      refine goIf (fun e => absurd e (by decide +kernel)) (fun _ => hR _ ?_)
      clear hR
      refine seq_go fun R hR => ?_
      dsimp only [msRet, msRetN, msSeq, msIf, msNext, msExpr, msSet, mtAnd, mtOr, mtNot, mTru, mB, mCB, mCall, maCons, maNil, mVar, mC, mOp, mChain, mIf, mAndV, mOrV, mNotV, mLst, mTup, mMS, gI0, gLen, gEq, gNe, gEqS, gNeS, gIn, gAll, gStrip, truD, start0, dn, mLc, miS, mgName, wipeD, mYes, lcD, List.map_cons, List.map_nil, List.replicate, List.cons_append, List.nil_append, List.getElem?_cons_zero, List.getElem?_cons_succ, List.getElem?_nil, List.append_nil, gLe, gLt, Bool.not_true, Bool.not_false, Bool.false_eq_true, reduceIte, mJoined, mJs, mFmt, maStar, gJoin, mFld, moSome, mSl, gIx, z5, mCallL, miZ, gEqL, gNeL, mIsiT, moNone, gSl, miR1, gAdd, List.set_cons_zero, List.set_cons_succ, decide_true, eq_self, mMake, gRep, gInt, msFor, gAbs, mRev, gGe, gMod, gPow, gI, msPub, mLend, msParOO, msAppPop, msAppO, gDraw, msPar, msPar3, msAsg, mgTup, mgCons, mgNil, DL.gSub, mNeg, gMin, gSl, miEnum, gTuple, gList, miS, mAndV, mOrV, moSome, moNone, mSl]
      refine ⟨(show 2 ≤ sizeLine from by decide), rfl, rfl, ?_⟩
      rw [show inD (D.str "is") [D.str "join", .str "stack"] = false from by decide +kernel]
      refine iteF (hR _ ?_)
      clear hR
      refine seq_go fun R hR => ?_
      dsimp only [msRet, msRetN, msSeq, msIf, msNext, msExpr, msSet, mtAnd, mtOr, mtNot, mTru, mB, mCB, mCall, maCons, maNil, mVar, mC, mOp, mChain, mIf, mAndV, mOrV, mNotV, mLst, mTup, mMS, gI0, gLen, gEq, gNe, gEqS, gNeS, gIn, gAll, gStrip, truD, start0, dn, mLc, miS, mgName, wipeD, mYes, lcD, List.map_cons, List.map_nil, List.replicate, List.cons_append, List.nil_append, List.getElem?_cons_zero, List.getElem?_cons_succ, List.getElem?_nil, List.append_nil, gLe, gLt, Bool.not_true, Bool.not_false, Bool.false_eq_true, reduceIte, mJoined, mJs, mFmt, maStar, gJoin, mFld, moSome, mSl, gIx, z5, mCallL, miZ, gEqL, gNeL, mIsiT, moNone, gSl, miR1, gAdd, List.set_cons_zero, List.set_cons_succ, decide_true, eq_self, mMake, gRep, gInt, msFor, gAbs, mRev, gGe, gMod, gPow, gI, msPub, mLend, msParOO, msAppPop, msAppO, gDraw, msPar, msPar3, msAsg, mgTup, mgCons, mgNil, DL.gSub, mNeg, gMin, gSl, miEnum, gTuple, gList, miS, mAndV, mOrV, moSome, moNone, mSl]
      refine goIf (fun e => absurd e (by decide +kernel)) (fun _ => hR _ ?_)
      clear hR
      refine seq_go fun R hR => ?_
      dsimp only [msRet, msRetN, msSeq, msIf, msNext, msExpr, msSet, mtAnd, mtOr, mtNot, mTru, mB, mCB, mCall, maCons, maNil, mVar, mC, mOp, mChain, mIf, mAndV, mOrV, mNotV, mLst, mTup, mMS, gI0, gLen, gEq, gNe, gEqS, gNeS, gIn, gAll, gStrip, truD, start0, dn, mLc, miS, mgName, wipeD, mYes, lcD, List.map_cons, List.map_nil, List.replicate, List.cons_append, List.nil_append, List.getElem?_cons_zero, List.getElem?_cons_succ, List.getElem?_nil, List.append_nil, gLe, gLt, Bool.not_true, Bool.not_false, Bool.false_eq_true, reduceIte, mJoined, mJs, mFmt, maStar, gJoin, mFld, moSome, mSl, gIx, z5, mCallL, miZ, gEqL, gNeL, mIsiT, moNone, gSl, miR1, gAdd, List.set_cons_zero, List.set_cons_succ, decide_true, eq_self, mMake, gRep, gInt, msFor, gAbs, mRev, gGe, gMod, gPow, gI, msPub, mLend, msParOO, msAppPop, msAppO, gDraw, msPar, msPar3, msAsg, mgTup, mgCons, mgNil, DL.gSub, mNeg, gMin, gSl, miEnum, gTuple, gList, miS, mAndV, mOrV, moSome, moNone, mSl]
      refine goIf (fun e => absurd e (by decide +kernel)) (fun _ => hR _ ?_)
      clear hR
      refine seq_go fun R hR => ?_
      dsimp only [msRet, msRetN, msSeq, msIf, msNext, msExpr, msSet, mtAnd, mtOr, mtNot, mTru, mB, mCB, mCall, maCons, maNil, mVar, mC, mOp, mChain, mIf, mAndV, mOrV, mNotV, mLst, mTup, mMS, gI0, gLen, gEq, gNe, gEqS, gNeS, gIn, gAll, gStrip, truD, start0, dn, mLc, miS, mgName, wipeD, mYes, lcD, List.map_cons, List.map_nil, List.replicate, List.cons_append, List.nil_append, List.getElem?_cons_zero, List.getElem?_cons_succ, List.getElem?_nil, List.append_nil, gLe, gLt, Bool.not_true, Bool.not_false, Bool.false_eq_true, reduceIte, mJoined, mJs, mFmt, maStar, gJoin, mFld, moSome, mSl, gIx, z5, mCallL, miZ, gEqL, gNeL, mIsiT, moNone, gSl, miR1, gAdd, List.set_cons_zero, List.set_cons_succ, decide_true, eq_self, mMake, gRep, gInt, msFor, gAbs, mRev, gGe, gMod, gPow, gI, msPub, mLend, msParOO, msAppPop, msAppO, gDraw, msPar, msPar3, msAsg, mgTup, mgCons, mgNil, DL.gSub, mNeg, gMin, gSl, miEnum, gTuple, gList, miS, mAndV, mOrV, moSome, moNone, mSl]
      refine goIf (fun e => absurd e (by decide +kernel)) (fun _ => hR _ ?_)
      clear hR
      refine seq_go fun R hR => ?_
      dsimp only [msRet, msRetN, msSeq, msIf, msNext, msExpr, msSet, mtAnd, mtOr, mtNot, mTru, mB, mCB, mCall, maCons, maNil, mVar, mC, mOp, mChain, mIf, mAndV, mOrV, mNotV, mLst, mTup, mMS, gI0, gLen, gEq, gNe, gEqS, gNeS, gIn, gAll, gStrip, truD, start0, dn, mLc, miS, mgName, wipeD, mYes, lcD, List.map_cons, List.map_nil, List.replicate, List.cons_append, List.nil_append, List.getElem?_cons_zero, List.getElem?_cons_succ, List.getElem?_nil, List.append_nil, gLe, gLt, Bool.not_true, Bool.not_false, Bool.false_eq_true, reduceIte, mJoined, mJs, mFmt, maStar, gJoin, mFld, moSome, mSl, gIx, z5, mCallL, miZ, gEqL, gNeL, mIsiT, moNone, gSl, miR1, gAdd, List.set_cons_zero, List.set_cons_succ, decide_true, eq_self, mMake, gRep, gInt, msFor, gAbs, mRev, gGe, gMod, gPow, gI, msPub, mLend, msParOO, msAppPop, msAppO, gDraw, msPar, msPar3, msAsg, mgTup, mgCons, mgNil, DL.gSub, mNeg, gMin, gSl, miEnum, gTuple, gList, miS, mAndV, mOrV, moSome, moNone, mSl]
      refine goIf (fun e => absurd e (by decide +kernel)) (fun _ => hR _ ?_)
      clear hR
      dsimp only [msRet, msRetN, msSeq, msIf, msNext, msExpr, msSet, mtAnd, mtOr, mtNot, mTru, mB, mCB, mCall, maCons, maNil, mVar, mC, mOp, mChain, mIf, mAndV, mOrV, mNotV, mLst, mTup, mMS, gI0, gLen, gEq, gNe, gEqS, gNeS, gIn, gAll, gStrip, truD, start0, dn, mLc, miS, mgName, wipeD, mYes, lcD, List.map_cons, List.map_nil, List.replicate, List.cons_append, List.nil_append, List.getElem?_cons_zero, List.getElem?_cons_succ, List.getElem?_nil, List.append_nil, gLe, gLt, Bool.not_true, Bool.not_false, Bool.false_eq_true, reduceIte, mJoined, mJs, mFmt, maStar, gJoin, mFld, moSome, mSl, gIx, z5, mCallL, miZ, gEqL, gNeL, mIsiT, moNone, gSl, miR1, gAdd, List.set_cons_zero, List.set_cons_succ, decide_true, eq_self, mMake, gRep, gInt, msFor, gAbs, mRev, gGe, gMod, gPow, gI, msPub, mLend, msParOO, msAppPop, msAppO, gDraw, msPar, msPar3, msAsg, mgTup, mgCons, mgNil, DL.gSub, mNeg, gMin, gSl, miEnum, gTuple, gList, miS, mAndV, mOrV, moSome, moNone, mSl]
      refine ⟨kC, n_column, _, rfl, _, rfl, plain_s ho.1.2.2, plain_s ho.1.2.2, ?_⟩
      rw [eq_str a]
      dsimp only [msRet, msRetN, msSeq, msIf, msNext, msExpr, msSet, mtAnd, mtOr, mtNot, mTru, mB, mCB, mCall, maCons, maNil, mVar, mC, mOp, mChain, mIf, mAndV, mOrV, mNotV, mLst, mTup, mMS, gI0, gLen, gEq, gNe, gEqS, gNeS, gIn, gAll, gStrip, truD, start0, dn, mLc, miS, mgName, wipeD, mYes, lcD, List.map_cons, List.map_nil, List.replicate, List.cons_append, List.nil_append, List.getElem?_cons_zero, List.getElem?_cons_succ, List.getElem?_nil, List.append_nil, gLe, gLt, Bool.not_true, Bool.not_false, Bool.false_eq_true, reduceIte, mJoined, mJs, mFmt, maStar, gJoin, mFld, moSome, mSl, gIx, z5, mCallL, miZ, gEqL, gNeL, mIsiT, moNone, gSl, miR1, gAdd, List.set_cons_zero, List.set_cons_succ, decide_true, eq_self, mMake, gRep, gInt, msFor, gAbs, mRev, gGe, gMod, gPow, gI, msPub, mLend, msParOO, msAppPop, msAppO, gDraw, msPar, msPar3, msAsg, mgTup, mgCons, mgNil, DL.gSub, mNeg, gMin, gSl, miEnum, gTuple, gList, miS, mAndV, mOrV, moSome, moNone, mSl]
      rw [show decide (("is" : Str) = "has") = false from by decide +kernel]
      dsimp only [msRet, msRetN, msSeq, msIf, msNext, msExpr, msSet, mtAnd, mtOr, mtNot, mTru, mB, mCB, mCall, maCons, maNil, mVar, mC, mOp, mChain, mIf, mAndV, mOrV, mNotV, mLst, mTup, mMS, gI0, gLen, gEq, gNe, gEqS, gNeS, gIn, gAll, gStrip, truD, start0, dn, mLc, miS, mgName, wipeD, mYes, lcD, List.map_cons, List.map_nil, List.replicate, List.cons_append, List.nil_append, List.getElem?_cons_zero, List.getElem?_cons_succ, List.getElem?_nil, List.append_nil, gLe, gLt, Bool.not_true, Bool.not_false, Bool.false_eq_true, reduceIte, mJoined, mJs, mFmt, maStar, gJoin, mFld, moSome, mSl, gIx, z5, mCallL, miZ, gEqL, gNeL, mIsiT, moNone, gSl, miR1, gAdd, List.set_cons_zero, List.set_cons_succ, decide_true, eq_self, mMake, gRep, gInt, msFor, gAbs, mRev, gGe, gMod, gPow, gI, msPub, mLend, msParOO, msAppPop, msAppO, gDraw, msPar, msPar3, msAsg, mgTup, mgCons, mgNil, DL.gSub, mNeg, gMin, gSl, miEnum, gTuple, gList, miS, mAndV, mOrV, moSome, moNone, mSl]
      refine ⟨kC, n_text, _, rfl, _, rfl, plain_s ho.2.2.2, plain_s ho.2.2.2, ?_⟩
      rw [eq_str t]
      exact f
    | put a t =>
      rw [okS] at ho
      have kC := He.cls_ok (cf.facts (f := .cls "Put") (List.mem_append_right _ (List.mem_append_right _ (by simp))))
      have n_column := He.noat_ok (cf.facts (f := .noat "Put" "column") (List.mem_append_right _ (List.mem_append_right _ (by simp))))
      have n_text := He.noat_ok (cf.facts (f := .noat "Put" "text") (List.mem_append_right _ (List.mem_append_right _ (by simp))))
      refine ms_at (e := [.dat (.obj (He.ga K "Put") [("column", .str a), ("text", .str t)]), .dat (.tup [.str "put", .str a, .str t]), .un, .un, .un]) (by rfl) ?_
      refine seq_go fun R hR => ?_
      dsimp only [msRet, msRetN, msSeq, msIf, msNext, msExpr, msSet, mtAnd, mtOr, mtNot, mTru, mB, mCB, mCall, maCons, maNil, mVar, mC, mOp, mChain, mIf, mAndV, mOrV, mNotV, mLst, mTup, mMS, gI0, gLen, gEq, gNe, gEqS, gNeS, gIn, gAll, gStrip, truD, start0, dn, mLc, miS, mgName, wipeD, mYes, lcD, List.map_cons, List.map_nil, List.replicate, List.cons_append, List.nil_append, List.getElem?_cons_zero, List.getElem?_cons_succ, List.getElem?_nil, List.append_nil, gLe, gLt, Bool.not_true, Bool.not_false, Bool.false_eq_true, reduceIte, mJoined, mJs, mFmt, maStar, gJoin, mFld, moSome, mSl, gIx, z5, mCallL, miZ, gEqL, gNeL, mIsiT, moNone, gSl, miR1, gAdd, List.set_cons_zero, List.set_cons_succ, decide_true, eq_self, mMake, gRep, gInt, msFor, gAbs, mRev, gGe, gMod, gPow, gI, msPub, mLend, msParOO, msAppPop, msAppO, gDraw, msPar, msPar3, msAsg, mgTup, mgCons, mgNil, DL.gSub, mNeg, gMin, gSl, miEnum, gTuple, gList, miS, mAndV, mOrV, moSome, moNone, mSl]
      refine ⟨_, rfl, hR _ ?_⟩
      clear hR
      refine seq_go fun R hR => ?_
      dsimp only [msRet, msRetN, msSeq, msIf, msNext, msExpr, msSet, mtAnd, mtOr, mtNot, mTru, mB, mCB, mCall, maCons, maNil, mVar, mC, mOp, mChain, mIf, mAndV, mOrV, mNotV, mLst, mTup, mMS, gI0, gLen, gEq, gNe, gEqS, gNeS, gIn, gAll, gStrip, truD, start0, dn, mLc, miS, mgName, wipeD, mYes, lcD, List.map_cons, List.map_nil, List.replicate, List.cons_append, List.nil_append, List.getElem?_cons_zero, List.getElem?_cons_succ, List.getElem?_nil, List.append_nil, gLe, gLt, Bool.not_true, Bool.not_false, Bool.false_eq_true, reduceIte, mJoined, mJs, mFmt, maStar, gJoin, mFld, moSome, mSl, gIx, z5, mCallL, miZ, gEqL, gNeL, mIsiT, moNone, gSl, miR1, gAdd, List.set_cons_zero, List.set_cons_succ, decide_true, eq_self, mMake, gRep, gInt, msFor, gAbs, mRev, gGe, gMod, gPow, gI, msPub, mLend, msParOO, msAppPop, msAppO, gDraw, msPar, msPar3, msAsg, mgTup, mgCons, mgNil, DL.gSub, mNeg, gMin, gSl, miEnum, gTuple, gList, miS, mAndV, mOrV, moSome, moNone, mSl]
      refine goIf (fun e => absurd e (by decide +kernel)) (fun _ => hR _ ?_)
      clear hR
      refine seq_go fun R hR => ?_
      dsimp only [msRet, msRetN, msSeq, msIf, msNext, msExpr, msSet, mtAnd, mtOr, mtNot, mTru, mB, mCB, mCall, maCons, maNil, mVar, mC, mOp, mChain, mIf, mAndV, mOrV, mNotV, mLst, mTup, mMS, gI0, gLen, gEq, gNe, gEqS, gNeS, gIn, gAll, gStrip, truD, start0, dn, mLc, miS, mgName, wipeD, mYes, lcD, List.map_cons, List.map_nil, List.replicate, List.cons_append, List.nil_append, List.getElem?_cons_zero, List.getElem?_cons_succ, List.getElem?_nil, List.append_nil, gLe, gLt, Bool.not_true, Bool.not_false, Bool.false_eq_true, reduceIte, mJoined, mJs, mFmt, maStar, gJoin, mFld, moSome, mSl, gIx, z5, mCallL, miZ, gEqL, gNeL, mIsiT, moNone, gSl, miR1, gAdd, List.set_cons_zero, List.set_cons_succ, decide_true, eq_self, mMake, gRep, gInt, msFor, gAbs, mRev, gGe, gMod, gPow, gI, msPub, mLend, msParOO, msAppPop, msAppO, gDraw, msPar, msPar3, msAsg, mgTup, mgCons, mgNil, DL.gSub, mNeg, gMin, gSl, miEnum, gTuple, gList, miS, mAndV, mOrV, moSome, moNone, mSl]
      refine ⟨(show 2 ≤ sizeLine from by decide), rfl, rfl, ?_⟩
      rw [show inD (D.str "put") [D.str "join", .str "stack"] = false from by decide +kernel]
      refine iteF (hR _ ?_)
      clear hR
      refine seq_go fun R hR => ?_
      dsimp only [msRet, msRetN, msSeq, msIf, msNext, msExpr, msSet, mtAnd, mtOr, mtNot, mTru, mB, mCB, mCall, maCons, maNil, mVar, mC, mOp, mChain, mIf, mAndV, mOrV, mNotV, mLst, mTup, mMS, gI0, gLen, gEq, gNe, gEqS, gNeS, gIn, gAll, gStrip, truD, start0, dn, mLc, miS, mgName, wipeD, mYes, lcD, List.map_cons, List.map_nil, List.replicate, List.cons_append, List.nil_append, List.getElem?_cons_zero, List.getElem?_cons_succ, List.getElem?_nil, List.append_nil, gLe, gLt, Bool.not_true, Bool.not_false, Bool.false_eq_true, reduceIte, mJoined, mJs, mFmt, maStar, gJoin, mFld, moSome, mSl, gIx, z5, mCallL, miZ, gEqL, gNeL, mIsiT, moNone, gSl, miR1, gAdd, List.set_cons_zero, List.set_cons_succ, decide_true, eq_self, mMake, gRep, gInt, msFor, gAbs, mRev, gGe, gMod, gPow, gI, msPub, mLend, msParOO, msAppPop, msAppO, gDraw, msPar, msPar3, msAsg, mgTup, mgCons, mgNil, DL.gSub, mNeg, gMin, gSl, miEnum, gTuple, gList, miS, mAndV, mOrV, moSome, moNone, mSl]
      refine goIf (fun e => absurd e (by decide +kernel)) (fun _ => hR _ ?_)
      clear hR
      refine seq_go fun R hR => ?_
      dsimp only [msRet, msRetN, msSeq, msIf, msNext, msExpr, msSet, mtAnd, mtOr, mtNot, mTru, mB, mCB, mCall, maCons, maNil, mVar, mC, mOp, mChain, mIf, mAndV, mOrV, mNotV, mLst, mTup, mMS, gI0, gLen, gEq, gNe, gEqS, gNeS, gIn, gAll, gStrip, truD, start0, dn, mLc, miS, mgName, wipeD, mYes, lcD, List.map_cons, List.map_nil, List.replicate, List.cons_append, List.nil_append, List.getElem?_cons_zero, List.getElem?_cons_succ, List.getElem?_nil, List.append_nil, gLe, gLt, Bool.not_true, Bool.not_false, Bool.false_eq_true, reduceIte, mJoined, mJs, mFmt, maStar, gJoin, mFld, moSome, mSl, gIx, z5, mCallL, miZ, gEqL, gNeL, mIsiT, moNone, gSl, miR1, gAdd, List.set_cons_zero, List.set_cons_succ, decide_true, eq_self, mMake, gRep, gInt, msFor, gAbs, mRev, gGe, gMod, gPow, gI, msPub, mLend, msParOO, msAppPop, msAppO, gDraw, msPar, msPar3, msAsg, mgTup, mgCons, mgNil, DL.gSub, mNeg, gMin, gSl, miEnum, gTuple, gList, miS, mAndV, mOrV, moSome, moNone, mSl]
      refine goIf (fun e => absurd e (by decide +kernel)) (fun _ => hR _ ?_)
      clear hR
      refine seq_go fun R hR => ?_
      dsimp only [msRet, msRetN, msSeq, msIf, msNext, msExpr, msSet, mtAnd, mtOr, mtNot, mTru, mB, mCB, mCall, maCons, maNil, mVar, mC, mOp, mChain, mIf, mAndV, mOrV, mNotV, mLst, mTup, mMS, gI0, gLen, gEq, gNe, gEqS, gNeS, gIn, gAll, gStrip, truD, start0, dn, mLc, miS, mgName, wipeD, mYes, lcD, List.map_cons, List.map_nil, List.replicate, List.cons_append, List.nil_append, List.getElem?_cons_zero, List.getElem?_cons_succ, List.getElem?_nil, List.append_nil, gLe, gLt, Bool.not_true, Bool.not_false, Bool.false_eq_true, reduceIte, mJoined, mJs, mFmt, maStar, gJoin, mFld, moSome, mSl, gIx, z5, mCallL, miZ, gEqL, gNeL, mIsiT, moNone, gSl, miR1, gAdd, List.set_cons_zero, List.set_cons_succ, decide_true, eq_self, mMake, gRep, gInt, msFor, gAbs, mRev, gGe, gMod, gPow, gI, msPub, mLend, msParOO, msAppPop, msAppO, gDraw, msPar, msPar3, msAsg, mgTup, mgCons, mgNil, DL.gSub, mNeg, gMin, gSl, miEnum, gTuple, gList, miS, mAndV, mOrV, moSome, moNone, mSl]
      refine goIf (fun e => absurd e (by decide +kernel)) (fun _ => hR _ ?_)
      clear hR
      refine seq_go fun R hR => ?_
      dsimp only [msRet, msRetN, msSeq, msIf, msNext, msExpr, msSet, mtAnd, mtOr, mtNot, mTru, mB, mCB, mCall, maCons, maNil, mVar, mC, mOp, mChain, mIf, mAndV, mOrV, mNotV, mLst, mTup, mMS, gI0, gLen, gEq, gNe, gEqS, gNeS, gIn, gAll, gStrip, truD, start0, dn, mLc, miS, mgName, wipeD, mYes, lcD, List.map_cons, List.map_nil, List.replicate, List.cons_append, List.nil_append, List.getElem?_cons_zero, List.getElem?_cons_succ, List.getElem?_nil, List.append_nil, gLe, gLt, Bool.not_true, Bool.not_false, Bool.false_eq_true, reduceIte, mJoined, mJs, mFmt, maStar, gJoin, mFld, moSome, mSl, gIx, z5, mCallL, miZ, gEqL, gNeL, mIsiT, moNone, gSl, miR1, gAdd, List.set_cons_zero, List.set_cons_succ, decide_true, eq_self, mMake, gRep, gInt, msFor, gAbs, mRev, gGe, gMod, gPow, gI, msPub, mLend, msParOO, msAppPop, msAppO, gDraw, msPar, msPar3, msAsg, mgTup, mgCons, mgNil, DL.gSub, mNeg, gMin, gSl, miEnum, gTuple, gList, miS, mAndV, mOrV, moSome, moNone, mSl]
      refine goIf (fun e => absurd e (by decide +kernel)) (fun _ => hR _ ?_)
      clear hR
      dsimp only [msRet, msRetN, msSeq, msIf, msNext, msExpr, msSet, mtAnd, mtOr, mtNot, mTru, mB, mCB, mCall, maCons, maNil, mVar, mC, mOp, mChain, mIf, mAndV, mOrV, mNotV, mLst, mTup, mMS, gI0, gLen, gEq, gNe, gEqS, gNeS, gIn, gAll, gStrip, truD, start0, dn, mLc, miS, mgName, wipeD, mYes, lcD, List.map_cons, List.map_nil, List.replicate, List.cons_append, List.nil_append, List.getElem?_cons_zero, List.getElem?_cons_succ, List.getElem?_nil, List.append_nil, gLe, gLt, Bool.not_true, Bool.not_false, Bool.false_eq_true, reduceIte, mJoined, mJs, mFmt, maStar, gJoin, mFld, moSome, mSl, gIx, z5, mCallL, miZ, gEqL, gNeL, mIsiT, moNone, gSl, miR1, gAdd, List.set_cons_zero, List.set_cons_succ, decide_true, eq_self, mMake, gRep, gInt, msFor, gAbs, mRev, gGe, gMod, gPow, gI, msPub, mLend, msParOO, msAppPop, msAppO, gDraw, msPar, msPar3, msAsg, mgTup, mgCons, mgNil, DL.gSub, mNeg, gMin, gSl, miEnum, gTuple, gList, miS, mAndV, mOrV, moSome, moNone, mSl]
      refine ⟨kC, n_column, _, rfl, _, rfl, plain_s ho.1.2.2, plain_s ho.1.2.2, ?_⟩
      rw [eq_str a]
      dsimp only [msRet, msRetN, msSeq, msIf, msNext, msExpr, msSet, mtAnd, mtOr, mtNot, mTru, mB, mCB, mCall, maCons, maNil, mVar, mC, mOp, mChain, mIf, mAndV, mOrV, mNotV, mLst, mTup, mMS, gI0, gLen, gEq, gNe, gEqS, gNeS, gIn, gAll, gStrip, truD, start0, dn, mLc, miS, mgName, wipeD, mYes, lcD, List.map_cons, List.map_nil, List.replicate, List.cons_append, List.nil_append, List.getElem?_cons_zero, List.getElem?_cons_succ, List.getElem?_nil, List.append_nil, gLe, gLt, Bool.not_true, Bool.not_false, Bool.false_eq_true, reduceIte, mJoined, mJs, mFmt, maStar, gJoin, mFld, moSome, mSl, gIx, z5, mCallL, miZ, gEqL, gNeL, mIsiT, moNone, gSl, miR1, gAdd, List.set_cons_zero, List.set_cons_succ, decide_true, eq_self, mMake, gRep, gInt, msFor, gAbs, mRev, gGe, gMod, gPow, gI, msPub, mLend, msParOO, msAppPop, msAppO, gDraw, msPar, msPar3, msAsg, mgTup, mgCons, mgNil, DL.gSub, mNeg, gMin, gSl, miEnum, gTuple, gList, miS, mAndV, mOrV, moSome, moNone, mSl]
      rw [show decide (("put" : Str) = "has") = false from by decide +kernel]
      dsimp only [msRet, msRetN, msSeq, msIf, msNext, msExpr, msSet, mtAnd, mtOr, mtNot, mTru, mB, mCB, mCall, maCons, maNil, mVar, mC, mOp, mChain, mIf, mAndV, mOrV, mNotV, mLst, mTup, mMS, gI0, gLen, gEq, gNe, gEqS, gNeS, gIn, gAll, gStrip, truD, start0, dn, mLc, miS, mgName, wipeD, mYes, lcD, List.map_cons, List.map_nil, List.replicate, List.cons_append, List.nil_append, List.getElem?_cons_zero, List.getElem?_cons_succ, List.getElem?_nil, List.append_nil, gLe, gLt, Bool.not_true, Bool.not_false, Bool.false_eq_true, reduceIte, mJoined, mJs, mFmt, maStar, gJoin, mFld, moSome, mSl, gIx, z5, mCallL, miZ, gEqL, gNeL, mIsiT, moNone, gSl, miR1, gAdd, List.set_cons_zero, List.set_cons_succ, decide_true, eq_self, mMake, gRep, gInt, msFor, gAbs, mRev, gGe, gMod, gPow, gI, msPub, mLend, msParOO, msAppPop, msAppO, gDraw, msPar, msPar3, msAsg, mgTup, mgCons, mgNil, DL.gSub, mNeg, gMin, gSl, miEnum, gTuple, gList, miS, mAndV, mOrV, moSome, moNone, mSl]
      refine ⟨kC, n_text, _, rfl, _, rfl, plain_s ho.2.2.2, plain_s ho.2.2.2, ?_⟩
      rw [eq_str t]
      exact f
    | alike a b =>
      rw [okS] at ho
      have kC := He.cls_ok (cf.facts (f := .cls "Alike") (List.mem_append_right _ (List.mem_append_right _ (by simp))))
      have n_column := He.noat_ok (cf.facts (f := .noat "Alike" "column") (List.mem_append_right _ (List.mem_append_right _ (by simp))))
      have n_other := He.noat_ok (cf.facts (f := .noat "Alike" "other") (List.mem_append_right _ (List.mem_append_right _ (by simp))))
      refine ms_at (e := [.dat (.obj (He.ga K "Alike") [("column", .str a), ("other", .str b)]), .dat (.tup [.str "alike", .str a, .str b]), .un, .un, .un]) (by rfl) ?_
      refine seq_go fun R hR => ?_
      dsimp only [msRet, msRetN, msSeq, msIf, msNext, msExpr, msSet, mtAnd, mtOr, mtNot, mTru, mB, mCB, mCall, maCons, maNil, mVar, mC, mOp, mChain, mIf, mAndV, mOrV, mNotV, mLst, mTup, mMS, gI0, gLen, gEq, gNe, gEqS, gNeS, gIn, gAll, gStrip, truD, start0, dn, mLc, miS, mgName, wipeD, mYes, lcD, List.map_cons, List.map_nil, List.replicate, List.cons_append, List.nil_append, List.getElem?_cons_zero, List.getElem?_cons_succ, List.getElem?_nil, List.append_nil, gLe, gLt, Bool.not_true, Bool.not_false, Bool.false_eq_true, reduceIte, mJoined, mJs, mFmt, maStar, gJoin, mFld, moSome, mSl, gIx, z5, mCallL, miZ, gEqL, gNeL, mIsiT, moNone, gSl, miR1, gAdd, List.set_cons_zero, List.set_cons_succ, decide_true, eq_self, mMake, gRep, gInt, msFor, gAbs, mRev, gGe, gMod, gPow, gI, msPub, mLend, msParOO, msAppPop, msAppO, gDraw, msPar, msPar3, msAsg, mgTup, mgCons, mgNil, DL.gSub, mNeg, gMin, gSl, miEnum, gTuple, gList, miS, mAndV, mOrV, moSome, moNone, mSl]
      refine ⟨_, rfl, hR _ ?_⟩
      clear hR
      refine seq_go fun R hR => ?_
      dsimp only [msRet, msRetN, msSeq, msIf, msNext, msExpr, msSet, mtAnd, mtOr, mtNot, mTru, mB, mCB, mCall, maCons, maNil, mVar, mC, mOp, mChain, mIf, mAndV, mOrV, mNotV, mLst, mTup, mMS, gI0, gLen, gEq, gNe, gEqS, gNeS, gIn, gAll, gStrip, truD, start0, dn, mLc, miS, mgName, wipeD, mYes, lcD, List.map_cons, List.map_nil, List.replicate, List.cons_append, List.nil_append, List.getElem?_cons_zero, List.getElem?_cons_succ, List.getElem?_nil, List.append_nil, gLe, gLt, Bool.not_true, Bool.not_false, Bool.false_eq_true, reduceIte, mJoined, mJs, mFmt, maStar, gJoin, mFld, moSome, mSl, gIx, z5, mCallL, miZ, gEqL, gNeL, mIsiT, moNone, gSl, miR1, gAdd, List.set_cons_zero, List.set_cons_succ, decide_true, eq_self, mMake, gRep, gInt, msFor, gAbs, mRev, gGe, gMod, gPow, gI, msPub, mLend, msParOO, msAppPop, msAppO, gDraw, msPar, msPar3, msAsg, mgTup, mgCons, mgNil, DL.gSub, mNeg, gMin, gSl, miEnum, gTuple, gList, miS, mAndV, mOrV, moSome, moNone, mSl]
      refine goIf (fun e => absurd e (by decide +kernel)) (fun _ => hR _ ?_)
      clear hR
      refine seq_go fun R hR => ?_
      dsimp only [msRet, msRetN, msSeq, msIf, msNext, msExpr, msSet, mtAnd, mtOr, mtNot, mTru, mB, mCB, mCall, maCons, maNil, mVar, mC, mOp, mChain, mIf, mAndV, mOrV, mNotV, mLst, mTup, mMS, gI0, gLen, gEq, gNe, gEqS, gNeS, gIn, gAll, gStrip, truD, start0, dn, mLc, miS, mgName, wipeD, mYes, lcD, List.map_cons, List.map_nil, List.replicate, List.cons_append, List.nil_append, List.getElem?_cons_zero, List.getElem?_cons_succ, List.getElem?_nil, List.append_nil, gLe, gLt, Bool.not_true, Bool.not_false, Bool.false_eq_true, reduceIte, mJoined, mJs, mFmt, maStar, gJoin, mFld, moSome, mSl, gIx, z5, mCallL, miZ, gEqL, gNeL, mIsiT, moNone, gSl, miR1, gAdd, List.set_cons_zero, List.set_cons_succ, decide_true, eq_self, mMake, gRep, gInt, msFor, gAbs, mRev, gGe, gMod, gPow, gI, msPub, mLend, msParOO, msAppPop, msAppO, gDraw, msPar, msPar3, msAsg, mgTup, mgCons, mgNil, DL.gSub, mNeg, gMin, gSl, miEnum, gTuple, gList, miS, mAndV, mOrV, moSome, moNone, mSl]
      refine ⟨(show 2 ≤ sizeLine from by decide), rfl, rfl, ?_⟩
      rw [show inD (D.str "alike") [D.str "join", .str "stack"] = false from by decide +kernel]
      refine iteF (hR _ ?_)
      clear hR
      refine seq_go fun R hR => ?_
      dsimp only [msRet, msRetN, msSeq, msIf, msNext, msExpr, msSet, mtAnd, mtOr, mtNot, mTru, mB, mCB, mCall, maCons, maNil, mVar, mC, mOp, mChain, mIf, mAndV, mOrV, mNotV, mLst, mTup, mMS, gI0, gLen, gEq, gNe, gEqS, gNeS, gIn, gAll, gStrip, truD, start0, dn, mLc, miS, mgName, wipeD, mYes, lcD, List.map_cons, List.map_nil, List.replicate, List.cons_append, List.nil_append, List.getElem?_cons_zero, List.getElem?_cons_succ, List.getElem?_nil, List.append_nil, gLe, gLt, Bool.not_true, Bool.not_false, Bool.false_eq_true, reduceIte, mJoined, mJs, mFmt, maStar, gJoin, mFld, moSome, mSl, gIx, z5, mCallL, miZ, gEqL, gNeL, mIsiT, moNone, gSl, miR1, gAdd, List.set_cons_zero, List.set_cons_succ, decide_true, eq_self, mMake, gRep, gInt, msFor, gAbs, mRev, gGe, gMod, gPow, gI, msPub, mLend, msParOO, msAppPop, msAppO, gDraw, msPar, msPar3, msAsg, mgTup, mgCons, mgNil, DL.gSub, mNeg, gMin, gSl, miEnum, gTuple, gList, miS, mAndV, mOrV, moSome, moNone, mSl]
      refine goIf (fun e => absurd e (by decide +kernel)) (fun _ => hR _ ?_)
      clear hR
      refine seq_go fun R hR => ?_
      dsimp only [msRet, msRetN, msSeq, msIf, msNext, msExpr, msSet, mtAnd, mtOr, mtNot, mTru, mB, mCB, mCall, maCons, maNil, mVar, mC, mOp, mChain, mIf, mAndV, mOrV, mNotV, mLst, mTup, mMS, gI0, gLen, gEq, gNe, gEqS, gNeS, gIn, gAll, gStrip, truD, start0, dn, mLc, miS, mgName, wipeD, mYes, lcD, List.map_cons, List.map_nil, List.replicate, List.cons_append, List.nil_append, List.getElem?_cons_zero, List.getElem?_cons_succ, List.getElem?_nil, List.append_nil, gLe, gLt, Bool.not_true, Bool.not_false, Bool.false_eq_true, reduceIte, mJoined, mJs, mFmt, maStar, gJoin, mFld, moSome, mSl, gIx, z5, mCallL, miZ, gEqL, gNeL, mIsiT, moNone, gSl, miR1, gAdd, List.set_cons_zero, List.set_cons_succ, decide_true, eq_self, mMake, gRep, gInt, msFor, gAbs, mRev, gGe, gMod, gPow, gI, msPub, mLend, msParOO, msAppPop, msAppO, gDraw, msPar, msPar3, msAsg, mgTup, mgCons, mgNil, DL.gSub, mNeg, gMin, gSl, miEnum, gTuple, gList, miS, mAndV, mOrV, moSome, moNone, mSl]
      refine goIf (fun e => absurd e (by decide +kernel)) (fun _ => hR _ ?_)
      clear hR
      refine seq_go fun R hR => ?_
      dsimp only [msRet, msRetN, msSeq, msIf, msNext, msExpr, msSet, mtAnd, mtOr, mtNot, mTru, mB, mCB, mCall, maCons, maNil, mVar, mC, mOp, mChain, mIf, mAndV, mOrV, mNotV, mLst, mTup, mMS, gI0, gLen, gEq, gNe, gEqS, gNeS, gIn, gAll, gStrip, truD, start0, dn, mLc, miS, mgName, wipeD, mYes, lcD, List.map_cons, List.map_nil, List.replicate, List.cons_append, List.nil_append, List.getElem?_cons_zero, List.getElem?_cons_succ, List.getElem?_nil, List.append_nil, gLe, gLt, Bool.not_true, Bool.not_false, Bool.false_eq_true, reduceIte, mJoined, mJs, mFmt, maStar, gJoin, mFld, moSome, mSl, gIx, z5, mCallL, miZ, gEqL, gNeL, mIsiT, moNone, gSl, miR1, gAdd, List.set_cons_zero, List.set_cons_succ, decide_true, eq_self, mMake, gRep, gInt, msFor, gAbs, mRev, gGe, gMod, gPow, gI, msPub, mLend, msParOO, msAppPop, msAppO, gDraw, msPar, msPar3, msAsg, mgTup, mgCons, mgNil, DL.gSub, mNeg, gMin, gSl, miEnum, gTuple, gList, miS, mAndV, mOrV, moSome, moNone, mSl]
      refine goIf (fun e => absurd e (by decide +kernel)) (fun _ => hR _ ?_)
      clear hR
      refine seq_go fun R hR => ?_
      dsimp only [msRet, msRetN, msSeq, msIf, msNext, msExpr, msSet, mtAnd, mtOr, mtNot, mTru, mB, mCB, mCall, maCons, maNil, mVar, mC, mOp, mChain, mIf, mAndV, mOrV, mNotV, mLst, mTup, mMS, gI0, gLen, gEq, gNe, gEqS, gNeS, gIn, gAll, gStrip, truD, start0, dn, mLc, miS, mgName, wipeD, mYes, lcD, List.map_cons, List.map_nil, List.replicate, List.cons_append, List.nil_append, List.getElem?_cons_zero, List.getElem?_cons_succ, List.getElem?_nil, List.append_nil, gLe, gLt, Bool.not_true, Bool.not_false, Bool.false_eq_true, reduceIte, mJoined, mJs, mFmt, maStar, gJoin, mFld, moSome, mSl, gIx, z5, mCallL, miZ, gEqL, gNeL, mIsiT, moNone, gSl, miR1, gAdd, List.set_cons_zero, List.set_cons_succ, decide_true, eq_self, mMake, gRep, gInt, msFor, gAbs, mRev, gGe, gMod, gPow, gI, msPub, mLend, msParOO, msAppPop, msAppO, gDraw, msPar, msPar3, msAsg, mgTup, mgCons, mgNil, DL.gSub, mNeg, gMin, gSl, miEnum, gTuple, gList, miS, mAndV, mOrV, moSome, moNone, mSl]
      refine goIf (fun _ => ?_) (fun e => absurd rfl e)
      refine ⟨kC, n_column, _, rfl, kC, n_other, _, rfl, (show 2 ≤ sizeLine from by decide), .inl ⟨(show ¬ (HT.sIx 3 0 (some 1) = 0 ∧ HT.sIx 3 3 none = 3) from by decide), ?_⟩⟩
      have hp : DL.plain 20 (.tup [.str a, .str b]) = true := plain_cons (plain_s ho.1.2.2) (plain_cons (plain_s ho.2.2.2) rfl)
      refine ⟨hp, hp, ?_⟩
      show F1 (.bl (eqD (.tup [.str a, .str b]) (.tup [.str a, .str b])))
      rw [eq_tup (eq_cons (eq_str a) (eq_cons (eq_str b) rfl))]
      exact f
    | melt cs n2 v =>
      rw [okS] at ho
      have kC := He.cls_ok (cf.facts (f := .cls "Melt") (List.mem_append_right _ (List.mem_append_right _ (by simp))))
      have n_columns := He.noat_ok (cf.facts (f := .noat "Melt" "columns") (List.mem_append_right _ (List.mem_append_right _ (by simp))))
      have n_name := He.noat_ok (cf.facts (f := .noat "Melt" "name") (List.mem_append_right _ (List.mem_append_right _ (by simp))))
      have n_value := He.noat_ok (cf.facts (f := .noat "Melt" "value") (List.mem_append_right _ (List.mem_append_right _ (by simp))))
      refine ms_at (e := [.dat (.obj (He.ga K "Melt") [("columns", .tup (cs.map .str)), ("name", .str n2), ("value", .str v)]), .dat (.tup [.str "melt", .lst (cs.map .str), .str n2, .str v]), .un, .un, .un]) (by rfl) ?_
      refine seq_go fun R hR => ?_
      dsimp only [msRet, msRetN, msSeq, msIf, msNext, msExpr, msSet, mtAnd, mtOr, mtNot, mTru, mB, mCB, mCall, maCons, maNil, mVar, mC, mOp, mChain, mIf, mAndV, mOrV, mNotV, mLst, mTup, mMS, gI0, gLen, gEq, gNe, gEqS, gNeS, gIn, gAll, gStrip, truD, start0, dn, mLc, miS, mgName, wipeD, mYes, lcD, List.map_cons, List.map_nil, List.replicate, List.cons_append, List.nil_append, List.getElem?_cons_zero, List.getElem?_cons_succ, List.getElem?_nil, List.append_nil, gLe, gLt, Bool.not_true, Bool.not_false, Bool.false_eq_true, reduceIte, mJoined, mJs, mFmt, maStar, gJoin, mFld, moSome, mSl, gIx, z5, mCallL, miZ, gEqL, gNeL, mIsiT, moNone, gSl, miR1, gAdd, List.set_cons_zero, List.set_cons_succ, decide_true, eq_self, mMake, gRep, gInt, msFor, gAbs, mRev, gGe, gMod, gPow, gI, msPub, mLend, msParOO, msAppPop, msAppO, gDraw, msPar, msPar3, msAsg, mgTup, mgCons, mgNil, DL.gSub, mNeg, gMin, gSl, miEnum, gTuple, gList, miS, mAndV, mOrV, moSome, moNone, mSl]
      refine ⟨_, rfl, hR _ ?_⟩
      clear hR
      refine seq_go fun R hR => ?_
      dsimp only [msRet, msRetN, msSeq, msIf, msNext, msExpr, msSet, mtAnd, mtOr, mtNot, mTru, mB, mCB, mCall, maCons, maNil, mVar, mC, mOp, mChain, mIf, mAndV, mOrV, mNotV, mLst, mTup, mMS, gI0, gLen, gEq, gNe, gEqS, gNeS, gIn, gAll, gStrip, truD, start0, dn, mLc, miS, mgName, wipeD, mYes, lcD, List.map_cons, List.map_nil, List.replicate, List.cons_append, List.nil_append, List.getElem?_cons_zero, List.getElem?_cons_succ, List.getElem?_nil, List.append_nil, gLe, gLt, Bool.not_true, Bool.not_false, Bool.false_eq_true, reduceIte, mJoined, mJs, mFmt, maStar, gJoin, mFld, moSome, mSl, gIx, z5, mCallL, miZ, gEqL, gNeL, mIsiT, moNone, gSl, miR1, gAdd, List.set_cons_zero, List.set_cons_succ, decide_true, eq_self, mMake, gRep, gInt, msFor, gAbs, mRev, gGe, gMod, gPow, gI, msPub, mLend, msParOO, msAppPop, msAppO, gDraw, msPar, msPar3, msAsg, mgTup, mgCons, mgNil, DL.gSub, mNeg, gMin, gSl, miEnum, gTuple, gList, miS, mAndV, mOrV, moSome, moNone, mSl]
      refine goIf (fun e => absurd e (by decide +kernel)) (fun _ => hR _ ?_)
      clear hR
      refine seq_go fun R hR => ?_
      dsimp only [msRet, msRetN, msSeq, msIf, msNext, msExpr, msSet, mtAnd, mtOr, mtNot, mTru, mB, mCB, mCall, maCons, maNil, mVar, mC, mOp, mChain, mIf, mAndV, mOrV, mNotV, mLst, mTup, mMS, gI0, gLen, gEq, gNe, gEqS, gNeS, gIn, gAll, gStrip, truD, start0, dn, mLc, miS, mgName, wipeD, mYes, lcD, List.map_cons, List.map_nil, List.replicate, List.cons_append, List.nil_append, List.getElem?_cons_zero, List.getElem?_cons_succ, List.getElem?_nil, List.append_nil, gLe, gLt, Bool.not_true, Bool.not_false, Bool.false_eq_true, reduceIte, mJoined, mJs, mFmt, maStar, gJoin, mFld, moSome, mSl, gIx, z5, mCallL, miZ, gEqL, gNeL, mIsiT, moNone, gSl, miR1, gAdd, List.set_cons_zero, List.set_cons_succ, decide_true, eq_self, mMake, gRep, gInt, msFor, gAbs, mRev, gGe, gMod, gPow, gI, msPub, mLend, msParOO, msAppPop, msAppO, gDraw, msPar, msPar3, msAsg, mgTup, mgCons, mgNil, DL.gSub, mNeg, gMin, gSl, miEnum, gTuple, gList, miS, mAndV, mOrV, moSome, moNone, mSl]
      refine ⟨(show 2 ≤ sizeLine from by decide), rfl, rfl, ?_⟩
      rw [show inD (D.str "melt") [D.str "join", .str "stack"] = false from by decide +kernel]
      refine iteF (hR _ ?_)
      clear hR
      refine seq_go fun R hR => ?_
      dsimp only [msRet, msRetN, msSeq, msIf, msNext, msExpr, msSet, mtAnd, mtOr, mtNot, mTru, mB, mCB, mCall, maCons, maNil, mVar, mC, mOp, mChain, mIf, mAndV, mOrV, mNotV, mLst, mTup, mMS, gI0, gLen, gEq, gNe, gEqS, gNeS, gIn, gAll, gStrip, truD, start0, dn, mLc, miS, mgName, wipeD, mYes, lcD, List.map_cons, List.map_nil, List.replicate, List.cons_append, List.nil_append, List.getElem?_cons_zero, List.getElem?_cons_succ, List.getElem?_nil, List.append_nil, gLe, gLt, Bool.not_true, Bool.not_false, Bool.false_eq_true, reduceIte, mJoined, mJs, mFmt, maStar, gJoin, mFld, moSome, mSl, gIx, z5, mCallL, miZ, gEqL, gNeL, mIsiT, moNone, gSl, miR1, gAdd, List.set_cons_zero, List.set_cons_succ, decide_true, eq_self, mMake, gRep, gInt, msFor, gAbs, mRev, gGe, gMod, gPow, gI, msPub, mLend, msParOO, msAppPop, msAppO, gDraw, msPar, msPar3, msAsg, mgTup, mgCons, mgNil, DL.gSub, mNeg, gMin, gSl, miEnum, gTuple, gList, miS, mAndV, mOrV, moSome, moNone, mSl]
      refine goIf (fun _ => ?_) (fun e => absurd rfl e)
      refine ⟨kC, n_columns, _, rfl, kC, n_name, _, rfl, kC, n_value, _, rfl, (show 3 ≤ sizeLine from by decide), _, rfl, _, rfl, _, rfl, (show 3 ≤ sizeLine from by decide), ?_⟩
      have hp : DL.plain 20 (.tup [.tup (cs.map .str), .str n2, .str v]) = true := plain_cons (plain_strs ho.1) (plain_cons (plain_s ho.2.1.2.2) (plain_cons (plain_s ho.2.2.2.2) rfl))
      refine ⟨hp, hp, ?_⟩
      rw [eq_tup (eq_cons (eq_tup (eq_strs cs)) (eq_cons (eq_str n2) (eq_cons (eq_str v) rfl)))]
      exact f
    | pivot bs n2 v hs =>
      rw [okS] at ho
      have kC := He.cls_ok (cf.facts (f := .cls "Pivot") (List.mem_append_right _ (List.mem_append_right _ (by simp))))
      have n_by := He.noat_ok (cf.facts (f := .noat "Pivot" "by") (List.mem_append_right _ (List.mem_append_right _ (by simp))))
      have n_name := He.noat_ok (cf.facts (f := .noat "Pivot" "name") (List.mem_append_right _ (List.mem_append_right _ (by simp))))
      have n_value := He.noat_ok (cf.facts (f := .noat "Pivot" "value") (List.mem_append_right _ (List.mem_append_right _ (by simp))))
      have n_heads := He.noat_ok (cf.facts (f := .noat "Pivot" "heads") (List.mem_append_right _ (List.mem_append_right _ (by simp))))
      refine ms_at (e := [.dat (.obj (He.ga K "Pivot") [("by", .tup (bs.map .str)), ("name", .str n2), ("value", .str v), ("heads", .tup (hs.map .str))]), .dat (.tup [.str "pivot", .lst (bs.map .str), .str n2, .str v, .lst (hs.map .str)]), .un, .un, .un]) (by rfl) ?_
      refine seq_go fun R hR => ?_
      dsimp only [msRet, msRetN, msSeq, msIf, msNext, msExpr, msSet, mtAnd, mtOr, mtNot, mTru, mB, mCB, mCall, maCons, maNil, mVar, mC, mOp, mChain, mIf, mAndV, mOrV, mNotV, mLst, mTup, mMS, gI0, gLen, gEq, gNe, gEqS, gNeS, gIn, gAll, gStrip, truD, start0, dn, mLc, miS, mgName, wipeD, mYes, lcD, List.map_cons, List.map_nil, List.replicate, List.cons_append, List.nil_append, List.getElem?_cons_zero, List.getElem?_cons_succ, List.getElem?_nil, List.append_nil, gLe, gLt, Bool.not_true, Bool.not_false, Bool.false_eq_true, reduceIte, mJoined, mJs, mFmt, maStar, gJoin, mFld, moSome, mSl, gIx, z5, mCallL, miZ, gEqL, gNeL, mIsiT, moNone, gSl, miR1, gAdd, List.set_cons_zero, List.set_cons_succ, decide_true, eq_self, mMake, gRep, gInt, msFor, gAbs, mRev, gGe, gMod, gPow, gI, msPub, mLend, msParOO, msAppPop, msAppO, gDraw, msPar, msPar3, msAsg, mgTup, mgCons, mgNil, DL.gSub, mNeg, gMin, gSl, miEnum, gTuple, gList, miS, mAndV, mOrV, moSome, moNone, mSl]
      refine ⟨_, rfl, hR _ ?_⟩
      clear hR
      refine seq_go fun R hR => ?_
      dsimp only [msRet, msRetN, msSeq, msIf, msNext, msExpr, msSet, mtAnd, mtOr, mtNot, mTru, mB, mCB, mCall, maCons, maNil, mVar, mC, mOp, mChain, mIf, mAndV, mOrV, mNotV, mLst, mTup, mMS, gI0, gLen, gEq, gNe, gEqS, gNeS, gIn, gAll, gStrip, truD, start0, dn, mLc, miS, mgName, wipeD, mYes, lcD, List.map_cons, List.map_nil, List.replicate, List.cons_append, List.nil_append, List.getElem?_cons_zero, List.getElem?_cons_succ, List.getElem?_nil, List.append_nil, gLe, gLt, Bool.not_true, Bool.not_false, Bool.false_eq_true, reduceIte, mJoined, mJs, mFmt, maStar, gJoin, mFld, moSome, mSl, gIx, z5, mCallL, miZ, gEqL, gNeL, mIsiT, moNone, gSl, miR1, gAdd, List.set_cons_zero, List.set_cons_succ, decide_true, eq_self, mMake, gRep, gInt, msFor, gAbs, mRev, gGe, gMod, gPow, gI, msPub, mLend, msParOO, msAppPop, msAppO, gDraw, msPar, msPar3, msAsg, mgTup, mgCons, mgNil, DL.gSub, mNeg, gMin, gSl, miEnum, gTuple, gList, miS, mAndV, mOrV, moSome, moNone, mSl]
      refine goIf (fun e => absurd e (by decide +kernel)) (fun _ => hR _ ?_)
      clear hR
      refine seq_go fun R hR => ?_
      dsimp only [msRet, msRetN, msSeq, msIf, msNext, msExpr, msSet, mtAnd, mtOr, mtNot, mTru, mB, mCB, mCall, maCons, maNil, mVar, mC, mOp, mChain, mIf, mAndV, mOrV, mNotV, mLst, mTup, mMS, gI0, gLen, gEq, gNe, gEqS, gNeS, gIn, gAll, gStrip, truD, start0, dn, mLc, miS, mgName, wipeD, mYes, lcD, List.map_cons, List.map_nil, List.replicate, List.cons_append, List.nil_append, List.getElem?_cons_zero, List.getElem?_cons_succ, List.getElem?_nil, List.append_nil, gLe, gLt, Bool.not_true, Bool.not_false, Bool.false_eq_true, reduceIte, mJoined, mJs, mFmt, maStar, gJoin, mFld, moSome, mSl, gIx, z5, mCallL, miZ, gEqL, gNeL, mIsiT, moNone, gSl, miR1, gAdd, List.set_cons_zero, List.set_cons_succ, decide_true, eq_self, mMake, gRep, gInt, msFor, gAbs, mRev, gGe, gMod, gPow, gI, msPub, mLend, msParOO, msAppPop, msAppO, gDraw, msPar, msPar3, msAsg, mgTup, mgCons, mgNil, DL.gSub, mNeg, gMin, gSl, miEnum, gTuple, gList, miS, mAndV, mOrV, moSome, moNone, mSl]
      refine ⟨(show 2 ≤ sizeLine from by decide), rfl, rfl, ?_⟩
      rw [show inD (D.str "pivot") [D.str "join", .str "stack"] = false from by decide +kernel]
      refine iteF (hR _ ?_)
      clear hR
      refine seq_go fun R hR => ?_
      dsimp only [msRet, msRetN, msSeq, msIf, msNext, msExpr, msSet, mtAnd, mtOr, mtNot, mTru, mB, mCB, mCall, maCons, maNil, mVar, mC, mOp, mChain, mIf, mAndV, mOrV, mNotV, mLst, mTup, mMS, gI0, gLen, gEq, gNe, gEqS, gNeS, gIn, gAll, gStrip, truD, start0, dn, mLc, miS, mgName, wipeD, mYes, lcD, List.map_cons, List.map_nil, List.replicate, List.cons_append, List.nil_append, List.getElem?_cons_zero, List.getElem?_cons_succ, List.getElem?_nil, List.append_nil, gLe, gLt, Bool.not_true, Bool.not_false, Bool.false_eq_true, reduceIte, mJoined, mJs, mFmt, maStar, gJoin, mFld, moSome, mSl, gIx, z5, mCallL, miZ, gEqL, gNeL, mIsiT, moNone, gSl, miR1, gAdd, List.set_cons_zero, List.set_cons_succ, decide_true, eq_self, mMake, gRep, gInt, msFor, gAbs, mRev, gGe, gMod, gPow, gI, msPub, mLend, msParOO, msAppPop, msAppO, gDraw, msPar, msPar3, msAsg, mgTup, mgCons, mgNil, DL.gSub, mNeg, gMin, gSl, miEnum, gTuple, gList, miS, mAndV, mOrV, moSome, moNone, mSl]
      refine goIf (fun e => absurd e (by decide +kernel)) (fun _ => hR _ ?_)
      clear hR
      refine seq_go fun R hR => ?_
      dsimp only [msRet, msRetN, msSeq, msIf, msNext, msExpr, msSet, mtAnd, mtOr, mtNot, mTru, mB, mCB, mCall, maCons, maNil, mVar, mC, mOp, mChain, mIf, mAndV, mOrV, mNotV, mLst, mTup, mMS, gI0, gLen, gEq, gNe, gEqS, gNeS, gIn, gAll, gStrip, truD, start0, dn, mLc, miS, mgName, wipeD, mYes, lcD, List.map_cons, List.map_nil, List.replicate, List.cons_append, List.nil_append, List.getElem?_cons_zero, List.getElem?_cons_succ, List.getElem?_nil, List.append_nil, gLe, gLt, Bool.not_true, Bool.not_false, Bool.false_eq_true, reduceIte, mJoined, mJs, mFmt, maStar, gJoin, mFld, moSome, mSl, gIx, z5, mCallL, miZ, gEqL, gNeL, mIsiT, moNone, gSl, miR1, gAdd, List.set_cons_zero, List.set_cons_succ, decide_true, eq_self, mMake, gRep, gInt, msFor, gAbs, mRev, gGe, gMod, gPow, gI, msPub, mLend, msParOO, msAppPop, msAppO, gDraw, msPar, msPar3, msAsg, mgTup, mgCons, mgNil, DL.gSub, mNeg, gMin, gSl, miEnum, gTuple, gList, miS, mAndV, mOrV, moSome, moNone, mSl]
      refine goIf (fun _ => ?_) (fun e => absurd rfl e)
      refine ⟨kC, n_by, _, rfl, kC, n_name, _, rfl, kC, n_value, _, rfl, kC, n_heads, _, rfl, (show 4 ≤ sizeLine from by decide), _, rfl, _, rfl, _, rfl, _, rfl, (show 4 ≤ sizeLine from by decide), ?_⟩
      have hp : DL.plain 20 (.tup [.tup (bs.map .str), .str n2, .str v, .tup (hs.map .str)]) = true := plain_cons (plain_strs ho.1) (plain_cons (plain_s ho.2.1.2.2) (plain_cons (plain_s ho.2.2.1.2.2) (plain_cons (plain_strs ho.2.2.2) rfl)))
      refine ⟨hp, hp, ?_⟩
      rw [eq_tup (eq_cons (eq_tup (eq_strs bs)) (eq_cons (eq_str n2) (eq_cons (eq_str v) (eq_cons (eq_tup (eq_strs hs)) rfl))))]
      exact f
    | join cs ss =>
      have ho : Nms 0 cs ∧ ss.length ≤ 6 ∧ ∀ s ∈ ss, okS n s := ho
      have kC := He.cls_ok (cf.facts (f := .cls "Join") (List.mem_append_right _ (List.mem_append_right _ (by simp))))
      have n_columns := He.noat_ok (cf.facts (f := .noat "Join" "columns") (List.mem_append_right _ (List.mem_append_right _ (by simp))))
      have n_steps := He.noat_ok (cf.facts (f := .noat "Join" "steps") (List.mem_append_right _ (List.mem_append_right _ (by simp))))
      refine ms_at (e := [.dat (.obj (He.ga K "Join") [("columns", .tup (cs.map .str)), ("steps", .tup (objDs K ss))]), .dat (.tup [.str "join", .lst (cs.map .str), .lst (ss.map toldD)]), .un, .un, .un]) (by rw [← toldDs_eq]; rfl) ?_
      refine seq_go fun R hR => ?_
      dsimp only [msRet, msRetN, msSeq, msIf, msNext, msExpr, msSet, mtAnd, mtOr, mtNot, mTru, mB, mCB, mCall, maCons, maNil, mVar, mC, mOp, mChain, mIf, mAndV, mOrV, mNotV, mLst, mTup, mMS, gI0, gLen, gEq, gNe, gEqS, gNeS, gIn, gAll, gStrip, truD, start0, dn, mLc, miS, mgName, wipeD, mYes, lcD, List.map_cons, List.map_nil, List.replicate, List.cons_append, List.nil_append, List.getElem?_cons_zero, List.getElem?_cons_succ, List.getElem?_nil, List.append_nil, gLe, gLt, Bool.not_true, Bool.not_false, Bool.false_eq_true, reduceIte, mJoined, mJs, mFmt, maStar, gJoin, mFld, moSome, mSl, gIx, z5, mCallL, miZ, gEqL, gNeL, mIsiT, moNone, gSl, miR1, gAdd, List.set_cons_zero, List.set_cons_succ, decide_true, eq_self, mMake, gRep, gInt, msFor, gAbs, mRev, gGe, gMod, gPow, gI, msPub, mLend, msParOO, msAppPop, msAppO, gDraw, msPar, msPar3, msAsg, mgTup, mgCons, mgNil, DL.gSub, mNeg, gMin, gSl, miEnum, gTuple, gList, miS, mAndV, mOrV, moSome, moNone, mSl]
      refine ⟨_, rfl, hR _ ?_⟩
      clear hR
      refine seq_go fun R hR => ?_
      dsimp only [msRet, msRetN, msSeq, msIf, msNext, msExpr, msSet, mtAnd, mtOr, mtNot, mTru, mB, mCB, mCall, maCons, maNil, mVar, mC, mOp, mChain, mIf, mAndV, mOrV, mNotV, mLst, mTup, mMS, gI0, gLen, gEq, gNe, gEqS, gNeS, gIn, gAll, gStrip, truD, start0, dn, mLc, miS, mgName, wipeD, mYes, lcD, List.map_cons, List.map_nil, List.replicate, List.cons_append, List.nil_append, List.getElem?_cons_zero, List.getElem?_cons_succ, List.getElem?_nil, List.append_nil, gLe, gLt, Bool.not_true, Bool.not_false, Bool.false_eq_true, reduceIte, mJoined, mJs, mFmt, maStar, gJoin, mFld, moSome, mSl, gIx, z5, mCallL, miZ, gEqL, gNeL, mIsiT, moNone, gSl, miR1, gAdd, List.set_cons_zero, List.set_cons_succ, decide_true, eq_self, mMake, gRep, gInt, msFor, gAbs, mRev, gGe, gMod, gPow, gI, msPub, mLend, msParOO, msAppPop, msAppO, gDraw, msPar, msPar3, msAsg, mgTup, mgCons, mgNil, DL.gSub, mNeg, gMin, gSl, miEnum, gTuple, gList, miS, mAndV, mOrV, moSome, moNone, mSl]
      refine goIf (fun e => absurd e (by decide +kernel)) (fun _ => hR _ ?_)
      clear hR
      refine seq_go fun R hR => ?_
      dsimp only [msRet, msRetN, msSeq, msIf, msNext, msExpr, msSet, mtAnd, mtOr, mtNot, mTru, mB, mCB, mCall, maCons, maNil, mVar, mC, mOp, mChain, mIf, mAndV, mOrV, mNotV, mLst, mTup, mMS, gI0, gLen, gEq, gNe, gEqS, gNeS, gIn, gAll, gStrip, truD, start0, dn, mLc, miS, mgName, wipeD, mYes, lcD, List.map_cons, List.map_nil, List.replicate, List.cons_append, List.nil_append, List.getElem?_cons_zero, List.getElem?_cons_succ, List.getElem?_nil, List.append_nil, gLe, gLt, Bool.not_true, Bool.not_false, Bool.false_eq_true, reduceIte, mJoined, mJs, mFmt, maStar, gJoin, mFld, moSome, mSl, gIx, z5, mCallL, miZ, gEqL, gNeL, mIsiT, moNone, gSl, miR1, gAdd, List.set_cons_zero, List.set_cons_succ, decide_true, eq_self, mMake, gRep, gInt, msFor, gAbs, mRev, gGe, gMod, gPow, gI, msPub, mLend, msParOO, msAppPop, msAppO, gDraw, msPar, msPar3, msAsg, mgTup, mgCons, mgNil, DL.gSub, mNeg, gMin, gSl, miEnum, gTuple, gList, miS, mAndV, mOrV, moSome, moNone, mSl]
      refine ⟨(show 2 ≤ sizeLine from by decide), rfl, rfl, ?_⟩
      rw [show inD (D.str "join") [D.str "join", .str "stack"] = true from by decide +kernel]
      refine iteT ?_
      refine ⟨_, rfl, _, rfl, made_few ho.2.1 _, ?_⟩
      refine lcD_mapA toldD (objD K) ss [] (fun s hs F2 q => ⟨rfl, s, rfl, ho.2.2 s hs, q⟩) ?_
      rw [List.nil_append]
      refine ⟨kC, n_steps, _, rfl, own_all x ho.2.2 ?_⟩
      dsimp only [msRet, msRetN, msSeq, msIf, msNext, msExpr, msSet, mtAnd, mtOr, mtNot, mTru, mB, mCB, mCall, maCons, maNil, mVar, mC, mOp, mChain, mIf, mAndV, mOrV, mNotV, mLst, mTup, mMS, gI0, gLen, gEq, gNe, gEqS, gNeS, gIn, gAll, gStrip, truD, start0, dn, mLc, miS, mgName, wipeD, mYes, lcD, List.map_cons, List.map_nil, List.replicate, List.cons_append, List.nil_append, List.getElem?_cons_zero, List.getElem?_cons_succ, List.getElem?_nil, List.append_nil, gLe, gLt, Bool.not_true, Bool.not_false, Bool.false_eq_true, reduceIte, mJoined, mJs, mFmt, maStar, gJoin, mFld, moSome, mSl, gIx, z5, mCallL, miZ, gEqL, gNeL, mIsiT, moNone, gSl, miR1, gAdd, List.set_cons_zero, List.set_cons_succ, decide_true, eq_self, mMake, gRep, gInt, msFor, gAbs, mRev, gGe, gMod, gPow, gI, msPub, mLend, msParOO, msAppPop, msAppO, gDraw, msPar, msPar3, msAsg, mgTup, mgCons, mgNil, DL.gSub, mNeg, gMin, gSl, miEnum, gTuple, gList, miS, mAndV, mOrV, moSome, moNone, mSl]
      refine ⟨kC, n_columns, _, rfl, _, rfl, plain_strs ho.1, plain_strs ho.1, ?_⟩
      rw [eq_tup (eq_strs cs)]
      exact f
    | stack ss =>
      have ho : ss.length ≤ 6 ∧ ∀ s ∈ ss, okS n s := ho
      have kC := He.cls_ok (cf.facts (f := .cls "Stack") (List.mem_append_right _ (List.mem_append_right _ (by simp))))
      have n_steps := He.noat_ok (cf.facts (f := .noat "Stack" "steps") (List.mem_append_right _ (List.mem_append_right _ (by simp))))
      refine ms_at (e := [.dat (.obj (He.ga K "Stack") [("steps", .tup (objDs K ss))]), .dat (.tup [.str "stack", .lst (ss.map toldD)]), .un, .un, .un]) (by rw [← toldDs_eq]; rfl) ?_
      refine seq_go fun R hR => ?_
      dsimp only [msRet, msRetN, msSeq, msIf, msNext, msExpr, msSet, mtAnd, mtOr, mtNot, mTru, mB, mCB, mCall, maCons, maNil, mVar, mC, mOp, mChain, mIf, mAndV, mOrV, mNotV, mLst, mTup, mMS, gI0, gLen, gEq, gNe, gEqS, gNeS, gIn, gAll, gStrip, truD, start0, dn, mLc, miS, mgName, wipeD, mYes, lcD, List.map_cons, List.map_nil, List.replicate, List.cons_append, List.nil_append, List.getElem?_cons_zero, List.getElem?_cons_succ, List.getElem?_nil, List.append_nil, gLe, gLt, Bool.not_true, Bool.not_false, Bool.false_eq_true, reduceIte, mJoined, mJs, mFmt, maStar, gJoin, mFld, moSome, mSl, gIx, z5, mCallL, miZ, gEqL, gNeL, mIsiT, moNone, gSl, miR1, gAdd, List.set_cons_zero, List.set_cons_succ, decide_true, eq_self, mMake, gRep, gInt, msFor, gAbs, mRev, gGe, gMod, gPow, gI, msPub, mLend, msParOO, msAppPop, msAppO, gDraw, msPar, msPar3, msAsg, mgTup, mgCons, mgNil, DL.gSub, mNeg, gMin, gSl, miEnum, gTuple, gList, miS, mAndV, mOrV, moSome, moNone, mSl]
      refine ⟨_, rfl, hR _ ?_⟩
      clear hR
      refine seq_go fun R hR => ?_
      dsimp only [msRet, msRetN, msSeq, msIf, msNext, msExpr, msSet, mtAnd, mtOr, mtNot, mTru, mB, mCB, mCall, maCons, maNil, mVar, mC, mOp, mChain, mIf, mAndV, mOrV, mNotV, mLst, mTup, mMS, gI0, gLen, gEq, gNe, gEqS, gNeS, gIn, gAll, gStrip, truD, start0, dn, mLc, miS, mgName, wipeD, mYes, lcD, List.map_cons, List.map_nil, List.replicate, List.cons_append, List.nil_append, List.getElem?_cons_zero, List.getElem?_cons_succ, List.getElem?_nil, List.append_nil, gLe, gLt, Bool.not_true, Bool.not_false, Bool.false_eq_true, reduceIte, mJoined, mJs, mFmt, maStar, gJoin, mFld, moSome, mSl, gIx, z5, mCallL, miZ, gEqL, gNeL, mIsiT, moNone, gSl, miR1, gAdd, List.set_cons_zero, List.set_cons_succ, decide_true, eq_self, mMake, gRep, gInt, msFor, gAbs, mRev, gGe, gMod, gPow, gI, msPub, mLend, msParOO, msAppPop, msAppO, gDraw, msPar, msPar3, msAsg, mgTup, mgCons, mgNil, DL.gSub, mNeg, gMin, gSl, miEnum, gTuple, gList, miS, mAndV, mOrV, moSome, moNone, mSl]
      refine goIf (fun e => absurd e (by decide +kernel)) (fun _ => hR _ ?_)
      clear hR
      refine seq_go fun R hR => ?_
      dsimp only [msRet, msRetN, msSeq, msIf, msNext, msExpr, msSet, mtAnd, mtOr, mtNot, mTru, mB, mCB, mCall, maCons, maNil, mVar, mC, mOp, mChain, mIf, mAndV, mOrV, mNotV, mLst, mTup, mMS, gI0, gLen, gEq, gNe, gEqS, gNeS, gIn, gAll, gStrip, truD, start0, dn, mLc, miS, mgName, wipeD, mYes, lcD, List.map_cons, List.map_nil, List.replicate, List.cons_append, List.nil_append, List.getElem?_cons_zero, List.getElem?_cons_succ, List.getElem?_nil, List.append_nil, gLe, gLt, Bool.not_true, Bool.not_false, Bool.false_eq_true, reduceIte, mJoined, mJs, mFmt, maStar, gJoin, mFld, moSome, mSl, gIx, z5, mCallL, miZ, gEqL, gNeL, mIsiT, moNone, gSl, miR1, gAdd, List.set_cons_zero, List.set_cons_succ, decide_true, eq_self, mMake, gRep, gInt, msFor, gAbs, mRev, gGe, gMod, gPow, gI, msPub, mLend, msParOO, msAppPop, msAppO, gDraw, msPar, msPar3, msAsg, mgTup, mgCons, mgNil, DL.gSub, mNeg, gMin, gSl, miEnum, gTuple, gList, miS, mAndV, mOrV, moSome, moNone, mSl]
      refine ⟨(show 2 ≤ sizeLine from by decide), rfl, rfl, ?_⟩
      rw [show inD (D.str "stack") [D.str "join", .str "stack"] = true from by decide +kernel]
      refine iteT ?_
      refine ⟨_, rfl, _, rfl, made_few ho.1 _, ?_⟩
      refine lcD_mapA toldD (objD K) ss [] (fun s hs F2 q => ⟨rfl, s, rfl, ho.2 s hs, q⟩) ?_
      rw [List.nil_append]
      refine ⟨kC, n_steps, _, rfl, own_all x ho.2 ?_⟩
      dsimp only [msRet, msRetN, msSeq, msIf, msNext, msExpr, msSet, mtAnd, mtOr, mtNot, mTru, mB, mCB, mCall, maCons, maNil, mVar, mC, mOp, mChain, mIf, mAndV, mOrV, mNotV, mLst, mTup, mMS, gI0, gLen, gEq, gNe, gEqS, gNeS, gIn, gAll, gStrip, truD, start0, dn, mLc, miS, mgName, wipeD, mYes, lcD, List.map_cons, List.map_nil, List.replicate, List.cons_append, List.nil_append, List.getElem?_cons_zero, List.getElem?_cons_succ, List.getElem?_nil, List.append_nil, gLe, gLt, Bool.not_true, Bool.not_false, Bool.false_eq_true, reduceIte, mJoined, mJs, mFmt, maStar, gJoin, mFld, moSome, mSl, gIx, z5, mCallL, miZ, gEqL, gNeL, mIsiT, moNone, gSl, miR1, gAdd, List.set_cons_zero, List.set_cons_succ, decide_true, eq_self, mMake, gRep, gInt, msFor, gAbs, mRev, gGe, gMod, gPow, gI, msPub, mLend, msParOO, msAppPop, msAppO, gDraw, msPar, msPar3, msAsg, mgTup, mgCons, mgNil, DL.gSub, mNeg, gMin, gSl, miEnum, gTuple, gList, miS, mAndV, mOrV, moSome, moNone, mSl]
      exact f
end
end K11

set_option Elab.async false
set_option linter.all false
set_option maxRecDepth 100000
set_option maxHeartbeats 4000000
namespace K11
open PySem PySem.Spec PyProof.Rows L2 DL
/-! ### the word at the beginning of a text tells the class -/
def sepC (c : Nat) : Bool := c == 32 || c == 10
def wordS : Stp → Str
  | .pick _ => "pick"
  | .rename _ _ => "rename"
  | .has _ => "has"
  | .is_ _ _ => "is"
  | .put _ _ => "put"
  | .alike _ _ => "alike"
  | .melt _ _ _ => "melt"
  | .pivot _ _ _ _ => "pivot"
  | .join _ _ => "join"
  | .stack _ => "stack"
def clsW (z : Str) : Str := if z = "pick" then "Pick" else if z = "rename" then "Rename" else if z = "has" then "Has" else if z = "is" then "Is" else if z = "put" then "Put" else if z = "alike" then "Alike" else if z = "melt" then "Melt" else
  if z = "pivot" then "Pivot" else if z = "join" then "Join" else "Stack"
theorem clsW_ok : ∀ s : Stp, clsW (wordS s) = clsN s
  | .pick _ => by rw [wordS, clsN]; decide +kernel
  | .rename _ _ => by rw [wordS, clsN]; decide +kernel
  | .has _ => by rw [wordS, clsN]; decide +kernel
  | .is_ _ _ => by rw [wordS, clsN]; decide +kernel
  | .put _ _ => by rw [wordS, clsN]; decide +kernel
  | .alike _ _ => by rw [wordS, clsN]; decide +kernel
  | .melt _ _ _ => by rw [wordS, clsN]; decide +kernel
  | .pivot _ _ _ _ => by rw [wordS, clsN]; decide +kernel
  | .join _ _ => by rw [wordS, clsN]; decide +kernel
  | .stack _ => by rw [wordS, clsN]; decide +kernel
theorem word_plain : ∀ s : Stp, ((wordS s).cps.toList.all fun c => !sepC c) = true
  | .pick _ => by rw [wordS]; decide +kernel
  | .rename _ _ => by rw [wordS]; decide +kernel
  | .has _ => by rw [wordS]; decide +kernel
  | .is_ _ _ => by rw [wordS]; decide +kernel
  | .put _ _ => by rw [wordS]; decide +kernel
  | .alike _ _ => by rw [wordS]; decide +kernel
  | .melt _ _ _ => by rw [wordS]; decide +kernel
  | .pivot _ _ _ _ => by rw [wordS]; decide +kernel
  | .join _ _ => by rw [wordS]; decide +kernel
  | .stack _ => by rw [wordS]; decide +kernel
theorem lines_word : ∀ s : Stp, ∃ ws more, linesS s = Txt.join " " (wordS s :: ws) :: more
  | .pick cs => ⟨_, _, by rw [linesS, wordS]⟩
  | .rename _ _ => ⟨_, _, by rw [linesS, wordS]⟩
  | .has _ => ⟨_, _, by rw [linesS, wordS]⟩
  | .is_ _ _ => ⟨_, _, by rw [linesS, wordS]⟩
  | .put _ _ => ⟨_, _, by rw [linesS, wordS]⟩
  | .alike _ _ => ⟨_, _, by rw [linesS, wordS]⟩
  | .melt _ _ _ => ⟨_, _, by rw [linesS, wordS]⟩
  | .pivot _ _ _ _ => ⟨_, _, by rw [linesS, wordS]⟩
  | .join _ _ => ⟨_, _, by rw [linesS, wordS]⟩
  | .stack _ => ⟨[], _, by rw [linesS, wordS]; rfl⟩
theorem cps_app (a b : Str) : (a ++ b).cps.toList = a.cps.toList ++ b.cps.toList := Array.toList_append
/-- what stands behind the first of texts that are joined -/
theorem jn_head (z x : Str) : ∀ r : List Str, ∃ q : List Nat, (Str.join z (x :: r)).cps.toList = x.cps.toList ++ q ∧ (q = [] ∨ ∃ q', q = z.cps.toList ++ q')
  | [] => ⟨[], (by show x.cps.toList = _; rw [List.append_nil]), .inl rfl⟩
  | y :: r => ⟨z.cps.toList ++ (Str.join z (y :: r)).cps.toList, (by rw [jn_cons, cps_app, cps_app, List.append_assoc]), .inr ⟨_, rfl⟩⟩
theorem text_head (s : Stp) : ∃ q : List Nat, (textS s).cps.toList = (wordS s).cps.toList ++ q ∧ (q = [] ∨ ∃ c q', q = c :: q' ∧ sepC c = true) := by
  obtain ⟨ws, more, e⟩ := lines_word s
  obtain ⟨q2, e2, h2⟩ := jn_head "\n" (Txt.join " " (wordS s :: ws)) more
  obtain ⟨q1, e1, h1⟩ := jn_head " " (wordS s) ws
  refine ⟨q1 ++ q2, ?_, ?_⟩
  · unfold textS
    rw [e, tj, e2, tj, e1, List.append_assoc]
  · rcases h1 with rfl | ⟨q, rfl⟩
    · rcases h2 with rfl | ⟨q', rfl⟩
      · exact .inl rfl
      · exact .inr ⟨10, q', rfl, rfl⟩
    · exact .inr ⟨32, q ++ q2, rfl, rfl⟩
theorem take_word {w q : List Nat} (hw : (w.all fun c => !sepC c) = true) (hq : q = [] ∨ ∃ c q', q = c :: q' ∧ sepC c = true) : (w ++ q).takeWhile (fun c => !sepC c) = w := by
  induction w with
  | nil =>
    rcases hq with rfl | ⟨c, q', rfl, h⟩
    · rfl
    · rw [List.nil_append, List.takeWhile_cons_of_neg (by rw [h]; decide)]
  | cons c w ih =>
    obtain ⟨h1, h2⟩ := b2 (show (!sepC c && w.all fun c => !sepC c) = true from hw)
    rw [List.cons_append, List.takeWhile_cons_of_pos (p := fun c => !sepC c) h1, ih h2]
theorem text_cls {s t : Stp} (e : textS s = textS t) : clsN s = clsN t := by
  obtain ⟨q, e1, h1⟩ := text_head s
  obtain ⟨q', e2, h2⟩ := text_head t
  have k1 := take_word (word_plain s) h1
  have k2 := take_word (word_plain t) h2
  rw [← e1, e, e2, k2] at k1
  have : wordS s = wordS t := by
    cases hs : wordS s with
    | mk a =>
      cases ht : wordS t with
      | mk b =>
        rw [hs, ht] at k1
        exact congrArg _ (Array.toList_inj.mp k1.symm)
  rw [← clsW_ok s, ← clsW_ok t, this]
/-! ### two texts -/
theorem text_join1 (a : Str) : textS (.join [a] [.has a]) = ("join " : Str) ++ a ++ "\nhas " ++ a ++ "\nend" := by
  have e : textS (.join [a] [.has a]) = Str.join "\n" [Txt.join " " [("join" : Str), a], Txt.join " " [("has" : Str), a], "end"] := by
    unfold textS
    rw [linesS, linesSs_one, linesS, tj]
    rfl
  rw [e, jn_cons, jn_cons, sp1, sp1, show ("join " : Str) = "join" ++ " " from by decide +kernel, show ("\nhas " : Str) = "\n" ++ ("has" ++ " ") from by decide +kernel, show ("\nend" : Str) = "\n" ++ "end" from by decide +kernel]
  show _ ++ _ ++ (_ ++ _ ++ ("end" : Str)) = _
  simp only [Str.append_assoc]
theorem text_stack1 (a : Str) : textS (.stack [.has a]) = ("stack\nhas " : Str) ++ a ++ "\nend" := by
  have e : textS (.stack [.has a]) = Str.join "\n" [("stack" : Str), Txt.join " " [("has" : Str), a], "end"] := by
    unfold textS
    rw [linesS, linesSs_one, linesS, tj]
    rfl
  rw [e, jn_cons, jn_cons, sp1, show ("stack\nhas " : Str) = "stack" ++ ("\n" ++ ("has" ++ " ")) from by decide +kernel, show ("\nend" : Str) = "\n" ++ "end" from by decide +kernel]
  show _ ++ _ ++ (_ ++ _ ++ ("end" : Str)) = _
  simp only [Str.append_assoc]
theorem text_join0 : textS (.join [] []) = "join\nend" := by decide +kernel
theorem text_pivot0 : textS (.pivot [] "n" "v" ["h"]) = "pivot by n v to h" := by decide +kernel
end K11

set_option Elab.async false
set_option linter.all false
set_option maxRecDepth 100000
set_option maxHeartbeats 4000000
namespace K11
open PySem PySem.Spec PyProof.Rows L2 DL
/-! ### the law -/
theorem kn_stp {K : Fg} (x : Exf K) (s : Stp) : ∃ t, TyD K (objD K s) t ∧ PySem.W.kitOne K t (.ref (cStep K)) = some true := by
  obtain ⟨fs, e⟩ := obj_of K s
  rw [e]
  obtain ⟨t, h1, h2⟩ := kn_step (d := .obj (He.ga K (clsN s)) fs) x.kls x.kst (mem_cl10 (cls_mem s))
  exact ⟨t, h1, kit1_of h2⟩
theorem eq_goal {K : Fg} (x : Exf K) {s : Stp} (ho : okS 2 s) {e : D} {r : Bool} (hk : knownD e = true) (hn : PySem.W.notFirst K (He.ga K (clsN s)) (tyD e) = true) (h : EqR K 2 s e r) {F : D → Prop} (f : F (.bl r)) : gEqO K (fun C => C ∈ cl10 K) (gEqC K 2) (objD K s) e F := by
  obtain ⟨fs, e1⟩ := obj_of K s
  have m0 : He.ga K (clsN s) ∈ cl10 K := mem_cl10 (cls_mem s)
  rw [e1]
  refine ⟨m0, hk, hn, ?_⟩
  rw [← e1]
  exact ⟨s, e, r, rfl, rfl, ho, h, ⟨r, rfl⟩, f⟩
theorem ne_goal {K : Fg} (x : Exf K) {s : Stp} (ho : okS 2 s) {e : D} {r : Bool} (hk : knownD e = true) (hn : PySem.W.notFirst K (He.ga K (clsN s)) (tyD e) = true) (h : EqR K 2 s e r) {F : D → Prop} (f : F (.bl (!r))) : gNeO K (fun C => C ∈ cl10 K) (gEqC K 2) (objD K s) e F := by
  obtain ⟨fs, e1⟩ := obj_of K s
  have m0 : He.ga K (clsN s) ∈ cl10 K := mem_cl10 (cls_mem s)
  rw [e1]
  refine ⟨m0, hk, hn, ?_⟩
  rw [← e1]
  exact ⟨s, e, r, rfl, rfl, ho, h, r, rfl, f⟩
theorem told_tup (s : Stp) : ∃ ds, toldD s = .tup ds := by cases s <;> rw [toldD] <;> exact ⟨_, rfl⟩
theorem not_eq {K : Fg} (x : Exf K) {s : Stp} {e : D} {T : String} (hT : tyT e = some T) (hT4 : T ∈ tys4) : knownD e = true ∧ PySem.W.notFirst K (He.ga K (clsN s)) (tyD e) = true ∧ EqR K 2 s e false := by
  have m0 : He.ga K (clsN s) ∈ cl10 K := mem_cl10 (cls_mem s)
  have hn := ((x.own _ m0).ty T hT4).1
  refine ⟨?_, ?_, .inr ⟨by rw [hT]; rfl, rfl⟩⟩
  · cases e <;> first | rfl | cases hT
  · have : tyD e = .type T := by cases e <;> cases hT <;> rfl
    rw [this]
    exact hn
theorem is_obj {K : Fg} (x : Exf K) (s t : Stp) (ht : okS 2 t) : knownD (objD K t) = true ∧ PySem.W.notFirst K (He.ga K (clsN s)) (tyD (objD K t)) = true ∧ EqR K 2 s (objD K t) (decide (clsN t = clsN s) && decide (textS s = textS t)) := by
  have m0 : He.ga K (clsN s) ∈ cl10 K := mem_cl10 (cls_mem s)
  have m1 : He.ga K (clsN t) ∈ cl10 K := mem_cl10 (cls_mem t)
  refine ⟨?_, ?_, .inl ⟨t, rfl, ht, rfl⟩⟩
  · obtain ⟨fs, e⟩ := obj_of K t
    rw [e]
    rfl
  · obtain ⟨fs, e⟩ := obj_of K t
    rw [e]
    exact ((x.own _ m0).cl _ m1).1
theorem eq_text {s t : Stp} : (decide (clsN t = clsN s) && decide (textS s = textS t)) = decide (textS s = textS t) := by
  by_cases h : textS s = textS t
  · rw [decide_eq_true h, decide_eq_true (text_cls h).symm]
    rfl
  · rw [decide_eq_false h, Bool.and_false]
theorem zip_steps {K : Fg} (ss : List Stp) : List.zipWith (fun a b => D.tup [a, b]) (ss.map toldD) (ss.map (objD K)) = ss.map fun s => .tup [toldD s, objD K s] := by
  induction ss with
  | nil => rfl
  | cons s ss ih => rw [List.map_cons, List.map_cons, List.zipWith_cons_cons, ih]; rfl
theorem all2_told : ∀ (ds es : List D), All2 (fun _ e => ∃ s, okS 2 s ∧ e = toldD s) ds es → ∃ ss : List Stp, es = ss.map toldD ∧ ss.length = ds.length ∧ ∀ s ∈ ss, okS 2 s
  | [], [], _ => ⟨[], rfl, rfl, fun _ z => nomatch z⟩
  | [], _ :: _, h => h.elim
  | _ :: _, [], h => h.elim
  | d :: ds, e :: es, h => by
    obtain ⟨⟨s, hs, rfl⟩, h2⟩ := (show (∃ s, okS 2 s ∧ e = toldD s) ∧ All2 _ ds es from h)
    obtain ⟨ss, rfl, l, k⟩ := all2_told ds es h2
    exact ⟨s :: ss, rfl, congrArg Nat.succ l, fa2 hs k⟩
theorem mg2 {i j : Nat} {a b : D} {δ : List Sl} {F : List Sl → Prop} (h : F ((δ.set i (.dat a)).set j (.dat b))) : mgCons (mgName i) (mgCons (mgName j) mgNil) [a, b] δ F := h
theorem noL_strs : ∀ xs : List Str, noLs (xs.map D.str) = true
  | [] => rfl
  | x :: xs => by
    show (true && noLs (xs.map D.str)) = true
    rw [noL_strs xs]
    rfl
theorem noL_pick (C : Addr) (xs : List Str) : noL (.obj C [("columns", .tup (xs.map D.str))]) = true := by
  show (noLs (xs.map D.str) && true) = true
  rw [noL_strs]
  rfl
theorem nms_nil (_ : Nat) : Nms 0 [] := ⟨Nat.zero_le _, Nat.zero_le _, .nil, fun _ z => nomatch z⟩
theorem eq_bl (b : Bool) : eqD (.bl b) (.bl b) = true := by cases b <;> rfl
theorem eq_nbl (b : Bool) : eqD (.bl (!b)) (.bl b) = false := by cases b <;> rfl
section
variable {P : Program} {w : World} {K : Fg} {mg : Str → Option Value} {base : Heap}
theorem sc_law : FnScope ["_law_script", "_law_deal_here", "_law_turn", "_law_names", "_law_some", "_law_told", "_law_made_here", "_law_one", "_law_step", "_law_given", "_law_inner", "_law_pick_here", "_law_join", "_law_stack", "_law_k", "_law_other", "_law_third", "_law_thing"] ["_law_script"] (defScope s_law) := ⟨rfl, rfl, rfl, by decide +kernel, rfl, by decide +kernel, by decide +kernel⟩
theorem ok_law (G : Glo K mg) (c : He.SaysD fa fn K) (x : Exf K) (H_law_deal : Fn P w K mg base "_law_deal" 1 2 false gDeal) (H_law_draw : Fn P w K mg base "_law_draw" 1 1 true gDraw) (H_law_columns : Fn P w K mg base "_law_columns" 2 1 true gColumns) (H_law_texts : Fn P w K mg base "_law_texts" 2 1 true gTexts)
    (H_law_drawn : Fn P w K mg base "_law_drawn" 6 3 true gDrawn) (H_law_made : Fn P w K mg base "_law_made" 8 1 false (gMade K 2)) (H_law_text_of : Fn P w K mg base "_law_text_of" 9 1 false (gTextOf 2)) (H_law_is_kept : Fn P w K mg base "_law_is_kept" 12 2 false (gKept K 2))
    (M : OwnM P w K mg base (fun C => C ∈ cl10 K) "__str__" 7 1 (gStrC K 2)) (ME : OwnM P w K mg base (fun C => C ∈ cl10 K) "__eq__" 10 2 (gEqC K 2)) (H_Pick : Mkr P w K mg base "Pick" (He.ga K "Pick") 4 1 (gPick K)) (H_Has : Mkr P w K mg base "Has" (He.ga K "Has") 4 1 (gHas K)) (H_Join : Mkr P w K mg base "Join" (He.ga K "Join") 4 2 (gJoin K)) (H_Stack : Mkr P w K mg base "Stack" (He.ga K "Stack") 4 1 (gStack K)) (H_Pivot : Mkr P w K mg base "Pivot" (He.ga K "Pivot") 4 4 (gPivot K)) {fd : FuncData} (F : FunD K "law" "law" (defArgs s_law) (defBody s_law) (defScope s_law) [] [] (He.ga K "law") fd) : FnOk P w K mg base (L2.CX P w) 14 (He.ga K "law") fd ["_law_script"] (spLawD K) := by
  have nd : (["_law_script", "_law_deal_here", "_law_turn", "_law_names", "_law_some", "_law_told", "_law_made_here", "_law_one", "_law_step", "_law_given", "_law_inner", "_law_pick_here", "_law_join", "_law_stack", "_law_k", "_law_other", "_law_third", "_law_thing"] : List Str).Nodup := sc_law.nd
  have cf := c
  have hNe : ∀ C, C ∈ cl10 K → PySem.W.findIn K (.ref C) "__ne__" = some (some (.builtin "object.__ne__")) ∧ PySem.W.mroIn K C (.type "object") = some true := fun C hC => (x.own C hC).ne
  apply fn_law (k := 13) (N := ["_law_script", "_law_deal_here", "_law_turn", "_law_names", "_law_some", "_law_told", "_law_made_here", "_law_one", "_law_step", "_law_given", "_law_inner", "_law_pick_here", "_law_join", "_law_stack", "_law_k", "_law_other", "_law_third", "_law_thing"]) F sc_law (by decide)
  intro cdv A outer s H E hr
  have hu := hr.units
  have tk := takes_of (X := cxOf (L2.CX P w) P w K mg base ["_law_script", "_law_deal_here", "_law_turn", "_law_names", "_law_some", "_law_told", "_law_made_here", "_law_one", "_law_step", "_law_given", "_law_inner", "_law_pick_here", "_law_join", "_law_stack", "_law_k", "_law_other", "_law_third", "_law_thing"] "law" (defScope s_law) (He.ga K "law") cdv A outer s H E) rfl rfl rfl rfl
  apply Exists.intro
  apply Exists.intro
  apply Exists.intro
  apply Exists.intro
  refine And.intro (fun c0 => dsw (ds_set 1 nd rfl (by first | exact .inl rfl | exact .inr rfl) (de_f H_law_deal (hr.mono (by decide)) rfl tk (da_cons (de_var 0) (da_cons de_int da_nil)))) (fun c1 => (dss_cons (ds_for (passes_of rfl) rfl (di_range1 rfl (G.n "range" (by decide)) (da_cons de_int da_nil)) (dg_name 2 nd rfl (by first | exact .inl rfl | exact .inr rfl)) (dss_cons (ds_asg (de_tup (da_cons (de_fL 1 H_law_columns (hr.mono (by decide)) rfl tk (pv 1) (da_cons (de_op op_addA rd_add de_int (de_fL 1 H_law_draw (hr.mono (by decide)) rfl tk (pv 1) (da_cons de_int da_nil))) da_nil)) (da_cons (de_fL 1 H_law_texts (hr.mono (by decide)) rfl tk (pv 1) (da_cons de_int da_nil)) da_nil))) (dg_tup rfl (dgs_cons (dg_name 3 nd rfl (by first | exact .inl rfl | exact .inr rfl)) (dgs_cons (dg_name 4 nd rfl (by first | exact .inl rfl | exact .inr rfl)) dgs_nil))))
    (dss_cons (ds_setLcF 5 (own := [("_law_k", 14)]) rfl nd rfl rfl rfl (dic_of (di_range1 rfl (G.n "range" (by decide)) (da_cons de_int da_nil))) (blkOk_by (show blkC ["_law_script", "_law_deal_here", "_law_turn", "_law_names", "_law_some", "_law_told", "_law_made_here", "_law_one", "_law_step", "_law_given", "_law_inner", "_law_pick_here", "_law_join", "_law_stack", "_law_k", "_law_other", "_law_third", "_law_thing"] (defScope s_law) _ _ = true from by decide +kernel)) (by decide) (fun s H C cl fp => (dg_name 14 nd rfl (by first | exact .inl rfl | exact .inr rfl))) (fun s H C cl fp => dts_nil) (fun s H C cl fp => (de_fL 1 H_law_drawn (hr.mono (by decide)) rfl DL.takes0 (pv 1) (da_cons (de_var 3) (da_cons (de_var 4) (da_cons de_int da_nil))))))
    (dss_cons (ds_setLcF 6 (own := [("_law_one", 7)]) rfl nd rfl rfl rfl (dic_of (di_seq (de_var 5))) (blkOk_by (show blkC ["_law_script", "_law_deal_here", "_law_turn", "_law_names", "_law_some", "_law_told", "_law_made_here", "_law_one", "_law_step", "_law_given", "_law_inner", "_law_pick_here", "_law_join", "_law_stack", "_law_k", "_law_other", "_law_third", "_law_thing"] (defScope s_law) _ _ = true from by decide +kernel)) (by decide) (fun s H C cl fp => (dg_name 7 nd rfl (by first | exact .inl rfl | exact .inr rfl))) (fun s H C cl fp => dts_nil) (fun s H C cl fp => (de_f H_law_made (hr.mono (by decide)) rfl DL.takes0 (da_cons (de_var 7) da_nil))))
    (dss_cons (ds_for (passes_of rfl) rfl (di_zipK rfl (G.n "zip" (by decide)) (da_cons (de_var 5) (da_cons (de_var 6) da_nil))) (dg_tup rfl (dgs_cons (dg_name 7 nd rfl (by first | exact .inl rfl | exact .inr rfl)) (dgs_cons (dg_name 8 nd rfl (by first | exact .inl rfl | exact .inr rfl)) dgs_nil))) (dss_cons (ds_if (DW.dt (dw_or (dt_not (dt_truth (de_callB call_isi cd_isi rfl (G.n "isinstance" (by decide)) (by decide +kernel) (da_cons (de_var 8) (da_cons (de_glob (v := .ref (He.ga K "Step")) rfl (G.g "Step" (by decide)) rfl (fun _ => .fx _)) da_nil))))) (dw_or (dt_cmp op_ne rd_neS (de_strO M (hr.mono (by omega)) rfl (G.n "str" (by decide)) (da_cons (de_var 8) da_nil)) (de_f H_law_text_of (hr.mono (by decide)) rfl tk (da_cons (de_var 7) da_nil)) (nomark _)) (dw_or1 (dt_not (dt_truth (de_f H_law_is_kept (hr.mono (by decide)) rfl tk (da_cons (de_var 8) (da_cons (de_var 7) da_nil))))))))) (dss_one ds_never) dss_nil)
    (dss_cons (ds_if (dt_cmp (op_neL hu) rd_neL (de_lcF (own := [("_law_thing", 17)]) rfl nd (dic_of (di_seq (de_tup (da_cons de_non (da_cons (de_strO M (hr.mono (by omega)) rfl (G.n "str" (by decide)) (da_cons (de_var 8) da_nil)) (da_cons (de_var 7) (da_cons de_int da_nil))))))) (blkOk_by (show blkC ["_law_script", "_law_deal_here", "_law_turn", "_law_names", "_law_some", "_law_told", "_law_made_here", "_law_one", "_law_step", "_law_given", "_law_inner", "_law_pick_here", "_law_join", "_law_stack", "_law_k", "_law_other", "_law_third", "_law_thing"] (defScope s_law) _ _ = true from by decide +kernel)) (by decide) (fun s H C cl fp => (dg_name 17 nd rfl (by first | exact .inl rfl | exact .inr rfl))) (fun s H C cl fp => (dts_one (DW.dt (dw_or (dt_cmp (op_eqO (k := 10) (hr.mono (by decide))) (rd_eqO ME) (de_var 8) (de_var 17) (nomark _)) (dw_or1 (dt_not (dt_cmp (op_neO (k := 10) (hr.mono (by decide))) (rd_neO ME hNe) (de_var 8) (de_var 17) (nomark _)))))))) (fun s H C cl fp => (de_var 17))) (de_lst da_nil) (nomark _)) (dss_one ds_never) dss_nil)
    (dss_one (ds_for (passes_of rfl) rfl (di_zipK rfl (G.n "zip" (by decide)) (da_cons (de_var 5) (da_cons (de_var 6) da_nil))) (dg_tup rfl (dgs_cons (dg_name 15 nd rfl (by first | exact .inl rfl | exact .inr rfl)) (dgs_cons (dg_name 16 nd rfl (by first | exact .inl rfl | exact .inr rfl)) dgs_nil))) (dss_one (ds_if (DW.dt (dw_or (dt_cmp (op_neD hu) rd_ne (de_cmp (op_eqO (k := 10) (hr.mono (by decide))) (rd_eqO ME) (de_var 8) (de_var 16) (nomark _)) (de_cmp op_eq rd_eqS (de_f H_law_text_of (hr.mono (by decide)) rfl tk (da_cons (de_var 7) da_nil)) (de_f H_law_text_of (hr.mono (by decide)) rfl tk (da_cons (de_var 15) da_nil)) (nomark _)) (nomark _)) (dw_or1 (dt_cmp (op_eqD hu) rd_eq (de_cmp (op_neO (k := 10) (hr.mono (by decide))) (rd_neO ME hNe) (de_var 8) (de_var 16) (nomark _)) (de_cmp (op_eqO (k := 10) (hr.mono (by decide))) (rd_eqO ME) (de_var 8) (de_var 16) (nomark _)) (nomark _))))) (dss_one ds_never) dss_nil)))))))
    (dss_cons (ds_parOO 9 10 rfl nd rfl rfl (by decide) rfl rfl (oe_cat (de_var 3) (de_lst da_nil)) (oe_lst (da_cons (de_mk H_Has (hr.mono (by decide)) rfl tk (da_cons (de_ix (de_var 3) de_int (fun _ _ => rfl)) da_nil)) da_nil)))
    (dss_cons (ds_par3 11 12 13 rfl nd rfl rfl rfl (by decide) (by decide) (by decide) rfl rfl rfl (da_cons (de_lend 9 (de_mk H_Pick (hr.mono (by decide)) rfl tk (da_cons (de_var 9) da_nil))) (da_cons (de_lend 9 (de_lend 10 (de_mk H_Join (hr.mono (by decide)) rfl tk (da_cons (de_sl (de_var 9) do_none (do_some de_int)) (da_cons (de_var 10) da_nil))))) (da_cons (de_lend 10 (de_mk H_Stack (hr.mono (by decide)) rfl tk (da_cons (de_var 10) da_nil))) da_nil))))
    (dss_cons (ds_revO 9 (pv 9))
    (dss_cons (ds_appO 10 (pv 10) de_int)
    (dss_cons (ds_if (DW.dt (dw_or (dt_cmp (op_neD hu) rd_ne (de_fld (de_var 11)) (de_callTy call_tuple_of cd_tuple rfl (G.n "tuple" (by decide)) (by decide +kernel) (da_cons (de_var 3) da_nil)) (nomark _)) (dw_or1 (dt_cmp op_ne rd_neS (de_strO M (hr.mono (by omega)) rfl (G.n "str" (by decide)) (da_cons (de_var 12) da_nil)) (de_op op_addA rd_add (de_op op_addA rd_add (de_op op_addA rd_add (de_op op_addA rd_add de_str (de_ix (de_var 3) de_int (fun _ _ => rfl))) de_str) (de_ix (de_var 3) de_int (fun _ _ => rfl))) de_str) (nomark _))))) (dss_one ds_never) dss_nil)
    (dss_one (ds_if (DW.dt (dw_or (dt_cmp op_ne rd_neS (de_callB call_len cd_len rfl (G.n "len" (by decide)) (by decide +kernel) (da_cons (de_fld (de_var 13)) da_nil)) de_int (nomark _)) (dw_or1 (dt_cmp op_ne rd_neS (de_strO M (hr.mono (by omega)) rfl (G.n "str" (by decide)) (da_cons (de_var 13) da_nil)) (de_op op_addA rd_add (de_op op_addA rd_add de_str (de_ix (de_var 3) de_int (fun _ _ => rfl))) de_str) (nomark _))))) (dss_one ds_never) dss_nil))))))))))))
    (dss_one (ds_ret (de_and (de_cmp op_eq rd_eqS (de_strO M (hr.mono (by omega)) rfl (G.n "str" (by decide)) (da_cons (de_mk H_Join (hr.mono (by decide)) rfl tk (da_cons (de_lst da_nil) (da_cons (de_tup da_nil) da_nil))) da_nil)) de_str (nomark _)) (de_one (de_cmp op_eq rd_eqS (de_strO M (hr.mono (by omega)) rfl (G.n "str" (by decide)) (da_cons (de_mk H_Pivot (hr.mono (by decide)) rfl tk (da_cons (de_tup da_nil) (da_cons de_str (da_cons de_str (da_cons (de_lst (da_cons de_str da_nil)) da_nil))))) da_nil)) de_str (nomark _))))))))) (And.intro ?_ ?_)
  · intro ns hl
    refine ms_at (e := [.dat (.scr (intsD ns)), .un, .un, .un, .un, .un, .un, .un, .un, .un, .un, .un, .un, .un, .un, .un, .un, .un]) rfl ?_
    dsimp only [msRet, msRetN, msSeq, msIf, msNext, msExpr, msSet, mtAnd, mtOr, mtNot, mTru, mB, mCB, mCall, maCons, maNil, mVar, mC, mOp, mChain, mIf, mAndV, mOrV, mNotV, mLst, mTup, mMS, gI0, gLen, gEq, gNe, gEqS, gNeS, gIn, gAll, gStrip, truD, start0, dn, mLc, miS, mgName, wipeD, mYes, lcD, List.map_cons, List.map_nil, List.replicate, List.cons_append, List.nil_append, List.getElem?_cons_zero, List.getElem?_cons_succ, List.getElem?_nil, List.append_nil, gLe, gLt, Bool.not_true, Bool.not_false, Bool.false_eq_true, reduceIte, mJoined, mJs, mFmt, maStar, gJoin, mFld, moSome, mSl, gIx, z5, mCallL, miZ, gEqL, gNeL, mIsiT, moNone, gSl, miR1, gAdd, List.set_cons_zero, List.set_cons_succ, decide_true, eq_self, mMake, gRep, gInt, msFor, gAbs, mRev, gGe, gMod, gPow, gI, msPub, mLend, msParOO, msAppPop, msAppO, gDraw, msPar, msPar3, msAsg, mgTup, mgCons, mgNil, DL.gSub, mNeg, gMin, gSl, miEnum, gTuple, gList, miS, mAndV, mOrV, moSome, moNone, mSl, moCat, msParOO, msRevO, msAppO, mLend, msFor, miZipK, msOwn, gTexts, gColumns, gMade, gTextOf, gKept, gDrawn, gDeal]
    exact ⟨rfl, ns, hl, rfl, fun ms m h1 h2 h3 h4 => ⟨rfl, ms, m, h1, h2, h3, h4, rfl⟩⟩
  · refine ms_at (e := [.un, .deal, .un, .un, .un, .un, .un, .un, .un, .un, .un, .un, .un, .un, .un, .un, .un, .un]) rfl ?_
    refine seq_go fun R0 hR0 => ?_
    refine ⟨by decide, by decide, ?_⟩
    refine forD_inv (fun δ => ∃ s2 s3 s4 s5 s6 s7 s8 s9 s10 s11 s12 s13 s14 s15 s16 s17, δ = [.un, .deal, s2, s3, s4, s5, s6, s7, s8, s9, s10, s11, s12, s13, s14, s15, s16, s17]) _ _ (fun d hd δ i k1 q1 => ?_) ⟨_, _, _, _, _, _, _, _, _, _, _, _, _, _, _, _, rfl⟩ (fun δ i => hR0 _ ?_)
    · obtain ⟨s2, s3, s4, s5, s6, s7, s8, s9, s10, s11, s12, s13, s14, s15, s16, s17, rfl⟩ := i
      refine ms_at (e := [.un, .deal, .dat d, s3, s4, s5, s6, s7, s8, s9, s10, s11, s12, s13, s14, s15, s16, s17]) rfl ?_
      refine seq_go fun R hR => ?_
      dsimp only [msRet, msRetN, msSeq, msIf, msNext, msExpr, msSet, mtAnd, mtOr, mtNot, mTru, mB, mCB, mCall, maCons, maNil, mVar, mC, mOp, mChain, mIf, mAndV, mOrV, mNotV, mLst, mTup, mMS, gI0, gLen, gEq, gNe, gEqS, gNeS, gIn, gAll, gStrip, truD, start0, dn, mLc, miS, mgName, wipeD, mYes, lcD, List.map_cons, List.map_nil, List.replicate, List.cons_append, List.nil_append, List.getElem?_cons_zero, List.getElem?_cons_succ, List.getElem?_nil, List.append_nil, gLe, gLt, Bool.not_true, Bool.not_false, Bool.false_eq_true, reduceIte, mJoined, mJs, mFmt, maStar, gJoin, mFld, moSome, mSl, gIx, z5, mCallL, miZ, gEqL, gNeL, mIsiT, moNone, gSl, miR1, gAdd, List.set_cons_zero, List.set_cons_succ, decide_true, eq_self, mMake, gRep, gInt, msFor, gAbs, mRev, gGe, gMod, gPow, gI, msPub, mLend, msParOO, msAppPop, msAppO, gDraw, msPar, msPar3, msAsg, mgTup, mgCons, mgNil, DL.gSub, mNeg, gMin, gSl, miEnum, gTuple, gList, miS, mAndV, mOrV, moSome, moNone, mSl, moCat, msParOO, msRevO, msAppO, mLend, msFor, miZipK, msOwn, gTexts, gColumns, gMade, gTextOf, gKept, gDrawn, gDeal]
      refine ⟨trivial, trivial, rfl, 4, rfl, by decide, by decide, fun r r0 r1 => ⟨rfl, 2 + r, rfl, by omega, by omega, fun cs hcs => ⟨trivial, rfl, rfl, fun ts hT => ⟨(show 2 ≤ sizeLine from by decide), rfl, hR _ ?_⟩⟩⟩⟩
      clear hR
      have hC : Cols 2 cs := ⟨by have := hcs.1; omega, by have := hcs.1; omega, hcs.2.1, hcs.2.2⟩
      refine ms_at (e := [.un, .deal, .dat d, .dat (strsL cs), .dat (strsL ts), s5, s6, s7, s8, s9, s10, s11, s12, s13, s14, s15, s16, s17]) rfl ?_
      refine seq_go fun R hR => ?_
      dsimp only [msRet, msRetN, msSeq, msIf, msNext, msExpr, msSet, mtAnd, mtOr, mtNot, mTru, mB, mCB, mCall, maCons, maNil, mVar, mC, mOp, mChain, mIf, mAndV, mOrV, mNotV, mLst, mTup, mMS, gI0, gLen, gEq, gNe, gEqS, gNeS, gIn, gAll, gStrip, truD, start0, dn, mLc, miS, mgName, wipeD, mYes, lcD, List.map_cons, List.map_nil, List.replicate, List.cons_append, List.nil_append, List.getElem?_cons_zero, List.getElem?_cons_succ, List.getElem?_nil, List.append_nil, gLe, gLt, Bool.not_true, Bool.not_false, Bool.false_eq_true, reduceIte, mJoined, mJs, mFmt, maStar, gJoin, mFld, moSome, mSl, gIx, z5, mCallL, miZ, gEqL, gNeL, mIsiT, moNone, gSl, miR1, gAdd, List.set_cons_zero, List.set_cons_succ, decide_true, eq_self, mMake, gRep, gInt, msFor, gAbs, mRev, gGe, gMod, gPow, gI, msPub, mLend, msParOO, msAppPop, msAppO, gDraw, msPar, msPar3, msAsg, mgTup, mgCons, mgNil, DL.gSub, mNeg, gMin, gSl, miEnum, gTuple, gList, miS, mAndV, mOrV, moSome, moNone, mSl, moCat, msParOO, msRevO, msAppO, mLend, msFor, miZipK, msOwn, gTexts, gColumns, gMade, gTextOf, gKept, gDrawn, gDeal]
      refine ⟨by decide, by decide, (show 6 < sizeLine from by decide), ?_⟩
      refine lcD_any (R := fun _ e => ∃ s, okS 2 s ∧ e = toldD s) _ _ (fun y hy F' q => ⟨trivial, rfl, cs, ts, rfl, hC, hT, fun s hs => q _ ⟨s, hs, rfl⟩⟩) (fun es h2 => ?_)
      obtain ⟨ss, rfl, l6, hss⟩ := all2_told _ es h2
      have l6 : ss.length = 6 := l6
      rw [List.nil_append]
      refine hR _ ?_
      clear hR
      refine seq_go fun R hR => ?_
      dsimp only [msRet, msRetN, msSeq, msIf, msNext, msExpr, msSet, mtAnd, mtOr, mtNot, mTru, mB, mCB, mCall, maCons, maNil, mVar, mC, mOp, mChain, mIf, mAndV, mOrV, mNotV, mLst, mTup, mMS, gI0, gLen, gEq, gNe, gEqS, gNeS, gIn, gAll, gStrip, truD, start0, dn, mLc, miS, mgName, wipeD, mYes, lcD, List.map_cons, List.map_nil, List.replicate, List.cons_append, List.nil_append, List.getElem?_cons_zero, List.getElem?_cons_succ, List.getElem?_nil, List.append_nil, gLe, gLt, Bool.not_true, Bool.not_false, Bool.false_eq_true, reduceIte, mJoined, mJs, mFmt, maStar, gJoin, mFld, moSome, mSl, gIx, z5, mCallL, miZ, gEqL, gNeL, mIsiT, moNone, gSl, miR1, gAdd, List.set_cons_zero, List.set_cons_succ, decide_true, eq_self, mMake, gRep, gInt, msFor, gAbs, mRev, gGe, gMod, gPow, gI, msPub, mLend, msParOO, msAppPop, msAppO, gDraw, msPar, msPar3, msAsg, mgTup, mgCons, mgNil, DL.gSub, mNeg, gMin, gSl, miEnum, gTuple, gList, miS, mAndV, mOrV, moSome, moNone, mSl, moCat, msParOO, msRevO, msAppO, mLend, msFor, miZipK, msOwn, gTexts, gColumns, gMade, gTextOf, gKept, gDrawn, gDeal]
      refine ⟨_, rfl, made_few (by omega) _, ?_⟩
      refine lcD_mapA toldD (objD K) ss [] (fun s hs F2 q => ⟨rfl, s, rfl, hss s hs, q⟩) ?_
      rw [List.nil_append]
      refine hR _ ?_
      clear hR
      refine seq_go fun R hR => ?_
      refine ms_at (e := [.un, .deal, .dat d, .dat (strsL cs), .dat (strsL ts), .dat (.lst (ss.map toldD)), .dat (.lst (ss.map (objD K))), s7, s8, s9, s10, s11, s12, s13, s14, s15, s16, s17]) rfl ?_
      show forD _ _ (List.zipWith (fun a b => D.tup [a, b]) (ss.map toldD) (ss.map (objD K))) _ _
      rw [zip_steps]
      refine forD_inv (fun δ => ∃ x7 x8 x15 x16 x17, δ = [.un, .deal, .dat d, .dat (strsL cs), .dat (strsL ts), .dat (.lst (ss.map toldD)), .dat (.lst (ss.map (objD K))), x7, x8, s9, s10, s11, s12, s13, s14, x15, x16, x17]) _ _ (fun y hy δ j k2 q2 => ?_) ⟨_, _, _, _, _, rfl⟩ (fun δ j => ?_)
      · obtain ⟨x7, x8, x15, x16, x17, rfl⟩ := j
        obtain ⟨s, hs, rfl⟩ := List.mem_map.mp hy
        have ho := hss s hs
        refine ⟨rfl, mg2 ?_⟩
        refine ms_at (e := [.un, .deal, .dat d, .dat (strsL cs), .dat (strsL ts), .dat (.lst (ss.map toldD)), .dat (.lst (ss.map (objD K))), .dat (toldD s), .dat (objD K s), s9, s10, s11, s12, s13, s14, x15, x16, x17]) rfl ?_
        clear hR
        refine seq_go fun R hR => ?_
        dsimp only [msRet, msRetN, msSeq, msIf, msNext, msExpr, msSet, mtAnd, mtOr, mtNot, mTru, mB, mCB, mCall, maCons, maNil, mVar, mC, mOp, mChain, mIf, mAndV, mOrV, mNotV, mLst, mTup, mMS, gI0, gLen, gEq, gNe, gEqS, gNeS, gIn, gAll, gStrip, truD, start0, dn, mLc, miS, mgName, wipeD, mYes, lcD, List.map_cons, List.map_nil, List.replicate, List.cons_append, List.nil_append, List.getElem?_cons_zero, List.getElem?_cons_succ, List.getElem?_nil, List.append_nil, gLe, gLt, Bool.not_true, Bool.not_false, Bool.false_eq_true, reduceIte, mJoined, mJs, mFmt, maStar, gJoin, mFld, moSome, mSl, gIx, z5, mCallL, miZ, gEqL, gNeL, mIsiT, moNone, gSl, miR1, gAdd, List.set_cons_zero, List.set_cons_succ, decide_true, eq_self, mMake, gRep, gInt, msFor, gAbs, mRev, gGe, gMod, gPow, gI, msPub, mLend, msParOO, msAppPop, msAppO, gDraw, msPar, msPar3, msAsg, mgTup, mgCons, mgNil, DL.gSub, mNeg, gMin, gSl, miEnum, gTuple, gList, miS, mAndV, mOrV, moSome, moNone, mSl, moCat, msParOO, msRevO, msAppO, mLend, msFor, miZipK, msOwn, gTexts, gColumns, gMade, gTextOf, gKept, gDrawn, gDeal]
        obtain ⟨t, ht1, ht2⟩ := kn_stp x s
        refine ⟨t, _, true, .own _, ht1, ht2, ?_⟩
        refine iteF ?_
        refine str_goal x ho ?_
        refine ⟨rfl, s, rfl, ho, ?_⟩
        refine goN (fun z => absurd rfl z) (fun _ => ?_)
        refine ⟨rfl, s, rfl, ho, ?_⟩
        refine iteF (hR _ ?_)
        clear hR
        refine seq_go fun R hR => ?_
        dsimp only [msRet, msRetN, msSeq, msIf, msNext, msExpr, msSet, mtAnd, mtOr, mtNot, mTru, mB, mCB, mCall, maCons, maNil, mVar, mC, mOp, mChain, mIf, mAndV, mOrV, mNotV, mLst, mTup, mMS, gI0, gLen, gEq, gNe, gEqS, gNeS, gIn, gAll, gStrip, truD, start0, dn, mLc, miS, mgName, wipeD, mYes, lcD, List.map_cons, List.map_nil, List.replicate, List.cons_append, List.nil_append, List.getElem?_cons_zero, List.getElem?_cons_succ, List.getElem?_nil, List.append_nil, gLe, gLt, Bool.not_true, Bool.not_false, Bool.false_eq_true, reduceIte, mJoined, mJs, mFmt, maStar, gJoin, mFld, moSome, mSl, gIx, z5, mCallL, miZ, gEqL, gNeL, mIsiT, moNone, gSl, miR1, gAdd, List.set_cons_zero, List.set_cons_succ, decide_true, eq_self, mMake, gRep, gInt, msFor, gAbs, mRev, gGe, gMod, gPow, gI, msPub, mLend, msParOO, msAppPop, msAppO, gDraw, msPar, msPar3, msAsg, mgTup, mgCons, mgNil, DL.gSub, mNeg, gMin, gSl, miEnum, gTuple, gList, miS, mAndV, mOrV, moSome, moNone, mSl, moCat, msParOO, msRevO, msAppO, mLend, msFor, miZipK, msOwn, gTexts, gColumns, gMade, gTextOf, gKept, gDrawn, gDeal]
        refine str_goal x ho ?_
        obtain ⟨tds, etd⟩ := told_tup s
        refine ⟨(show 4 ≤ sizeLine from by decide), _, rfl, (show 4 < sizeLine from by decide), ?_⟩
        refine lcD_gen (g := fun e => [.un, .deal, .dat d, .dat (strsL cs), .dat (strsL ts), .dat (.lst (ss.map toldD)), .dat (.lst (ss.map (objD K))), .dat (toldD s), .dat (objD K s), s9, s10, s11, s12, s13, s14, x15, x16, .dat e]) (p := fun _ => false) (f := id) _ [] (fun e he => ⟨fun F' q => q, fun F' q => ?_, fun z => nomatch z⟩) ?_
        · have hE : ∃ T, tyT e = some T ∧ T ∈ tys4 := by
            rcases List.mem_cons.mp he with rfl | he
            · exact ⟨_, rfl, by decide⟩
            rcases List.mem_cons.mp he with rfl | he
            · exact ⟨_, rfl, by decide⟩
            rcases List.mem_cons.mp he with rfl | he
            · rw [etd]
              exact ⟨_, rfl, by decide⟩
            cases List.mem_singleton.mp he
            exact ⟨_, rfl, by decide⟩
          obtain ⟨T, hT1, hT2⟩ := hE
          obtain ⟨a1, a2, a3⟩ := not_eq (s := s) x hT1 hT2
          dsimp only [msRet, msRetN, msSeq, msIf, msNext, msExpr, msSet, mtAnd, mtOr, mtNot, mTru, mB, mCB, mCall, maCons, maNil, mVar, mC, mOp, mChain, mIf, mAndV, mOrV, mNotV, mLst, mTup, mMS, gI0, gLen, gEq, gNe, gEqS, gNeS, gIn, gAll, gStrip, truD, start0, dn, mLc, miS, mgName, wipeD, mYes, lcD, List.map_cons, List.map_nil, List.replicate, List.cons_append, List.nil_append, List.getElem?_cons_zero, List.getElem?_cons_succ, List.getElem?_nil, List.append_nil, gLe, gLt, Bool.not_true, Bool.not_false, Bool.false_eq_true, reduceIte, mJoined, mJs, mFmt, maStar, gJoin, mFld, moSome, mSl, gIx, z5, mCallL, miZ, gEqL, gNeL, mIsiT, moNone, gSl, miR1, gAdd, List.set_cons_zero, List.set_cons_succ, decide_true, eq_self, mMake, gRep, gInt, msFor, gAbs, mRev, gGe, gMod, gPow, gI, msPub, mLend, msParOO, msAppPop, msAppO, gDraw, msPar, msPar3, msAsg, mgTup, mgCons, mgNil, DL.gSub, mNeg, gMin, gSl, miEnum, gTuple, gList, miS, mAndV, mOrV, moSome, moNone, mSl, moCat, msParOO, msRevO, msAppO, mLend, msFor, miZipK, msOwn, gTexts, gColumns, gMade, gTextOf, gKept, gDrawn, gDeal]
          refine eq_goal x ho a1 a2 a3 ?_
          refine iteF ?_
          exact ne_goal x ho a1 a2 a3 q
        rw [List.filter_eq_nil_iff.mpr (fun _ _ => by decide)]
        refine ⟨Nat.zero_le _, ?_⟩
        refine iteF (hR _ ?_)
        clear hR
        show forD _ _ (List.zipWith (fun a b => D.tup [a, b]) (ss.map toldD) (ss.map (objD K))) _ _
        rw [zip_steps]
        refine forD_inv (fun δ => ∃ x15 x16 x17, δ = [.un, .deal, .dat d, .dat (strsL cs), .dat (strsL ts), .dat (.lst (ss.map toldD)), .dat (.lst (ss.map (objD K))), .dat (toldD s), .dat (objD K s), s9, s10, s11, s12, s13, s14, x15, x16, x17]) _ _ (fun y hy δ j k3 q3 => ?_) ⟨_, _, _, rfl⟩ (fun δ j => ?_)
        · obtain ⟨x15, x16, x17, rfl⟩ := j
          obtain ⟨u, hu', rfl⟩ := List.mem_map.mp hy
          have ho2 := hss u hu'
          refine ⟨rfl, mg2 ?_⟩
          refine ms_at (e := [.un, .deal, .dat d, .dat (strsL cs), .dat (strsL ts), .dat (.lst (ss.map toldD)), .dat (.lst (ss.map (objD K))), .dat (toldD s), .dat (objD K s), s9, s10, s11, s12, s13, s14, .dat (toldD u), .dat (objD K u), x17]) rfl ?_
          obtain ⟨a1, a2, a3⟩ := is_obj x s u ho2
          rw [eq_text] at a3
          dsimp only [msRet, msRetN, msSeq, msIf, msNext, msExpr, msSet, mtAnd, mtOr, mtNot, mTru, mB, mCB, mCall, maCons, maNil, mVar, mC, mOp, mChain, mIf, mAndV, mOrV, mNotV, mLst, mTup, mMS, gI0, gLen, gEq, gNe, gEqS, gNeS, gIn, gAll, gStrip, truD, start0, dn, mLc, miS, mgName, wipeD, mYes, lcD, List.map_cons, List.map_nil, List.replicate, List.cons_append, List.nil_append, List.getElem?_cons_zero, List.getElem?_cons_succ, List.getElem?_nil, List.append_nil, gLe, gLt, Bool.not_true, Bool.not_false, Bool.false_eq_true, reduceIte, mJoined, mJs, mFmt, maStar, gJoin, mFld, moSome, mSl, gIx, z5, mCallL, miZ, gEqL, gNeL, mIsiT, moNone, gSl, miR1, gAdd, List.set_cons_zero, List.set_cons_succ, decide_true, eq_self, mMake, gRep, gInt, msFor, gAbs, mRev, gGe, gMod, gPow, gI, msPub, mLend, msParOO, msAppPop, msAppO, gDraw, msPar, msPar3, msAsg, mgTup, mgCons, mgNil, DL.gSub, mNeg, gMin, gSl, miEnum, gTuple, gList, miS, mAndV, mOrV, moSome, moNone, mSl, moCat, msParOO, msRevO, msAppO, mLend, msFor, miZipK, msOwn, gTexts, gColumns, gMade, gTextOf, gKept, gDrawn, gDeal]
          refine eq_goal x ho a1 a2 a3 ?_
          refine ⟨rfl, s, rfl, ho, rfl, u, rfl, ho2, ?_⟩
          refine ⟨rfl, rfl, ?_⟩
          rw [show eqD (D.bl (decide (textS s = textS u))) (D.bl (decide (textS s = textS u))) = true from eq_bl _]
          refine iteF ?_
          refine ne_goal x ho a1 a2 a3 ?_
          refine eq_goal x ho a1 a2 a3 ?_
          refine ⟨rfl, rfl, ?_⟩
          rw [show eqD (D.bl (!decide (textS s = textS u))) (D.bl (decide (textS s = textS u))) = false from eq_nbl _]
          exact iteF (q3 _ ⟨_, _, _, rfl⟩)
        · obtain ⟨x15, x16, x17, rfl⟩ := j
          exact q2 _ ⟨_, _, _, _, _, rfl⟩
      · obtain ⟨x7, x8, x15, x16, x17, rfl⟩ := j
        refine hR _ ?_
        clear hR
        obtain ⟨c0, cr, ec⟩ := one_of (l := cs) (by have := hC.lo; omega)
        have n0 : Nm c0 := nmC (hC.pool _ (by rw [ec]; exact List.mem_cons_self ..))
        have a0 : L2.atI (cs.map D.str) 0 = some (.str c0) := by rw [ec]; exact s_at0
        have c1 : DL.cutD (cs.map D.str) none (some 1) = [D.str c0] := by rw [cut_strs _ (by decide), ec]; rfl
        have nC : Nms 1 cs := hC.nms (by have := hC.lo; omega)
        have oH : okS 1 (.has c0) := n0
        have oJ : okS 2 (.join [c0] [.has c0]) := ⟨nms_one n0 (by decide), (by show 1 ≤ 6; decide), fa1 oH⟩
        have oS : okS 2 (.stack [.has c0]) := ⟨(by show 1 ≤ 6; decide), fa1 oH⟩
        refine seq_go fun R hR => ?_
        dsimp only [strsL, msRet, msRetN, msSeq, msIf, msNext, msExpr, msSet, mtAnd, mtOr, mtNot, mTru, mB, mCB, mCall, maCons, maNil, mVar, mC, mOp, mChain, mIf, mAndV, mOrV, mNotV, mLst, mTup, mMS, gI0, gLen, gEq, gNe, gEqS, gNeS, gIn, gAll, gStrip, truD, start0, dn, mLc, miS, mgName, wipeD, mYes, lcD, List.map_cons, List.map_nil, List.replicate, List.cons_append, List.nil_append, List.getElem?_cons_zero, List.getElem?_cons_succ, List.getElem?_nil, List.append_nil, gLe, gLt, Bool.not_true, Bool.not_false, Bool.false_eq_true, reduceIte, mJoined, mJs, mFmt, maStar, gJoin, mFld, moSome, mSl, gIx, z5, mCallL, miZ, gEqL, gNeL, mIsiT, moNone, gSl, miR1, gAdd, List.set_cons_zero, List.set_cons_succ, decide_true, eq_self, mMake, gRep, gInt, msFor, gAbs, mRev, gGe, gMod, gPow, gI, msPub, mLend, msParOO, msAppPop, msAppO, gDraw, msPar, msPar3, msAsg, mgTup, mgCons, mgNil, DL.gSub, mNeg, gMin, gSl, miEnum, gTuple, gList, miS, mAndV, mOrV, moSome, moNone, mSl, moCat, msParOO, msRevO, msAppO, mLend, msFor, miZipK, msOwn, gTexts, gColumns, gMade, gTextOf, gKept, gDrawn, gDeal]
        refine ⟨Nat.zero_le _, ?_, ?_⟩
        · rw [List.length_map]
          exact Nat.le_trans hC.hi (by decide)
        refine ⟨_, a0, rfl, _, rfl, v2_nm n0, n0.1, ?_⟩
        refine ⟨(show 1 ≤ sizeLine from by decide), hR _ ?_⟩
        clear hR
        refine ms_at (e := [.un, .deal, .dat d, .dat (.lst (cs.map .str)), .dat (.lst (ts.map .str)), .dat (.lst (ss.map toldD)), .dat (.lst (ss.map (objD K))), x7, x8, .own (cs.map .str), .own [objD K (.has c0)], s11, s12, s13, s14, x15, x16, x17]) (by rw [List.append_nil]; rfl) ?_
        refine seq_go fun R hR => ?_
        dsimp only [msRet, msRetN, msSeq, msIf, msNext, msExpr, msSet, mtAnd, mtOr, mtNot, mTru, mB, mCB, mCall, maCons, maNil, mVar, mC, mOp, mChain, mIf, mAndV, mOrV, mNotV, mLst, mTup, mMS, gI0, gLen, gEq, gNe, gEqS, gNeS, gIn, gAll, gStrip, truD, start0, dn, mLc, miS, mgName, wipeD, mYes, lcD, List.map_cons, List.map_nil, List.replicate, List.cons_append, List.nil_append, List.getElem?_cons_zero, List.getElem?_cons_succ, List.getElem?_nil, List.append_nil, gLe, gLt, Bool.not_true, Bool.not_false, Bool.false_eq_true, reduceIte, mJoined, mJs, mFmt, maStar, gJoin, mFld, moSome, mSl, gIx, z5, mCallL, miZ, gEqL, gNeL, mIsiT, moNone, gSl, miR1, gAdd, List.set_cons_zero, List.set_cons_succ, decide_true, eq_self, mMake, gRep, gInt, msFor, gAbs, mRev, gGe, gMod, gPow, gI, msPub, mLend, msParOO, msAppPop, msAppO, gDraw, msPar, msPar3, msAsg, mgTup, mgCons, mgNil, DL.gSub, mNeg, gMin, gSl, miEnum, gTuple, gList, miS, mAndV, mOrV, moSome, moNone, mSl, moCat, msParOO, msRevO, msAppO, mLend, msFor, miZipK, msOwn, gTexts, gColumns, gMade, gTextOf, gKept, gDrawn, gDeal]
        rw [c1]
        have kP := He.cls_ok (cf.facts (f := .cls "Pick") (List.mem_append_right _ (List.mem_append_right _ (by simp))))
        have nP := He.noat_ok (cf.facts (f := .noat "Pick" "columns") (List.mem_append_right _ (List.mem_append_right _ (by simp))))
        have kS := He.cls_ok (cf.facts (f := .cls "Stack") (List.mem_append_right _ (List.mem_append_right _ (by simp))))
        have nS := He.noat_ok (cf.facts (f := .noat "Stack" "steps") (List.mem_append_right _ (List.mem_append_right _ (by simp))))
        refine ⟨rfl, _, rfl, v2_nms nC, names_ok nC, noL_pick _ cs, ?_⟩
        refine ⟨rfl, _, _, rfl, v2_nms (nms_one (m := 0) n0 (by decide)), trivial, names_ok (nms_one (m := 0) n0 (by decide)), steps_ok (ss := [.has c0]) (Nat.le_of_ble_eq_true rfl), rfl, rfl, ?_⟩
        refine ⟨rfl, _, rfl, trivial, steps_ok (ss := [.has c0]) (Nat.le_of_ble_eq_true rfl), rfl, hR _ ?_⟩
        clear hR
        refine ms_at (e := [.un, .deal, .dat d, .dat (.lst (cs.map .str)), .dat (.lst (ts.map .str)), .dat (.lst (ss.map toldD)), .dat (.lst (ss.map (objD K))), x7, x8, .own (cs.map .str), .own [objD K (.has c0)], .dat (.obj (He.ga K "Pick") [("columns", .tup (cs.map .str))]), .dat (objD K (.join [c0] [.has c0])), .dat (.obj (He.ga K "Stack") [("steps", .tup [objD K (.has c0)])]), s14, x15, x16, x17]) rfl ?_
        refine seq_go fun R hR => ?_
        refine hR _ ?_
        clear hR
        refine seq_go fun R hR => ?_
        refine ⟨(show 1 < sizeLine from by decide), hR _ ?_⟩
        clear hR
        refine seq_go fun R hR => ?_
        dsimp only [msRet, msRetN, msSeq, msIf, msNext, msExpr, msSet, mtAnd, mtOr, mtNot, mTru, mB, mCB, mCall, maCons, maNil, mVar, mC, mOp, mChain, mIf, mAndV, mOrV, mNotV, mLst, mTup, mMS, gI0, gLen, gEq, gNe, gEqS, gNeS, gIn, gAll, gStrip, truD, start0, dn, mLc, miS, mgName, wipeD, mYes, lcD, List.map_cons, List.map_nil, List.replicate, List.cons_append, List.nil_append, List.getElem?_cons_zero, List.getElem?_cons_succ, List.getElem?_nil, List.append_nil, gLe, gLt, Bool.not_true, Bool.not_false, Bool.false_eq_true, reduceIte, mJoined, mJs, mFmt, maStar, gJoin, mFld, moSome, mSl, gIx, z5, mCallL, miZ, gEqL, gNeL, mIsiT, moNone, gSl, miR1, gAdd, List.set_cons_zero, List.set_cons_succ, decide_true, eq_self, mMake, gRep, gInt, msFor, gAbs, mRev, gGe, gMod, gPow, gI, msPub, mLend, msParOO, msAppPop, msAppO, gDraw, msPar, msPar3, msAsg, mgTup, mgCons, mgNil, DL.gSub, mNeg, gMin, gSl, miEnum, gTuple, gList, miS, mAndV, mOrV, moSome, moNone, mSl, moCat, msParOO, msRevO, msAppO, mLend, msFor, miZipK, msOwn, gTexts, gColumns, gMade, gTextOf, gKept, gDrawn, gDeal]
        refine ⟨kP, nP, _, rfl, plain_strs nC, plain_strs nC, ?_⟩
        rw [eq_tup (eq_strs cs)]
        refine iteF ?_
        have l4 := n0.2.1
        refine str_goal x oJ ?_
        have tj1 := text_join1 c0
        have ts1 := text_stack1 c0
        have lj : ∀ (a : Str) (n : Nat), a.length ≤ n → (a ++ c0).length ≤ n + 4 := fun a n h => by rw [Str.length_append]; omega
        have e1 : ("join " : Str).length = 5 := by decide +kernel
        have e2 : ("\nhas " : Str).length = 5 := by decide +kernel
        have e3 : ("\nend" : Str).length = 4 := by decide +kernel
        have e4 : ("stack\nhas " : Str).length = 10 := by decide +kernel
        have small : ∀ n : Nat, n ≤ 100 → n ≤ sizeLine := fun n h => Nat.le_trans h (by decide)
        refine ⟨_, a0, small _ ?_, small _ ?_, _, a0, small _ ?_, small _ ?_, ?_⟩
        · rw [e1]; omega
        · rw [Str.length_append, e1, e2]; omega
        · rw [Str.length_append, Str.length_append, e1, e2]; omega
        · rw [Str.length_append, Str.length_append, Str.length_append, e1, e2, e3]; omega
        rw [← tj1]
        refine goN (fun z => absurd rfl z) (fun _ => hR _ ?_)
        clear hR
        dsimp only [msRet, msRetN, msSeq, msIf, msNext, msExpr, msSet, mtAnd, mtOr, mtNot, mTru, mB, mCB, mCall, maCons, maNil, mVar, mC, mOp, mChain, mIf, mAndV, mOrV, mNotV, mLst, mTup, mMS, gI0, gLen, gEq, gNe, gEqS, gNeS, gIn, gAll, gStrip, truD, start0, dn, mLc, miS, mgName, wipeD, mYes, lcD, List.map_cons, List.map_nil, List.replicate, List.cons_append, List.nil_append, List.getElem?_cons_zero, List.getElem?_cons_succ, List.getElem?_nil, List.append_nil, gLe, gLt, Bool.not_true, Bool.not_false, Bool.false_eq_true, reduceIte, mJoined, mJs, mFmt, maStar, gJoin, mFld, moSome, mSl, gIx, z5, mCallL, miZ, gEqL, gNeL, mIsiT, moNone, gSl, miR1, gAdd, List.set_cons_zero, List.set_cons_succ, decide_true, eq_self, mMake, gRep, gInt, msFor, gAbs, mRev, gGe, gMod, gPow, gI, msPub, mLend, msParOO, msAppPop, msAppO, gDraw, msPar, msPar3, msAsg, mgTup, mgCons, mgNil, DL.gSub, mNeg, gMin, gSl, miEnum, gTuple, gList, miS, mAndV, mOrV, moSome, moNone, mSl, moCat, msParOO, msRevO, msAppO, mLend, msFor, miZipK, msOwn, gTexts, gColumns, gMade, gTextOf, gKept, gDrawn, gDeal]
        refine ⟨kS, nS, _, rfl, ?_⟩
        refine iteF ?_
        refine str_goal (s := .stack [.has c0]) x oS ?_
        refine ⟨_, a0, small _ ?_, small _ ?_, ?_⟩
        · rw [e4]; omega
        · rw [Str.length_append, e3, e4]; omega
        rw [← ts1]
        refine goN (fun z => absurd rfl z) (fun _ => ?_)
        exact q1 _ ⟨_, _, _, _, _, _, _, _, _, _, _, _, _, _, _, _, rfl⟩
    · obtain ⟨s2, s3, s4, s5, s6, s7, s8, s9, s10, s11, s12, s13, s14, s15, s16, s17, rfl⟩ := i
      dsimp only [msRet, msRetN, msSeq, msIf, msNext, msExpr, msSet, mtAnd, mtOr, mtNot, mTru, mB, mCB, mCall, maCons, maNil, mVar, mC, mOp, mChain, mIf, mAndV, mOrV, mNotV, mLst, mTup, mMS, gI0, gLen, gEq, gNe, gEqS, gNeS, gIn, gAll, gStrip, truD, start0, dn, mLc, miS, mgName, wipeD, mYes, lcD, List.map_cons, List.map_nil, List.replicate, List.cons_append, List.nil_append, List.getElem?_cons_zero, List.getElem?_cons_succ, List.getElem?_nil, List.append_nil, gLe, gLt, Bool.not_true, Bool.not_false, Bool.false_eq_true, reduceIte, mJoined, mJs, mFmt, maStar, gJoin, mFld, moSome, mSl, gIx, z5, mCallL, miZ, gEqL, gNeL, mIsiT, moNone, gSl, miR1, gAdd, List.set_cons_zero, List.set_cons_succ, decide_true, eq_self, mMake, gRep, gInt, msFor, gAbs, mRev, gGe, gMod, gPow, gI, msPub, mLend, msParOO, msAppPop, msAppO, gDraw, msPar, msPar3, msAsg, mgTup, mgCons, mgNil, DL.gSub, mNeg, gMin, gSl, miEnum, gTuple, gList, miS, mAndV, mOrV, moSome, moNone, mSl, moCat, msParOO, msRevO, msAppO, mLend, msFor, miZipK, msOwn, gTexts, gColumns, gMade, gTextOf, gKept, gDrawn, gDeal]
      refine ⟨Nat.zero_le _, Nat.zero_le _, rfl, _, _, rfl, v2_nms (nms_nil 0), trivial, names_ok (nms_nil 0), ⟨rfl, Nat.zero_le _, (fun _ z => nomatch z)⟩, ?_⟩
      refine str_goal (s := .join [] []) x ⟨nms_nil 0, Nat.zero_le _, (fun _ z => nomatch z)⟩ ?_
      rw [text_join0]
      dsimp only [msRet, msRetN, msSeq, msIf, msNext, msExpr, msSet, mtAnd, mtOr, mtNot, mTru, mB, mCB, mCall, maCons, maNil, mVar, mC, mOp, mChain, mIf, mAndV, mOrV, mNotV, mLst, mTup, mMS, gI0, gLen, gEq, gNe, gEqS, gNeS, gIn, gAll, gStrip, truD, start0, dn, mLc, miS, mgName, wipeD, mYes, lcD, List.map_cons, List.map_nil, List.replicate, List.cons_append, List.nil_append, List.getElem?_cons_zero, List.getElem?_cons_succ, List.getElem?_nil, List.append_nil, gLe, gLt, Bool.not_true, Bool.not_false, Bool.false_eq_true, reduceIte, mJoined, mJs, mFmt, maStar, gJoin, mFld, moSome, mSl, gIx, z5, mCallL, miZ, gEqL, gNeL, mIsiT, moNone, gSl, miR1, gAdd, List.set_cons_zero, List.set_cons_succ, decide_true, eq_self, mMake, gRep, gInt, msFor, gAbs, mRev, gGe, gMod, gPow, gI, msPub, mLend, msParOO, msAppPop, msAppO, gDraw, msPar, msPar3, msAsg, mgTup, mgCons, mgNil, DL.gSub, mNeg, gMin, gSl, miEnum, gTuple, gList, miS, mAndV, mOrV, moSome, moNone, mSl, moCat, msParOO, msRevO, msAppO, mLend, msFor, miZipK, msOwn, gTexts, gColumns, gMade, gTextOf, gKept, gDrawn, gDeal]
      rw [show decide (("join\nend" : Str) = "join\nend") = true from by decide +kernel]
      have mn : Nm "n" := nmB_ok (by decide +kernel)
      have mv : Nm "v" := nmB_ok (by decide +kernel)
      have mh : Nm "h" := nmB_ok (by decide +kernel)
      have n1 : Nms 1 ["h"] := nms_one mh (by decide)
      refine ⟨Nat.zero_le _, (show 1 ≤ sizeLine from by decide), rfl, .tup [], .str "n", .str "v", .lst [.str "h"], rfl, ⟨⟨trivial, Nat.zero_le _⟩, (fun e he => nomatch he)⟩, v2_nm mn, v2_nm mv, v2_nms n1, (by decide +kernel), mn.1, mv.1, names_ok n1, ?_⟩
      refine str_goal (s := .pivot [] "n" "v" ["h"]) x ⟨nms_nil 0, mn, mv, n1⟩ ?_
      rw [text_pivot0]
      rfl
end
end K11

set_option Elab.async false
set_option linter.all false
set_option maxRecDepth 100000
set_option maxHeartbeats 0
namespace K11
open PySem PySem.Spec PyProof.Rows L2 DL
theorem run (w : World) : HandSHeadRun.RunEq R (PySem.W.view R.prog [44]) hk ob 12000 names w := by
  intro os
  kernel_rfl
end K11

set_option Elab.async false
set_option linter.all false
set_option maxRecDepth 100000
set_option maxHeartbeats 0
namespace DL
open PySem L2 PySem.Spec PyProof.Rows
/-- a law whose defs may raise -/
theorem walk_cx {lw : PySem.W.OpenLaw} {m k : Nat} {q : Program} {lo : List Str} {XP : (Str → Option Value) → Heap → Prop} {YP : World → Heap → Prop} {d : DefRec} {x : Str} (hm : lw.most = some m) (h2 : m ≤ sizeLine) (h3 : d.params.defaults = []) (h4 : Room k callerA)
    (F : ∀ (w : World) (mg : Str → Option Value) (fa : Addr) (h : Heap), YP w h → h.Ns mainGlobals mg → mg d.name = some (.ref fa) → ∃ (K : Fg) (fd : FuncData) (sp : Sp), K.In h ∧ (∀ (s : Shared) (u : Value), BindsTo s fd ⟨[u], []⟩ [(x, u)]) ∧
        (∀ (H : Hp) (a : Addr) (ns : List Int), ns.length ≤ m → SqL K H a (ns.map V.int) → sp [.ref a] H (fun v _ => v = .bl true) fun _ _ _ => False) ∧ ∀ base : Heap, FnOk lw.prog w K mg base (L2.CX lw.prog w) k fa fd [x] sp) : PySem.W.WalkO q lo XP YP lw.row.toRowW d [] (fun f vs => PySem.call f vs) := by
  refine Att.attach_call hm h3 fun w s0 s1 mg mb fa o pm cd doc a vs ns g y ho hd hcd hmg hobj hints hlen hg => ?_
  obtain ⟨K, fd, sp, KX, hb, hsp, hF⟩ := F w mg fa _ y g.T.g hmg
  refine law_call KX g.T.g g.T.b g.T.builtins g.T.nolimit hg hobj hints (Nat.le_trans hlen h2) h4 (fun base _ _ => hF base) hb (fun H _ hS => hsp H a ns hlen hS) fun H e s' z => ?_
  obtain ⟨_, _, _, _, _, _, _, _, _, _, _, _, z⟩ := z
  exact z
end DL
namespace K11
open PySem PySem.Spec PyProof.Rows L2 DL
theorem get_glo {K : Fg} {h : Heap} {mg : Str → Option Value} (X : K.In h) (N : h.Ns mainGlobals mg) (c : He.SaysD fa fn K) : Glo K mg where
  g := fun z hz => He.glo_ok X N (c.facts (List.mem_append_left _ (List.mem_map_of_mem hz)))
  n := fun z hz => He.free_ok X N (c.facts (List.mem_append_right _ (List.mem_append_left _ (List.mem_map_of_mem hz))))
  hL := He.str_ok X N (c.facts (f := .str "LETTERS" "abcdefghijklmnopqrstuvwxyz") (List.mem_append_right _ (List.mem_append_right _ (by simp))))
  hA := He.str_ok X N (c.facts (f := .str "LETTERS_AND_DIGITS" "abcdefghijklmnopqrstuvwxyz0123456789") (List.mem_append_right _ (List.mem_append_right _ (by simp))))
  hN := He.int_ok X N (c.facts (f := .int "LONGEST_NAME" 4) (List.mem_append_right _ (List.mem_append_right _ (by simp))))
  hT := He.int_ok X N (c.facts (f := .int "LONGEST_TEXT" 6) (List.mem_append_right _ (List.mem_append_right _ (by simp))))
theorem facts {P : Program} {w : World} {K : Fg} {h : Heap} {mg : Str → Option Value} {f : Addr} (X : K.In h) (N : h.Ns mainGlobals mg) (hfa : mg ("law" : Str) = some (.ref f)) (c : He.SaysD fa fn K) (e : ex K = true) :
    ∃ fd : FuncData, (∀ (s : Shared) (v : Value), BindsTo s fd ⟨[v], []⟩ [("_law_script", v)]) ∧ ∀ base : Heap, FnOk P w K mg base (L2.CX P w) 14 f fd ["_law_script"] (spLawD K) := by
  have G := get_glo X N c
  have x := get_exf e
  obtain ⟨fd, F⟩ := c.defs (d := dfn ("law", none) "law" "law" s_law) (by unfold fn; simp)
  replace F : FunD K "law" "law" (defArgs s_law) (defBody s_law) (defScope s_law) [] [] (He.ga K "law") fd := F
  have q := hfa.symm.trans (G.g "law" (by decide))
  cases q
  have b := FunD.bindsA (ps := ["_law_script"]) F fun _ _ _ _ _ _ us hl => match us, hl with | [_], _ => rfl
  refine ⟨fd, fun s v => b s [v] rfl, fun base => ?_⟩
  have f1 : Fn P w K mg base "is_sequence" 1 1 false (gSeq K) := ok_is_sequence G c x.kls
  have f2 : Fn P w K mg base "is_word" 1 3 false (gWord K) := ok_is_word G c x.kls
  have f3 : Fn P w K mg base "is_name" 2 1 false (gName K) := ok_is_name G c f2 x.kls
  have f6 : Fn P w K mg base "is_text" 2 1 false (gText K) := ok_is_text G c f2
  have f4 : Fn P w K mg base "are_names" 3 2 false (gNames K) := ok_are_names G c f1 f3
  have f5 : Fn P w K mg base "need" 1 2 false gNeed := ok_need G c
  have f7 : Fn P w K mg base "are_steps" 2 1 false (gSteps K) := ok_are_steps G c f1 x.kls x.kst
  have m1 : Mkr P w K mg base "Pick" (He.ga K "Pick") 4 1 (gPick K) := ok_Pick_init G c f4 f5
  have m2 : Mkr P w K mg base "Rename" (He.ga K "Rename") 4 2 (gRename K) := ok_Rename_init G c f3 f5
  have m3 : Mkr P w K mg base "Has" (He.ga K "Has") 4 1 (gHas K) := ok_Has_init G c f3 f5
  have m4 : Mkr P w K mg base "Is" (He.ga K "Is") 4 2 (gIs K) := ok_Is_init G c f3 f6 f5
  have m5 : Mkr P w K mg base "Put" (He.ga K "Put") 4 2 (gPut K) := ok_Put_init G c f3 f6 f5
  have m6 : Mkr P w K mg base "Alike" (He.ga K "Alike") 4 2 (gAlike K) := ok_Alike_init G c f3 f5
  have m7 : Mkr P w K mg base "Melt" (He.ga K "Melt") 4 3 (gMelt K) := ok_Melt_init G c f4 f3 f5
  have m8 : Mkr P w K mg base "Pivot" (He.ga K "Pivot") 4 4 (gPivot K) := ok_Pivot_init G c f4 f3 f5
  have m9 : Mkr P w K mg base "Join" (He.ga K "Join") 4 2 (gJoin K) := ok_Join_init G c f4 f7 f5
  have m10 : Mkr P w K mg base "Stack" (He.ga K "Stack") 4 1 (gStack K) := ok_Stack_init G c f7 f5
  have d1 : Fn P w K mg base "_law_draw" 1 1 true gDraw := ok_law_draw G c
  have d2 : Fn P w K mg base "_law_pick" 2 1 true gOneOf := ok_law_pick G c d1
  have d3 : Fn P w K mg base "_law_mixed" 2 1 true gMixed := ok_law_mixed G c d1
  have d4 : Fn P w K mg base "_law_columns" 2 1 true gColumns := ok_law_columns G c d1
  have d5 : Fn P w K mg base "_law_texts" 2 1 true gTexts := ok_law_texts G c d1
  have d6 : Fn P w K mg base "_law_heads" 3 2 true gHeads := ok_law_heads G c d1 d3
  have d7 : Fn P w K mg base "_law_same_again" 4 3 true gSame := ok_law_same_again G c d1 d3 d2 d6
  have d8 : Fn P w K mg base "_law_other_ends" 4 4 true gEnds := ok_law_other_ends G c d1 d3 d2 d6
  have d9 : Fn P w K mg base "_law_block" 5 3 true gBlock := ok_law_block G c d1 d3 d2 d7 d8
  have d10 : Fn P w K mg base "_law_drawn" 6 3 true gDrawn := ok_law_drawn G c d1 d3 d2 d6 d9
  have up : ∀ {x : Str} {k j n : Nat} {wd : Bool} {ff : FF}, j ≤ k → Fn P w K mg base x j n wd ff → Fn P w K mg base x k n wd ff := fun {x k j n wd ff} l q => by
    obtain ⟨f, fd, ps, h1, h2, h3, h4⟩ := q
    exact ⟨f, fd, ps, h1.mono l, h2, h3, h4⟩
  have r0 : Fn P w K mg base "_law_made" 6 1 false (gMade K 0) := ok_law_made (n := 0) G c (up (by decide) (ok_law_made0 G c)) m1 m2 m3 m4 m5 m6 m7 m8 m9 m10
  have r1 : Fn P w K mg base "_law_made" 7 1 false (gMade K 1) := ok_law_made (n := 1) G c r0 m1 m2 m3 m4 m5 m6 m7 m8 m9 m10
  have r2 : Fn P w K mg base "_law_made" 8 1 false (gMade K 2) := ok_law_made (n := 2) G c r1 m1 m2 m3 m4 m5 m6 m7 m8 m9 m10
  have l0 : Fn P w K mg base "_law_lines" 6 1 false (gLines 0) := ok_law_lines (n := 0) G c (by decide) (up (by decide) (ok_law_lines0 G c))
  have l1 : Fn P w K mg base "_law_lines" 7 1 false (gLines 1) := ok_law_lines (n := 1) G c (by decide) l0
  have l2 : Fn P w K mg base "_law_lines" 8 1 false (gLines 2) := ok_law_lines (n := 2) G c (by decide) l1
  have t2 : Fn P w K mg base "_law_text_of" 9 1 false (gTextOf 2) := ok_law_text_of (n := 2) G c (by decide) l2
  have k2 : Fn P w K mg base "_law_is_kept" 12 2 false (gKept K 2) := ok_law_is_kept (n := 1) G c r1 x (eq_all G c x (n := 1) (by decide))
  exact ok_law G c x (ok_law_deal G c) d1 d4 d5 d10 r2 t2 k2 (str_all G c x 2 (by decide)) (eq_all G c x (n := 2) (by decide)) m1 m3 m9 m10 m8 F
end K11
open PySem PySem.W PySem.Calls PyProof.Rows
theorem PySem.Challenge.cw_meltback_k11_steps_and_their_texts_holds : PySem.Challenge.rw_meltback_k11_steps_and_their_texts.Holds := by
  w_on; o_law
  refine HandSHeadRun.head_any (r := K11.R) (q := view K11.R.prog [44]) (H := K11.hk) (ob := K11.ob) (M := 12000) (loose := K11.names) (d := HandSHeadRun.topDef K11.R.prog 44) (kwd := []) K11.ob_eq
    (by kernel_rfl) (fun s => by kernel_rfl) K11.run (by kernel_rfl) (by kernel_rfl) (by kernel_rfl) (by rfl) (by first | assumption | decide +kernel) (by decide +kernel) ⟨rfl, rfl, rfl, rfl, rfl, by decide +kernel⟩ ?hw ?hc
  case hw => w_witness2
  case hc =>
    refine DL.walk_cx (lw := PySem.Challenge.rw_meltback_k11_steps_and_their_texts) (m := 63) (k := 14) (x := "_law_script") rfl (by decide) (by kernel_rfl) ⟨rfl, by decide, by decide⟩ ?F
    intro w mg fa h Y N hmg0
    obtain ⟨K, KX, c⟩ := Y
    have hmg : mg ("law" : PySem.Str) = some (.ref fa) := by
      have e : (HandSHeadRun.topDef K11.R.prog 44).name = ("law" : PySem.Str) := by kernel_rfl
      rw [← e]
      exact hmg0
    obtain ⟨fd, hb, hF⟩ := K11.facts (P := (PySem.Challenge.rw_meltback_k11_steps_and_their_texts).prog) (w := w) KX N hmg c.1 c.2
    exact ⟨K, fd, DL.spLawD K, KX, hb, fun H a ns hl hS => ⟨a, ns, rfl, hl, hS, fun _ => rfl⟩, hF⟩
