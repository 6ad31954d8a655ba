import PyProof.Rows.All
import Wide.All
import OpenK.AllK
import Wide.FinOn
import KE.KStateDown
import HandS.ForMost
import HandS.Exc
import HandS.ExcOwn
import HandS.ExcInit
import HandS.TryOnly
import HandS.WordsExc
import HandS.CallSlots
import HandS.IsInst
import HandS.ExcField
import HandS.ExcIs
import HandS.Style
import HandS.Flow
import HandS.Zip
import HandS.Strs
import HandS.SetKeys
import HandS.StrMore
import HandS.Defaults
import HandS.HeadEnd
import HandS.HeadHook1
import HandS.HeadHook2
import HandS.Head0
import HandS.Head1
import HandS.Head2
import HandS.More
import HandS.Codes
import KE.KExcIs
import HandS.HeadHook3
import HandS.HeadHook4
import HandS.Iter
import PyProof.NeKinds
import HandS.TupSets
import HandS.OwnEq
import HandS.Star
import HandS.FStr
import PyProof.CallStr
import PyProof.InstEq
import PyProof.Rows.Range3
import KE.SortData
import HandS.DictComp
import KE.KDictCopyH
import KE.KDictKeyed
import KE.GoesEnum
import PyProof.StrBlock2
import HandS.ClsMeth
import PyProof.FactsLen
import KE.GoesEnumKw
import HandS.RaiseMore
import PyProof.Rows.StrSplit
import HandS.ExcBuiltin
import HandS.Small
import HandS.SetTxt0
import HandS.Property
import HandS.TupMul
import HandS.TupAny
import KE.KExcPX
import PyProof.ExcBaseAll.LookupError
import PyProof.ExcBaseAll.IndexError
import PySem.Challenge.RW_meltback_k04_rows_and_texts_in_tables
set_option Elab.async false
set_option linter.all false
set_option maxRecDepth 100000
set_option maxHeartbeats 4000000
namespace DL
open PySem L2

/-! ### data -/
inductive D where
  | non | bl (b : Bool) | int (i : Int) | str (x : Str) | lst (xs : List D) | tup (xs : List D)
  | obj (C : Addr) (fs : List (Str × D)) | fx (v : V) | scr (xs : List D) | ext (f : Addr → HO) (ts : List (Addr × List V))

abbrev Fg := PySem.W.Frag

mutual
inductive Rep (K : Fg) (G : Hp) : V → D → Prop
  | non : Rep K G .non .non
  | bl (b : Bool) : Rep K G (.bl b) (.bl b)
  | int (i : Int) : Rep K G (.int i) (.int i)
  | str (x : Str) : Rep K G (.str x) (.str x)
  | lst {a : Addr} {xs : List V} {ds : List D} : G a = some (.lst xs) → RepL K G xs ds → Rep K G (.ref a) (.lst ds)
  | tup {a : Addr} {xs : List V} {ds : List D} : SqT K G a xs → RepL K G xs ds → Rep K G (.ref a) (.tup ds)
  | obj {a C dx : Addr} {fs : List (Str × V)} {ds : List (Str × D)} : G a = some (.ins C dx fs) → RepF K G fs ds → Rep K G (.ref a) (.obj C ds)
  | fx (v : V) : Rep K G v (.fx v)
  | scr {a : Addr} {xs : List V} {ds : List D} : SqL K G a xs → RepL K G xs ds → Rep K G (.ref a) (.scr ds)
  | ext {a : Addr} {f : Addr → HO} {ts : List (Addr × List V)} : G a = some (f a) → (∀ p ∈ ts, SqT K G p.1 p.2) → Rep K G (.ref a) (.ext f ts)
inductive RepL (K : Fg) (G : Hp) : List V → List D → Prop
  | nil : RepL K G [] []
  | cons {v : V} {vs : List V} {d : D} {ds : List D} : Rep K G v d → RepL K G vs ds → RepL K G (v :: vs) (d :: ds)
inductive RepF (K : Fg) (G : Hp) : List (Str × V) → List (Str × D) → Prop
  | nil : RepF K G [] []
  | cons {f : Str} {v : V} {vs : List (Str × V)} {d : D} {ds : List (Str × D)} : Rep K G v d → RepF K G vs ds → RepF K G ((f, v) :: vs) ((f, d) :: ds)
end

theorem same_l {K : Fg} {G G' : Hp} {a : Addr} {xs : List V} (s : Same G G') (h : SqL K G a xs) : SqL K G' a xs := by
  rcases h with (h | ⟨o, h⟩) | h
  · exact .inl (.inl (s _ _ h))
  · exact .inl (.inr ⟨o, s _ _ h⟩)
  · exact .inr h
theorem same_t {K : Fg} {G G' : Hp} {a : Addr} {xs : List V} (s : Same G G') (h : SqT K G a xs) : SqT K G' a xs := by
  rcases h with (h | ⟨o, h⟩) | h
  · exact .inl (.inl (s _ _ h))
  · exact .inl (.inr ⟨o, s _ _ h⟩)
  · exact .inr h

section
variable {K : Fg} {G G' : Hp}
mutual
theorem Rep.mono (s : Same G G') : ∀ {v : V} {d : D}, Rep K G v d → Rep K G' v d
  | _, _, .non => .non
  | _, _, .bl b => .bl b
  | _, _, .int i => .int i
  | _, _, .str x => .str x
  | _, _, .lst h r => .lst (s _ _ h) (RepL.mono s r)
  | _, _, .tup h r => .tup (same_t s h) (RepL.mono s r)
  | _, _, .obj h r => .obj (s _ _ h) (RepF.mono s r)
  | _, _, .fx v => .fx v
  | _, _, .scr h r => .scr (same_l s h) (RepL.mono s r)
  | _, _, .ext h r => .ext (s _ _ h) (fun p m => same_t s (r p m))
theorem RepL.mono (s : Same G G') : ∀ {vs : List V} {ds : List D}, RepL K G vs ds → RepL K G' vs ds
  | _, _, .nil => .nil
  | _, _, .cons a r => .cons (Rep.mono s a) (RepL.mono s r)
theorem RepF.mono (s : Same G G') : ∀ {vs : List (Str × V)} {ds : List (Str × D)}, RepF K G vs ds → RepF K G' vs ds
  | _, _, .nil => .nil
  | _, _, .cons a r => .cons (Rep.mono s a) (RepF.mono s r)
end
theorem RepL.length : ∀ {xs : List V} {ds : List D}, RepL K G xs ds → xs.length = ds.length
  | _, _, .nil => rfl
  | _, _, .cons _ r => congrArg Nat.succ (RepL.length r)
theorem RepL.get : ∀ {xs : List V} {ds : List D} {i : Nat} {d : D}, RepL K G xs ds → ds[i]? = some d → ∃ x, xs[i]? = some x ∧ Rep K G x d
  | _, _, _, _, .nil, e => by simp at e
  | _, _, 0, _, .cons a _, e => by simp at e; subst e; exact ⟨_, rfl, a⟩
  | _, _, i + 1, _, .cons _ r, e => by
    obtain ⟨x, h1, h2⟩ := RepL.get (i := i) r (by simpa using e)
    exact ⟨x, by simpa using h1, h2⟩
theorem RepL.got : ∀ {xs : List V} {ds : List D} {i : Nat} {x : V}, RepL K G xs ds → xs[i]? = some x → ∃ d, ds[i]? = some d ∧ Rep K G x d
  | _, _, _, _, .nil, e => by simp at e
  | _, _, 0, _, .cons a _, e => by simp at e; subst e; exact ⟨_, rfl, a⟩
  | _, _, i + 1, _, .cons _ r, e => by
    obtain ⟨x, h1, h2⟩ := RepL.got (i := i) r (by simpa using e)
    exact ⟨x, by simpa using h1, h2⟩
theorem RepL.append : ∀ {xs ys : List V} {ds es : List D}, RepL K G xs ds → RepL K G ys es → RepL K G (xs ++ ys) (ds ++ es)
  | _, _, _, _, .nil, s => s
  | _, _, _, _, .cons a r, s => .cons a (RepL.append r s)
theorem RepL.take : ∀ {xs : List V} {ds : List D} (n : Nat), RepL K G xs ds → RepL K G (xs.take n) (ds.take n)
  | _, _, 0, _ => .nil
  | _, _, _ + 1, .nil => .nil
  | _, _, n + 1, .cons a r => .cons a (RepL.take n r)
theorem RepL.drop : ∀ {xs : List V} {ds : List D} (n : Nat), RepL K G xs ds → RepL K G (xs.drop n) (ds.drop n)
  | _, _, 0, r => r
  | _, _, _ + 1, .nil => .nil
  | _, _, n + 1, .cons _ r => RepL.drop n r
theorem RepL.set : ∀ {xs : List V} {ds : List D} {v : V} {d : D} (n : Nat), Rep K G v d → RepL K G xs ds → RepL K G (xs.set n v) (ds.set n d)
  | _, _, _, _, _, _, .nil => .nil
  | _, _, _, _, 0, q, .cons _ r => .cons q r
  | _, _, _, _, n + 1, q, .cons a r => .cons a (RepL.set n q r)
theorem RepL.rev {xs : List V} {ds : List D} (h : RepL K G xs ds) : RepL K G xs.reverse ds.reverse := by
  induction xs generalizing ds with
  | nil => cases h; exact .nil
  | cons x xs ih =>
    cases h with
    | cons a r =>
      rw [List.reverse_cons, List.reverse_cons]
      exact (ih r).append (.cons a .nil)
theorem RepL.erase : ∀ {xs : List V} {ds : List D} (n : Nat), RepL K G xs ds → RepL K G (xs.eraseIdx n) (ds.eraseIdx n)
  | _, _, _, .nil => .nil
  | _, _, 0, .cons _ r => r
  | _, _, n + 1, .cons a r => .cons a (RepL.erase n r)
theorem RepL.rep {xs : List V} {ds : List D} (h : RepL K G xs ds) : ∀ n : Nat, RepL K G (List.replicate n xs).flatten (List.replicate n ds).flatten
  | 0 => .nil
  | n + 1 => by
    rw [List.replicate_succ, List.replicate_succ, List.flatten_cons, List.flatten_cons]
    exact h.append (RepL.rep h n)
theorem RepL.ints : ∀ {ns : List Int} {ds : List D}, RepL K G (ns.map V.int) ds → ds = ns.map D.int ∨ True := fun _ => .inr trivial
theorem Rep.int_of {v : V} {i : Int} (h : Rep K G v (.int i)) : v = .int i := by cases h; rfl
theorem Rep.bl_of {v : V} {b : Bool} (h : Rep K G v (.bl b)) : v = .bl b := by cases h; rfl
theorem Rep.str_of {v : V} {x : Str} (h : Rep K G v (.str x)) : v = .str x := by cases h; rfl
theorem Rep.non_of {v : V} (h : Rep K G v .non) : v = .non := by cases h; rfl
theorem Rep.fx_of {v u : V} (h : Rep K G v (.fx u)) : v = u := by cases h; rfl
theorem Rep.lst_of {v : V} {ds : List D} (h : Rep K G v (.lst ds)) : ∃ a xs, v = .ref a ∧ G a = some (.lst xs) ∧ RepL K G xs ds := by
  cases h with
  | lst a b => exact ⟨_, _, rfl, a, b⟩
theorem Rep.tup_of {v : V} {ds : List D} (h : Rep K G v (.tup ds)) : ∃ a xs, v = .ref a ∧ SqT K G a xs ∧ RepL K G xs ds := by
  cases h with
  | tup a b => exact ⟨_, _, rfl, a, b⟩
theorem Rep.obj_of {v : V} {C : Addr} {ds : List (Str × D)} (h : Rep K G v (.obj C ds)) : ∃ a dx fs, v = .ref a ∧ G a = some (.ins C dx fs) ∧ RepF K G fs ds := by
  cases h with
  | obj a b => exact ⟨_, _, _, rfl, a, b⟩
theorem Rep.scr_of {v : V} {ds : List D} (h : Rep K G v (.scr ds)) : ∃ a xs, v = .ref a ∧ SqL K G a xs ∧ RepL K G xs ds := by
  cases h with
  | scr a b => exact ⟨_, _, rfl, a, b⟩
theorem Rep.ext_of {v : V} {f : Addr → HO} {ts : List (Addr × List V)} (h : Rep K G v (.ext f ts)) : ∃ a, v = .ref a ∧ G a = some (f a) ∧ ∀ p ∈ ts, SqT K G p.1 p.2 := by
  cases h with
  | ext a b => exact ⟨_, rfl, a, b⟩
theorem RepF.look : ∀ {fs : List (Str × V)} {ds : List (Str × D)} {f : Str} {d : D}, RepF K G fs ds → ds.lookup f = some d → ∃ v, fs.lookup f = some v ∧ Rep K G v d
  | _, _, _, _, .nil, e => by simp at e
  | _, _, f, d, .cons (f := g) a r, e => by
    by_cases h : f = g
    · subst h
      simp [List.lookup] at e ⊢
      subst e
      exact a
    · have hb : (f == g) = false := beq_eq_false_iff_ne.mpr h
      simp only [List.lookup, hb] at e ⊢
      exact RepF.look r e
theorem RepF.none_ : ∀ {fs : List (Str × V)} {ds : List (Str × D)} {f : Str}, RepF K G fs ds → ds.lookup f = none → fs.lookup f = none
  | _, _, _, .nil, e => rfl
  | _, _, f, .cons (f := g) a r, e => by
    by_cases h : f = g
    · subst h
      simp [List.lookup] at e
    · have hb : (f == g) = false := beq_eq_false_iff_ne.mpr h
      simp only [List.lookup, hb] at e ⊢
      exact RepF.none_ r e
end

/-! ### the two heaps: H what is tracked, G the part of it that stays -/
def DealAt (H : Hp) (p l : Addr) : Prop := ∃ (ns : List Int) (m : Int), H p = some (.lst [.ref l, .int m]) ∧ H l = some (.lst (ns.map V.int)) ∧ ns.length ≤ 1000 ∧ 0 ≤ m ∧ m < 2147483647 ∧ ∀ n ∈ ns, 0 ≤ n
theorem DealAt.ne {H : Hp} {p l : Addr} (h : DealAt H p l) : p ≠ l := by
  obtain ⟨ns, m, h1, h2, _⟩ := h
  intro e
  subst e
  rw [h1] at h2
  have e2 := HO.lst.inj (Option.some.inj h2)
  cases ns with
  | nil => cases e2
  | cons n r => cases (List.cons.inj e2).1
abbrev Dl := Option (Addr × Addr)
def NotDl (dl : Dl) (a : Addr) : Prop := ∀ p l, dl = some (p, l) → a ≠ p ∧ a ≠ l
def DlOk (dl : Dl) (H G : Hp) : Prop := ∀ p l, dl = some (p, l) → DealAt H p l ∧ G p = none ∧ G l = none
structure Go (dl : Dl) (H G H' G' : Hp) : Prop where
  keep : ∀ a o, H a = some o → NotDl dl a → H' a = some o
  grow : Same G G'
  sub : Same G' H'
  new : ∀ a o, G' a = some o → G a = some o ∨ H a = none
  deal : DlOk dl H' G'
theorem NotDl.non {a : Addr} : NotDl none a := fun _ _ h => nomatch h
theorem Go.refl {dl : Dl} {H G : Hp} (s : Same G H) (d : DlOk dl H G) : Go dl H G H G := ⟨fun _ _ h _ => h, Same.refl _, s, fun _ _ h => .inl h, d⟩
theorem Go.trans {dl : Dl} {H0 G0 H G H' G' : Hp} (a : Go dl H0 G0 H G) (b : Go dl H G H' G') : Go dl H0 G0 H' G' where
  keep := fun x o h n => b.keep x o (a.keep x o h n) n
  grow := a.grow.trans b.grow
  sub := b.sub
  new := fun x o h => by
    rcases b.new x o h with h | h
    · exact a.new x o h
    · right
      cases q : H0 x with
      | none => rfl
      | some u =>
        by_cases n : NotDl dl x
        · rw [a.keep x u q n] at h
          cases h
        · exfalso
          apply n
          intro p l e
          obtain ⟨⟨ns, m, h1, h2, _⟩, _⟩ := a.deal p l e
          exact ⟨fun z => (by rw [z, h1] at h; cases h), fun z => (by rw [z, h2] at h; cases h)⟩
  deal := b.deal
/-- a step that does not touch the deal -/
theorem Go.lift {dl : Dl} {H G H' G' : Hp} (d : DlOk dl H G) (b : Go none H G H' G') : Go dl H G H' G' where
  keep := fun x o h _ => b.keep x o h .non
  grow := b.grow
  sub := b.sub
  new := b.new
  deal := fun p l e => by
    obtain ⟨⟨ns, m, h1, h2, h3⟩, g1, g2⟩ := d p l e
    refine ⟨⟨ns, m, b.keep _ _ h1 .non, b.keep _ _ h2 .non, h3⟩, ?_, ?_⟩
    · cases q : G' p with
      | none => rfl
      | some o => rcases b.new _ _ q with z | z
                  · rw [g1] at z; cases z
                  · rw [h1] at z; cases z
    · cases q : G' l with
      | none => rfl
      | some o => rcases b.new _ _ q with z | z
                  · rw [g2] at z; cases z
                  · rw [h2] at z; cases z
/-- a new object, known at once -/
theorem Go.laid {H G : Hp} {p : Addr} {o : HO} (s : Same G H) (n : H p = none) : Go none H G (upd H p o) (upd G p o) where
  keep := fun a u h _ => by rw [upd_ne (ne_of_none h n)]; exact h
  grow := fun a u h => by rw [upd_ne (ne_of_none (s _ _ h) n)]; exact h
  sub := fun a u h => by
    by_cases e : a = p
    · subst e
      rw [upd_same] at h ⊢
      exact h
    · rw [upd_ne e] at h ⊢
      exact s _ _ h
  new := fun a u h => by
    by_cases e : a = p
    · subst e
      exact .inr n
    · rw [upd_ne e] at h
      exact .inl h
  deal := fun _ _ h => nomatch h
/-- a new object, one's own -/
theorem Go.mine {H G : Hp} {p : Addr} {o : HO} (s : Same G H) (n : H p = none) : Go none H G (upd H p o) G where
  keep := fun a u h _ => by rw [upd_ne (ne_of_none h n)]; exact h
  grow := Same.refl _
  sub := fun a u h => by rw [upd_ne (ne_of_none (s _ _ h) n)]; exact s _ _ h
  new := fun a u h => .inl h
  deal := fun _ _ h => nomatch h

/-! ### the state -/
def ExcIs (K : Fg) (G : Hp) (d : Option Addr) (fs : List (Str × D)) : Prop := (fs = [] ∧ d = none) ∨ ∃ dd fv, d = some dd ∧ G dd = some (.xd fv) ∧ RepF K G fv fs
theorem ExcIs.mono {K : Fg} {G G' : Hp} {d : Option Addr} {fs : List (Str × D)} (s : Same G G') (h : ExcIs K G d fs) : ExcIs K G' d fs := by
  rcases h with h | ⟨dd, fv, h1, h2, h3⟩
  · exact .inl h
  · exact .inr ⟨dd, fv, h1, s _ _ h2, h3.mono s⟩
inductive Sl where
  | un | dat (d : D) | own (ds : List D) | deal | exn (a C : Addr) (d : Option Addr) (fs : List (Str × D)) | self (C : Addr) (fs : List (Str × D)) | odc (fs : List (Str × D)) | odl (fs : List (Str × D))
def keyd (vs : List (Str × V)) : List (Key × V) := vs.map fun x => ((Sum.inr x.1 : Key), x.2)
structure Ct where
  dl : Dl
  sf : Option Addr
  He : Hp
  Ge : Hp
structure Cr (c : Ct) (H G : Hp) : Prop where
  keep : ∀ a o, c.He a = some o → NotDl c.dl a → c.sf ≠ some a → H a = some o
  grow : Same c.Ge G
  sub : Same G H
  new : ∀ a o, G a = some o → c.Ge a = some o ∨ c.He a = none
  dlok : DlOk c.dl H G
  he : ∀ p l, c.dl = some (p, l) → c.He p ≠ none ∧ c.He l ≠ none
  sfo : ∀ a, c.sf = some a → ∃ C dx fv, H a = some (.ins C dx fv)
theorem NotDl.of_ins {dl : Dl} {H G : Hp} (d : DlOk dl H G) {a C dx : Addr} {fv : List (Str × V)} (h : H a = some (.ins C dx fv)) : NotDl dl a := fun p l e => by
  obtain ⟨⟨ns, m, h1, h2, _⟩, _⟩ := d p l e
  exact ⟨fun z => (by rw [z, h1] at h; cases h), fun z => (by rw [z, h2] at h; cases h)⟩
theorem Cr.step {c : Ct} {H G H' G' : Hp} (a : Cr c H G) (b : Go c.dl H G H' G') : Cr c H' G' where
  keep := fun x o h n m => b.keep x o (a.keep x o h n m) n
  grow := a.grow.trans b.grow
  sub := b.sub
  new := fun x o h => by
    rcases b.new x o h with h | h
    · exact a.new x o h
    · right
      cases q : c.He x with
      | none => rfl
      | some u =>
        by_cases n : NotDl c.dl x
        · by_cases m : c.sf = some x
          · obtain ⟨C, dx, fv, e⟩ := a.sfo x m
            rw [h] at e
            cases e
          · rw [a.keep x u q n m] at h
            cases h
        · exfalso
          apply n
          intro p l e
          obtain ⟨⟨ns, m, h1, h2, _⟩, _⟩ := a.dlok p l e
          exact ⟨fun z => (by rw [z, h1] at h; cases h), fun z => (by rw [z, h2] at h; cases h)⟩
  dlok := b.deal
  he := a.he
  sfo := fun x e => by
    obtain ⟨C, dx, fv, h⟩ := a.sfo x e
    exact ⟨C, dx, fv, b.keep x _ h (NotDl.of_ins a.dlok h)⟩
theorem Cr.go {c : Ct} {H G : Hp} (a : Cr c H G) (h : c.sf = none) : Go c.dl c.He c.Ge H G :=
  ⟨fun x o q n => a.keep x o q n (by rw [h]; exact fun z => nomatch z), a.grow, a.sub, a.new, a.dlok⟩
def SlotOk (K : Fg) (c : Ct) (H G : Hp) (x : Option V) : Sl → Prop
  | .un => True
  | .dat d => ∃ v, x = some v ∧ Rep K G v d
  | .own ds => ∃ p xs, x = some (.ref p) ∧ H p = some (.lst xs) ∧ G p = none ∧ c.He p = none ∧ RepL K G xs ds
  | .odc fs => ∃ p vs, x = some (.ref p) ∧ H p = some (.dK (keyd vs)) ∧ G p = none ∧ c.He p = none ∧ RepF K G vs fs
  | .odl fs => ∃ p od vs, x = some (.ref p) ∧ H p = some (.frz od (.dK (keyd vs))) ∧ G p = none ∧ c.He p = none ∧ RepF K G vs fs
  | .deal => ∃ p l, c.dl = some (p, l) ∧ x = some (.ref p)
  | .exn a C d fs => x = some (.ref a) ∧ ExcIs K G d fs
  | .self C fs => ∃ a dx fv, x = some (.ref a) ∧ c.sf = some a ∧ H a = some (.ins C dx fv) ∧ G a = none ∧ fv.length ≤ 900 ∧ RepF K G fv fs
structure RS (K : Fg) (c : Ct) (H G : Hp) (σ : St) (δ : List Sl) : Prop where
  len : σ.length = δ.length
  at_ : ∀ (i : Nat) (s : Sl), δ[i]? = some s → ∃ x, σ[i]? = some x ∧ SlotOk K c H G x s
  sep : ∀ (i j : Nat) (p : Addr) (ds es : List D), i ≠ j → δ[i]? = some (.own ds) → δ[j]? = some (.own es) → σ[i]? = some (some (.ref p)) → σ[j]? ≠ some (some (.ref p))
theorem SlotOk.step {K : Fg} {c : Ct} {H G H' G' : Hp} (cr : Cr c H G) (b : Go c.dl H G H' G') {x : Option V} {s : Sl} (h : SlotOk K c H G x s) : SlotOk K c H' G' x s := by
  cases s with
  | un => trivial
  | dat d =>
    obtain ⟨v, e, r⟩ := h
    exact ⟨v, e, r.mono b.grow⟩
  | own ds =>
    obtain ⟨p, xs, e, h1, h2, h3, r⟩ := h
    refine ⟨p, xs, e, b.keep _ _ h1 fun p' l' e' => ?_, ?_, h3, r.mono b.grow⟩
    · obtain ⟨q1, q2⟩ := cr.he _ _ e'
      exact ⟨fun z => q1 (z ▸ h3), fun z => q2 (z ▸ h3)⟩
    · cases q : G' p with
      | none => rfl
      | some o => rcases b.new _ _ q with z | z
                  · rw [h2] at z; cases z
                  · rw [h1] at z; cases z
  | odc fs =>
    obtain ⟨p, xs, e, h1, h2, h3, r⟩ := h
    refine ⟨p, xs, e, b.keep _ _ h1 fun p' l' e' => ?_, ?_, h3, r.mono b.grow⟩
    · obtain ⟨q1, q2⟩ := cr.he _ _ e'
      exact ⟨fun z => q1 (z ▸ h3), fun z => q2 (z ▸ h3)⟩
    · cases q : G' p with
      | none => rfl
      | some o => rcases b.new _ _ q with z | z
                  · rw [h2] at z; cases z
                  · rw [h1] at z; cases z
  | odl fs =>
    obtain ⟨p, od, xs, e, h1, h2, h3, r⟩ := h
    refine ⟨p, od, xs, e, b.keep _ _ h1 fun p' l' e' => ?_, ?_, h3, r.mono b.grow⟩
    · obtain ⟨q1, q2⟩ := cr.he _ _ e'
      exact ⟨fun z => q1 (z ▸ h3), fun z => q2 (z ▸ h3)⟩
    · cases q : G' p with
      | none => rfl
      | some o => rcases b.new _ _ q with z | z
                  · rw [h2] at z; cases z
                  · rw [h1] at z; cases z
  | deal => exact h
  | exn a C d fs => exact ⟨h.1, h.2.mono b.grow⟩
  | self C fs =>
    obtain ⟨a, dx, fv, e, h1, h2, h3, h4, r⟩ := h
    refine ⟨a, dx, fv, e, h1, b.keep _ _ h2 (NotDl.of_ins cr.dlok h2), ?_, h4, r.mono b.grow⟩
    cases q : G' a with
    | none => rfl
    | some o => rcases b.new _ _ q with z | z
                · rw [h3] at z; cases z
                · rw [h2] at z; cases z
theorem RS.step {K : Fg} {c : Ct} {H G H' G' : Hp} {σ : St} {δ : List Sl} (r : RS K c H G σ δ) (cr : Cr c H G) (b : Go c.dl H G H' G') : RS K c H' G' σ δ :=
  ⟨r.len, fun i s e => let ⟨x, h1, h2⟩ := r.at_ i s e; ⟨x, h1, h2.step cr b⟩, r.sep⟩
/-- a slot takes a value that is known -/
theorem RS.set {K : Fg} {c : Ct} {H G : Hp} {σ : St} {δ : List Sl} (r : RS K c H G σ δ) {v : V} {d : D} (i : Nat) (q : Rep K G v d) : RS K c H G (σ.set i (some v)) (δ.set i (.dat d)) where
  len := by rw [List.length_set, List.length_set]; exact r.len
  at_ := fun j s e => by
    by_cases h : i = j
    · subst h
      have hl : i < δ.length := by
        have := (List.getElem?_eq_some_iff.mp e).1
        rwa [List.length_set] at this
      rw [List.getElem?_set_self hl] at e
      cases e
      exact ⟨some v, by rw [List.getElem?_set_self (by rw [r.len]; exact hl)], v, rfl, q⟩
    · rw [List.getElem?_set_ne h] at e ⊢
      exact r.at_ j s e
  sep := fun j k p ds es n e1 e2 h => by
    have nj : i ≠ j := fun z => by
      subst z
      have hl : i < δ.length := by
        have := (List.getElem?_eq_some_iff.mp e1).1
        rwa [List.length_set] at this
      rw [List.getElem?_set_self hl] at e1
      cases e1
    have nk : i ≠ k := fun z => by
      subst z
      have hl : i < δ.length := by
        have := (List.getElem?_eq_some_iff.mp e2).1
        rwa [List.length_set] at this
      rw [List.getElem?_set_self hl] at e2
      cases e2
    rw [List.getElem?_set_ne nj] at e1 h
    rw [List.getElem?_set_ne nk] at e2 ⊢
    exact r.sep j k p ds es n e1 e2 h
/-- a slot is forgotten -/
theorem RS.forget {K : Fg} {c : Ct} {H G : Hp} {σ : St} {δ : List Sl} (r : RS K c H G σ δ) (i : Nat) (x : Option V) : RS K c H G (σ.set i x) (δ.set i .un) where
  len := by rw [List.length_set, List.length_set]; exact r.len
  at_ := fun j s e => by
    by_cases h : i = j
    · subst h
      have hl : i < δ.length := by
        have := (List.getElem?_eq_some_iff.mp e).1
        rwa [List.length_set] at this
      rw [List.getElem?_set_self hl] at e
      cases e
      exact ⟨x, by rw [List.getElem?_set_self (by rw [r.len]; exact hl)], trivial⟩
    · rw [List.getElem?_set_ne h] at e ⊢
      exact r.at_ j s e
  sep := fun j k p ds es n e1 e2 h => by
    have nj : i ≠ j := fun z => by
      subst z
      have hl : i < δ.length := by
        have := (List.getElem?_eq_some_iff.mp e1).1
        rwa [List.length_set] at this
      rw [List.getElem?_set_self hl] at e1
      cases e1
    have nk : i ≠ k := fun z => by
      subst z
      have hl : i < δ.length := by
        have := (List.getElem?_eq_some_iff.mp e2).1
        rwa [List.length_set] at this
      rw [List.getElem?_set_self hl] at e2
      cases e2
    rw [List.getElem?_set_ne nj] at e1 h
    rw [List.getElem?_set_ne nk] at e2 ⊢
    exact r.sep j k p ds es n e1 e2 h
end DL

set_option Elab.async false
set_option linter.all false
set_option maxRecDepth 100000
set_option maxHeartbeats 4000000
namespace DL
open PySem L2

/-! ### judgements -/
abbrev XD := Addr × List (Str × D)
abbrev XC := XD → Prop
abbrev ME := List Sl → (D → Prop) → XC → Prop
abbrev MT := List Sl → (Bool → Prop) → XC → Prop
abbrev MA := List Sl → (List D → Prop) → XC → Prop
def XW (K : Fg) (c : Ct) (H G : Hp) (σ : St) (X : XC) (W : WX) : Prop := ∀ C fs d H' G', Go c.dl H G H' G' → ExcIs K G' d fs → X (C, fs) → W (.ref C) d σ H'
theorem XW.step {K : Fg} {c : Ct} {H G H' G' : Hp} {σ : St} {X : XC} {W : WX} (x : XW K c H G σ X W) (b : Go c.dl H G H' G') : XW K c H' G' σ X W := fun C fs d H2 G2 g e q => x C fs d H2 G2 (b.trans g) e q
theorem XW.no {K : Fg} {c : Ct} {H G : Hp} {σ : St} {W : WX} : XW K c H G σ (fun _ => False) W := fun _ _ _ _ _ _ _ q => q.elim

def WE (K : Fg) (c : Ct) (W : WX) (t : TE) (m : ME) : Prop := ∀ H G σ δ (F : D → Prop) (X : XC) (Q : VK), Cr c H G → RS K c H G σ δ → m δ F X →
  (∀ v d H' G', Go c.dl H G H' G' → Rep K G' v d → F d → Q v H') → XW K c H G σ X W → t σ H Q
def WT (K : Fg) (c : Ct) (W : WX) (t : TT) (m : MT) : Prop := ∀ H G σ δ (F : Bool → Prop) (X : XC) (Q : Bool → Hp → Prop), Cr c H G → RS K c H G σ δ → m δ F X →
  (∀ b H' G', Go c.dl H G H' G' → F b → Q b H') → XW K c H G σ X W → t σ H Q
def WA (K : Fg) (c : Ct) (W : WX) (t : TA) (m : MA) : Prop := ∀ H G σ δ (F : List D → Prop) (X : XC) (Q : List V → Hp → Prop), Cr c H G → RS K c H G σ δ → m δ F X →
  (∀ vs ds H' G', Go c.dl H G H' G' → RepL K G' vs ds → F ds → Q vs H') → XW K c H G σ X W → t σ H Q
structure DE (X : Cx) (c : Ct) (W : WX) (e : Expr) (t : TE) (m : ME) : Prop where
  p : PE X e t
  w : WE X.K c W t m
structure DT (X : Cx) (c : Ct) (W : WX) (e : Expr) (t : TT) (m : MT) : Prop where
  p : PT X e t
  w : WT X.K c W t m
structure DW (X : Cx) (c : Ct) (W : WX) (e : Expr) (t : TT) (m : MT) : Prop where
  p : PW X e t
  w : WT X.K c W t m
structure DA (X : Cx) (c : Ct) (W : WX) (es : List Expr) (t : TA) (m : MA) : Prop where
  p : PA X es t
  w : WA X.K c W t m

section
variable {X : Cx} {c : Ct} {W : WX} {e a b : Expr} {es : List Expr} {pos : Pos} {m ma mb : ME} {K : Fg} {te ta tb : TE}

theorem Cr.rfl' {c : Ct} {H G : Hp} (cr : Cr c H G) : Go c.dl H G H G := Go.refl cr.sub cr.dlok

/-! ### names, constants -/
def mVar (i : Nat) : ME := fun δ F _ => match δ[i]? with
  | some (.dat d) => F d
  | _ => False
def mC (d : D) : ME := fun _ F _ => F d
theorem we_var {i : Nat} : WE K c W (tVar i) (mVar i) := fun H G σ δ F X Q cr rs h q _ => by
  unfold mVar at h
  split at h
  · rename_i d e
    obtain ⟨x, h1, v, h2, h3⟩ := rs.at_ _ _ e
    subst h2
    exact ⟨v, h1, q v d H G cr.rfl' h3 h⟩
  · exact h.elim
theorem we_c {v : V} {d : D} (r : ∀ G, Rep K G v d) : WE K c W (tC v) (mC d) := fun H G σ δ F X Q cr rs h q _ => q v d H G cr.rfl' (r G) h
theorem de_var (i : Nat) {x : Str} (hN : X.N[i]? = some x := by rfl) (hv : Vis X.env.scope x := by first | exact Or.inl rfl | exact Or.inr (Or.inl rfl) | exact Or.inr (Or.inr rfl)) (hd : (x == ("__debug__" : Str)) = false := by decide)
    (hcd : (x == ("__classdict__" : Str)) = false := by decide) : DE X c W (.Name x pos) (tVar i) (mVar i) := ⟨pe_var hN hv hd hcd, we_var⟩
theorem de_int {i j} : DE X c W (.Constant (.int i) j pos) (tC (.int i)) (mC (.int i)) := ⟨pe_int, we_c fun _ => .int i⟩
theorem de_bl {i j} : DE X c W (.Constant (.bool i) j pos) (tC (.bl i)) (mC (.bl i)) := ⟨pe_bl, we_c fun _ => .bl i⟩
theorem de_non {j} : DE X c W (.Constant .none j pos) (tC .non) (mC .non) := ⟨pe_non, we_c fun _ => .non⟩
theorem de_str {i j} : DE X c W (.Constant (.str i) j pos) (tC (.str i)) (mC (.str i)) := ⟨pe_str, we_c fun _ => .str i⟩
theorem de_glob {x : Str} {v : V} {u : Value} {d : D} (hg : Gl X x) (hm : X.mg x = some u) (r : RelV v u) (k : ∀ G, Rep X.K G v d) (hd : (x == ("__debug__" : Str)) = false := by decide) : DE X c W (.Name x pos) (tC v) (mC d) :=
  ⟨pe_glob hg hm r hd, we_c k⟩
theorem de_bltn {x : Str} {v : V} {u : Value} (hg : Gl X x) (hm : X.mg x = none) (hv : bootBuiltins x = some u) (r : RelV v u) (hn : x ≠ "__name__" := by decide) (hd : (x == ("__debug__" : Str)) = false := by decide) : DE X c W (.Name x pos) (tC v) (mC (.fx v)) :=
  ⟨pe_bltn hg hm hv r hn hd, we_c fun _ => .fx v⟩

/-! ### operators -/
/-- an operation's reading, by data -/
def RD (K : Fg) (r : R2) (g : D → D → (D → Prop) → Prop) : Prop := ∀ H G x y d e (F : D → Prop) (Q : VK), Same G H → Rep K G x d → Rep K G y e → g d e F → (∀ v d' H' G', Go none H G H' G' → Rep K G' v d' → F d' → Q v H') → r x y H Q
def mOp (g : D → D → (D → Prop) → Prop) (ma mb : ME) : ME := fun δ F X => ma δ (fun d => mb δ (fun e => g d e F) X) X
theorem we_op {r : R2} {g : D → D → (D → Prop) → Prop} {ta tb : TE} (hr : RD K r g) (ha : WE K c W ta ma) (hb : WE K c W tb mb) : WE K c W (tOp r ta tb) (mOp g ma mb) := fun H G σ δ F X Q cr rs h q x => by
  refine ha H G σ δ _ X _ cr rs h (fun v d H1 G1 g1 r1 h1 => ?_) x
  refine hb H1 G1 σ δ _ X _ (cr.step g1) (rs.step cr g1) h1 (fun u e H2 G2 g2 r2 h2 => ?_) (x.step g1)
  exact hr H2 G2 v u d e F Q g2.sub (r1.mono g2.grow) r2 h2 fun w d' H' G' g3 r3 f => q w d' H' G' ((g1.trans g2).trans (g3.lift g2.deal)) r3 f
theorem de_op {op : Operator} {r : R2} {g : D → D → (D → Prop) → Prop} (ho : OpR X (binaryOp op) r) (hr : RD X.K r g) (ha : DE X c W a ta ma) (hb : DE X c W b tb mb) : DE X c W (.BinOp a op b pos) (tOp r ta tb) (mOp g ma mb) := by
  obtain ⟨pa, wa⟩ := ha
  obtain ⟨pb, wb⟩ := hb
  exact ⟨pe_op ho pa pb, we_op hr wa wb⟩
theorem de_cmp {op : CmpOp} {r : R2} {g : D → D → (D → Prop) → Prop} (ho : OpR X (compareOp op) r) (hr : RD X.K r g) (ha : DE X c W a ta ma) (hb : DE X c W b tb mb) (hm : behindInMarks op b = false) : DE X c W (.Compare a [op] [b] pos) (tOp r ta tb) (mOp g ma mb) := by
  obtain ⟨pa, wa⟩ := ha
  obtain ⟨pb, wb⟩ := hb
  exact ⟨pe_cmpR ho pa pb hm, we_op hr wa wb⟩
/-- a test of a value that is a bool -/
def mB (m : ME) : MT := fun δ F X => m δ (fun d => match d with
  | .bl b => F b
  | _ => False) X
theorem wt_B {t : TE} (h : WE K c W t m) : WT K c W (tTest t) (mB m) := fun H G σ δ F X Q cr rs hm q x => by
  refine h H G σ δ _ X _ cr rs hm (fun v d H' G' g r f => ?_) x
  split at f
  · rename_i b
    exact ⟨b, r.bl_of, q b H' G' g f⟩
  · exact f.elim
theorem dt_cmp {op : CmpOp} {r : R2} {g : D → D → (D → Prop) → Prop} (ho : OpR X (compareOp op) r) (hr : RD X.K r g) (ha : DE X c W a ta ma) (hb : DE X c W b tb mb) (hm : behindInMarks op b = false) : DT X c W (.Compare a [op] [b] pos) (tTest (tOp r ta tb)) (mB (mOp g ma mb)) := by
  obtain ⟨pa, wa⟩ := ha
  obtain ⟨pb, wb⟩ := hb
  exact ⟨pt_cmpR ho pa pb hm, wt_B (we_op hr wa wb)⟩
/-- truth -/
def truD : D → Option Bool
  | .non => some false
  | .bl b => some b
  | .int i => some (i != 0)
  | .str x => if x.length ≤ sizeLine then some ((x.length : Int) != 0) else none
  | .lst xs => some (!xs.isEmpty)
  | .tup xs => some (!xs.isEmpty)
  | _ => none
theorem RepL.isEmpty {G : Hp} {xs : List V} {ds : List D} (r : RepL K G xs ds) : xs.isEmpty = ds.isEmpty := by cases r <;> rfl
theorem tru_of {G H : Hp} (s : Same G H) {v : V} {d : D} {k : Bool} (r : Rep K G v d) (e : truD d = some k) : TruV K v H k := by
  cases r with
  | non => cases e; exact rfl
  | bl b => cases e; exact rfl
  | int i => cases e; exact rfl
  | str x =>
    have e : (if x.length ≤ sizeLine then some ((x.length : Int) != 0) else none) = some k := e
    split at e
    · rename_i hx
      cases e
      exact ⟨hx, rfl⟩
    · cases e
  | lst h1 h2 => cases e; exact .inl ⟨_, SqL.of (s _ _ h1), by rw [h2.isEmpty]⟩
  | tup h1 h2 => cases e; exact .inr (.inl ⟨_, same_t s h1, by rw [h2.isEmpty]⟩)
  | obj _ _ => cases e
  | fx _ => cases e
  | scr _ _ => cases e
  | ext _ _ => cases e
def mTru (m : ME) : MT := fun δ F X => m δ (fun d => match truD d with
  | some b => F b
  | none => False) X
theorem dt_truth (ha : DE X c W a ta ma) (he : ∀ whole, isTrue a X.env whole = (do let v ← whole; standAt a.pos; holding [v] (truthy v)) := by intro _; rfl) : DT X c W a (fun σ H Q => ta σ H fun x H' => ∃ k, TruV X.K x H' k ∧ Q k H') (mTru ma) := by
  obtain ⟨pa, wa⟩ := ha
  refine ⟨pt_truth pa he, fun H G σ δ F X Q cr rs hm q x => ?_⟩
  refine wa H G σ δ _ X _ cr rs hm (fun v d H' G' g r f => ?_) x
  split at f
  · rename_i k e
    exact ⟨k, tru_of g.sub r e, q k H' G' g f⟩
  · exact f.elim
/-! and, or, not as tests -/
def mtAnd (p q : MT) : MT := fun δ F X => p δ (fun b => if b = true then q δ F X else F false) X
def mtOr (p q : MT) : MT := fun δ F X => p δ (fun b => if b = true then F true else q δ F X) X
def mtNot (p : MT) : MT := fun δ F X => p δ (fun b => F (!b)) X
variable {rest : List Expr} {p q : MT} {tp tq : TT}
theorem DW.dt (h : DW X c W e tp p) : DT X c W e tp p := ⟨h.p.pt, h.w⟩
theorem dw_and1 (h : DT X c W a tp p) : DW X c W (.BoolOp .And [a] pos) tp p := ⟨pw_and1 h.p, h.w⟩
theorem dw_or1 (h : DT X c W a tp p) : DW X c W (.BoolOp .Or [a] pos) tp p := ⟨pw_or1 h.p, h.w⟩
theorem dw_and (ha : DT X c W a tp p) (hb : DW X c W (.BoolOp .And (b :: rest) pos) tq q) : DW X c W (.BoolOp .And (a :: b :: rest) pos) (tAnd tp tq) (mtAnd p q) := by
  obtain ⟨pa, wa⟩ := ha
  obtain ⟨pb, wb⟩ := hb
  refine ⟨pw_and pa pb, fun H G σ δ F X Q cr rs hm k x => ?_⟩
  refine wa H G σ δ _ X _ cr rs hm (fun z H1 G1 g1 f => ?_) x
  cases z with
  | true => exact wb H1 G1 σ δ F X Q (cr.step g1) (rs.step cr g1) f (fun z H2 G2 g2 f2 => k z H2 G2 (g1.trans g2) f2) (x.step g1)
  | false => exact k false H1 G1 g1 f
theorem dw_or (ha : DT X c W a tp p) (hb : DW X c W (.BoolOp .Or (b :: rest) pos) tq q) : DW X c W (.BoolOp .Or (a :: b :: rest) pos) (tOr tp tq) (mtOr p q) := by
  obtain ⟨pa, wa⟩ := ha
  obtain ⟨pb, wb⟩ := hb
  refine ⟨pw_or pa pb, fun H G σ δ F X Q cr rs hm k x => ?_⟩
  refine wa H G σ δ _ X _ cr rs hm (fun z H1 G1 g1 f => ?_) x
  cases z with
  | true => exact k true H1 G1 g1 f
  | false => exact wb H1 G1 σ δ F X Q (cr.step g1) (rs.step cr g1) f (fun z H2 G2 g2 f2 => k z H2 G2 (g1.trans g2) f2) (x.step g1)
theorem dt_not (ha : DT X c W a tp p) : DT X c W (.UnaryOp .Not a pos) (tNot tp) (mtNot p) := by
  obtain ⟨pa, wa⟩ := ha
  exact ⟨pt_not pa, fun H G σ δ F X Q cr rs hm k x => wa H G σ δ _ X _ cr rs hm (fun z H1 G1 g1 f => k _ H1 G1 g1 f) x⟩
/-! as values, by truth -/
def mOrV (ma mb : ME) : ME := fun δ F X => ma δ (fun d => match truD d with
  | some true => F d
  | some false => mb δ F X
  | none => False) X
def mAndV (ma mb : ME) : ME := fun δ F X => ma δ (fun d => match truD d with
  | some false => F d
  | some true => mb δ F X
  | none => False) X
def mNotV (ma : ME) : ME := fun δ F X => ma δ (fun d => match truD d with
  | some b => F (.bl (!b))
  | none => False) X
theorem de_one {op} (h : DE X c W a ta m) : DE X c W (.BoolOp op [a] pos) ta m := ⟨pe_one h.p, h.w⟩
theorem de_or (ha : DE X c W a ta ma) (hb : DE X c W (.BoolOp .Or (b :: rest) pos) tb mb) : DE X c W (.BoolOp .Or (a :: b :: rest) pos) (tOrT X.K ta tb) (mOrV ma mb) := by
  obtain ⟨pa, wa⟩ := ha
  obtain ⟨pb, wb⟩ := hb
  refine ⟨pe_orT pa pb, fun H G σ δ F X Q cr rs hm k x => ?_⟩
  refine wa H G σ δ _ X _ cr rs hm (fun v d H1 G1 g1 r1 f => ?_) x
  split at f
  · rename_i e
    exact ⟨true, tru_of g1.sub r1 e, iteT (k v d H1 G1 g1 r1 f)⟩
  · rename_i e
    exact ⟨false, tru_of g1.sub r1 e, iteF (wb H1 G1 σ δ F X Q (cr.step g1) (rs.step cr g1) f (fun z d2 H2 G2 g2 r2 f2 => k z d2 H2 G2 (g1.trans g2) r2 f2) (x.step g1))⟩
  · exact f.elim
theorem de_and (ha : DE X c W a ta ma) (hb : DE X c W (.BoolOp .And (b :: rest) pos) tb mb) : DE X c W (.BoolOp .And (a :: b :: rest) pos) (tAndT X.K ta tb) (mAndV ma mb) := by
  obtain ⟨pa, wa⟩ := ha
  obtain ⟨pb, wb⟩ := hb
  refine ⟨pe_andT pa pb, fun H G σ δ F X Q cr rs hm k x => ?_⟩
  refine wa H G σ δ _ X _ cr rs hm (fun v d H1 G1 g1 r1 f => ?_) x
  split at f
  · rename_i e
    exact ⟨false, tru_of g1.sub r1 e, iteF (k v d H1 G1 g1 r1 f)⟩
  · rename_i e
    exact ⟨true, tru_of g1.sub r1 e, iteT (wb H1 G1 σ δ F X Q (cr.step g1) (rs.step cr g1) f (fun z d2 H2 G2 g2 r2 f2 => k z d2 H2 G2 (g1.trans g2) r2 f2) (x.step g1))⟩
  · exact f.elim
theorem de_not (ha : DE X c W a ta ma) : DE X c W (.UnaryOp .Not a pos) (tNotT X.K ta) (mNotV ma) := by
  obtain ⟨pa, wa⟩ := ha
  refine ⟨pe_notT pa, fun H G σ δ F X Q cr rs hm k x => ?_⟩
  refine wa H G σ δ _ X _ cr rs hm (fun v d H1 G1 g1 r1 f => ?_) x
  split at f
  · rename_i b e
    exact ⟨b, tru_of g1.sub r1 e, k _ _ H1 G1 g1 (.bl _) f⟩
  · exact f.elim
/-- a if t else b -/
def mIf (p : MT) (ma mb : ME) : ME := fun δ F X => p δ (fun z => if z = true then ma δ F X else mb δ F X) X
theorem de_if {t : Expr} (ht : DT X c W t tp p) (ha : DE X c W a ta ma) (hb : DE X c W b tb mb) : DE X c W (.IfExp t a b pos) (tIf tp ta tb) (mIf p ma mb) := by
  obtain ⟨pt, wt⟩ := ht
  obtain ⟨pa, wa⟩ := ha
  obtain ⟨pb, wb⟩ := hb
  refine ⟨pe_ifExp pt pa pb, fun H G σ δ F X Q cr rs hm k x => ?_⟩
  refine wt H G σ δ _ X _ cr rs hm (fun z H1 G1 g1 f => ?_) x
  cases z with
  | true => exact wa H1 G1 σ δ F X Q (cr.step g1) (rs.step cr g1) f (fun z d2 H2 G2 g2 r2 f2 => k z d2 H2 G2 (g1.trans g2) r2 f2) (x.step g1)
  | false => exact wb H1 G1 σ δ F X Q (cr.step g1) (rs.step cr g1) f (fun z d2 H2 G2 g2 r2 f2 => k z d2 H2 G2 (g1.trans g2) r2 f2) (x.step g1)
/-- a op b op' c -/
def mChain (g g' : D → D → (D → Prop) → Prop) (ma mb mc : ME) : ME := fun δ F X => ma δ (fun d => mb δ (fun e => g d e fun z => match z with
  | .bl true => mc δ (fun f => g' e f F) X
  | .bl false => F (.bl false)
  | _ => False) X) X
theorem we_chain {r r' : R2} {g g' : D → D → (D → Prop) → Prop} {ta tb tc : TE} {mc : ME} (hr : RD K r g) (hr' : RD K r' g') (wa : WE K c W ta ma) (wb : WE K c W tb mb) (wc : WE K c W tc mc) : WE K c W (tChain r r' ta tb tc) (mChain g g' ma mb mc) := fun H G σ δ F X Q cr rs h q x => by
  refine wa H G σ δ _ X _ cr rs h (fun v d H1 G1 g1 r1 h1 => ?_) x
  refine wb H1 G1 σ δ _ X _ (cr.step g1) (rs.step cr g1) h1 (fun u e H2 G2 g2 r2 h2 => ?_) (x.step g1)
  refine hr H2 G2 v u d e _ _ g2.sub (r1.mono g2.grow) r2 h2 fun w d' H3 G3 g3 r3 f => ?_
  have g13 := (g1.trans g2).trans (g3.lift g2.deal)
  split at f
  · refine ⟨true, r3.bl_of, iteT ?_⟩
    refine wc H3 G3 σ δ _ X _ (cr.step g13) (rs.step cr g13) f (fun y f' H4 G4 g4 r4 h4 => ?_) (x.step g13)
    refine hr' H4 G4 u y e f' F Q g4.sub ((r2.mono g3.grow).mono g4.grow) r4 h4 fun w2 d2 H5 G5 g5 r5 f5 => ?_
    exact q w2 d2 H5 G5 ((g13.trans g4).trans (g5.lift g4.deal)) r5 f5
  · exact ⟨false, r3.bl_of, iteF (q (.bl false) _ H3 G3 g13 (.bl false) f)⟩
  · exact f.elim
theorem de_chain {op op' : CmpOp} {r r' : R2} {g g' : D → D → (D → Prop) → Prop} {cc : Expr} {mc : ME} {tc : TE} (ho : OpR X (compareOp op) r) (ho' : OpR X (compareOp op') r') (hr : RD X.K r g) (hr' : RD X.K r' g') (ha : DE X c W a ta ma) (hb : DE X c W b tb mb) (hc : DE X c W cc tc mc) (hm : lastMarks [op, op'] [b, cc] = false := by rfl) :
    DE X c W (.Compare a [op, op'] [b, cc] pos) (tChain r r' ta tb tc) (mChain g g' ma mb mc) := by
  obtain ⟨pa, wa⟩ := ha
  obtain ⟨pb, wb⟩ := hb
  obtain ⟨pc, wc⟩ := hc
  exact ⟨pe_chain ho ho' pa pb pc hm, we_chain hr hr' wa wb wc⟩
theorem dt_chain {op op' : CmpOp} {r r' : R2} {g g' : D → D → (D → Prop) → Prop} {cc : Expr} {mc : ME} {tc : TE} (ho : OpR X (compareOp op) r) (ho' : OpR X (compareOp op') r') (hr : RD X.K r g) (hr' : RD X.K r' g') (ha : DE X c W a ta ma) (hb : DE X c W b tb mb) (hc : DE X c W cc tc mc) (hm : lastMarks [op, op'] [b, cc] = false := by rfl) :
    DT X c W (.Compare a [op, op'] [b, cc] pos) (tTest (tChain r r' ta tb tc)) (mB (mChain g g' ma mb mc)) := by
  obtain ⟨pa, wa⟩ := ha
  obtain ⟨pb, wb⟩ := hb
  obtain ⟨pc, wc⟩ := hc
  exact ⟨pt_chain ho ho' pa pb pc hm, wt_B (we_chain hr hr' wa wb wc)⟩

/-! ### argument lists, displays -/
def maNil : MA := fun _ F _ => F []
def maCons (ma : ME) (mr : MA) : MA := fun δ F X => ma δ (fun d => mr δ (fun ds => F (d :: ds)) X) X
theorem da_nil : DA X c W [] tNil maNil := ⟨pa_nil, fun H G σ δ F X Q cr rs h q _ => q [] [] H G cr.rfl' .nil h⟩
theorem da_cons {mr : MA} {tr : TA} (ha : DE X c W e ta ma) (hr : DA X c W es tr mr) (hs : starEach (e :: es) X.env = (false, eval e X.env) :: starEach es X.env := by rfl) : DA X c W (e :: es) (tCons ta tr) (maCons ma mr) := by
  obtain ⟨pa, wa⟩ := ha
  obtain ⟨pr, wr⟩ := hr
  refine ⟨pa_cons pa pr hs, fun H G σ δ F X Q cr rs h q x => ?_⟩
  refine wa H G σ δ _ X _ cr rs h (fun v d H1 G1 g1 r1 h1 => ?_) x
  exact wr H1 G1 σ δ _ X _ (cr.step g1) (rs.step cr g1) h1 (fun vs ds H2 G2 g2 r2 h2 => q _ _ H2 G2 (g1.trans g2) (.cons (r1.mono g2.grow) r2) h2) (x.step g1)
theorem RepL.len_le {G : Hp} {xs : List V} {ds : List D} (r : RepL K G xs ds) {n : Nat} (h : ds.length ≤ n) : xs.length ≤ n := by rw [r.length]; exact h
def mTup (m : MA) : ME := fun δ F X => m δ (fun ds => ds.length ≤ sizeLine ∧ F (.tup ds)) X
def mLst (m : MA) : ME := fun δ F X => m δ (fun ds => ds.length ≤ sizeLine ∧ F (.lst ds)) X
theorem de_tup {x1} {mr : MA} {tr : TA} (h : DA X c W es tr mr) : DE X c W (.Tuple es x1 pos) (tTup tr) (mTup mr) := by
  obtain ⟨p, w⟩ := h
  refine ⟨pe_tup p, fun H G σ δ F X Q cr rs h q x => ?_⟩
  refine w H G σ δ _ X _ cr rs h (fun vs ds H1 G1 g1 r1 h1 => ⟨r1.len_le h1.1, fun p hp => ?_⟩) x
  have g2 := Go.laid (o := .tup vs) g1.sub hp
  exact q _ _ _ _ (g1.trans (g2.lift g1.deal)) (.tup (SqT.of upd_same) (r1.mono g2.grow)) h1.2
theorem de_lst {mr : MA} {tr : TA} (h : DA X c W es tr mr) : DE X c W (.List es pos) (tLst tr) (mLst mr) := by
  obtain ⟨p, w⟩ := h
  refine ⟨pe_lst p, fun H G σ δ F X Q cr rs h q x => ?_⟩
  refine w H G σ δ _ X _ cr rs h (fun vs ds H1 G1 g1 r1 h1 => ⟨r1.len_le h1.1, fun p hp => ?_⟩) x
  have g2 := Go.laid (o := .lst vs) g1.sub hp
  exact q _ _ _ _ (g1.trans (g2.lift g1.deal)) (.lst upd_same (r1.mono g2.grow)) h1.2
end

/-! ### the operations by data -/
def gI (C : Int → Int → Prop) (g : Int → Int → D) (d e : D) (F : D → Prop) : Prop := match d, e with
  | .int i, .int j => C i j ∧ F (g i j)
  | _, _ => False
theorem rd_I {K : Fg} {C : Int → Int → Prop} {g : Int → Int → V} {g' : Int → Int → D} (hg : ∀ i j G, Rep K G (g i j) (g' i j)) : RD K (rI C g) (gI C g') := fun H G x y d e F Q s rx ry h q => by
  unfold gI at h
  split at h
  · rename_i i j
    exact ⟨i, j, rx.int_of, ry.int_of, h.1, q _ _ H G (Go.refl s fun _ _ z => nomatch z) (hg i j G) h.2⟩
  · exact h.elim
def gI0 (g : Int → Int → D) (d e : D) (F : D → Prop) : Prop := match d, e with
  | .int i, .int j => F (g i j)
  | _, _ => False
theorem rd_I0 {K : Fg} {g : Int → Int → V} {g' : Int → Int → D} (hg : ∀ i j G, Rep K G (g i j) (g' i j)) : RD K (rI0 g) (gI0 g') := fun H G x y d e F Q s rx ry h q => by
  unfold gI0 at h
  split at h
  · rename_i i j
    exact ⟨i, j, rx.int_of, ry.int_of, q _ _ H G (Go.refl s fun _ _ z => nomatch z) (hg i j G) h⟩
  · exact h.elim
def gAdd (d e : D) (F : D → Prop) : Prop := match d, e with
  | .int i, .int j => F (.int (i + j))
  | .str a, .str b => a.length + b.length ≤ sizeLine ∧ F (.str (a ++ b))
  | .lst a, .lst b => a.length + b.length ≤ sizeLine ∧ F (.lst (a ++ b))
  | .tup a, .tup b => a ≠ [] ∧ b ≠ [] ∧ a.length + b.length ≤ sizeLine ∧ F (.tup (a ++ b))
  | _, _ => False
theorem DlOk.no {H G : Hp} : DlOk none H G := fun _ _ h => nomatch h
def rAddA (K : Fg) : R2 := fun x y H Q => (rI0 fun i j => .int (i + j)) x y H Q ∨ (∃ i j, x = .str i ∧ y = .str j ∧ i.length + j.length ≤ sizeLine ∧ Q (.str (i ++ j)) H) ∨ rCat x y H Q ∨ rCatT K x y H Q
theorem op_addA {X : Cx} : OpR X (binaryOp .Add) (rAddA X.K) := op_add.or (op_add_str.or (op_cat.or op_catT))
theorem RepL.ne_nil {K : Fg} {G : Hp} {xs : List V} {ds : List D} (r : RepL K G xs ds) (h : ds ≠ []) : xs ≠ [] := by
  cases r with
  | nil => exact absurd rfl h
  | cons _ _ => exact fun z => nomatch z
theorem rd_add {K : Fg} : RD K (rAddA K) gAdd := fun H G x y d e F Q s rx ry h q => by
  unfold gAdd at h
  split at h
  · rename_i i j
    exact .inl ⟨i, j, rx.int_of, ry.int_of, q _ _ H G (Go.refl s .no) (.int _) h⟩
  · rename_i a b
    exact .inr (.inl ⟨a, b, rx.str_of, ry.str_of, h.1, q _ _ H G (Go.refl s .no) (.str _) h.2⟩)
  · obtain ⟨p, xs, e1, h1, r1⟩ := rx.lst_of
    obtain ⟨p', ys, e2, h2, r2⟩ := ry.lst_of
    refine .inr (.inr (.inl ⟨p, p', xs, ys, e1, e2, s _ _ h1, s _ _ h2, by rw [r1.length, r2.length]; exact h.1, fun l hl => ?_⟩))
    have g2 := Go.laid (o := .lst (xs ++ ys)) s hl
    exact q _ _ _ _ g2 (.lst upd_same ((r1.append r2).mono g2.grow)) h.2
  · obtain ⟨p, xs, e1, h1, r1⟩ := rx.tup_of
    obtain ⟨p', ys, e2, h2, r2⟩ := ry.tup_of
    refine .inr (.inr (.inr ⟨p, p', xs, ys, e1, e2, same_t s h1, same_t s h2, r1.ne_nil h.1, by rw [r1.length, r2.length]; exact h.2.2.1, fun z => absurd z (r2.ne_nil h.2.1), fun z l hl => ?_⟩))
    have g2 := Go.laid (o := .tup (xs ++ ys)) s hl
    exact q _ _ _ _ g2 (.tup (SqT.of upd_same) ((r1.append r2).mono g2.grow)) h.2.2.2
  · exact h.elim
end DL

set_option Elab.async false
set_option linter.all false
set_option maxRecDepth 100000
set_option maxHeartbeats 4000000
namespace DL
open PySem L2

/-! ### statements -/
structure MK where
  nx : List Sl → Prop
  rt : D → Prop
  bk : List Sl → Prop := fun _ => False
  ct : List Sl → Prop := fun _ => False
  rs : XD → List Sl → Prop := fun _ _ => False
abbrev MS := List Sl → MK → Prop
structure EndsOk (K : Fg) (c : Ct) (G : Hp) (k : MK) (W : WX) (Y : Ends) : Prop where
  nx : ∀ σ δ H' G', Cr c H' G' → RS K c H' G' σ δ → Same G G' → k.nx δ → Y.nx σ H'
  rt : ∀ v d H' G', Cr c H' G' → Rep K G' v d → Same G G' → k.rt d → Y.rt v H'
  bk : ∀ σ δ H' G', Cr c H' G' → RS K c H' G' σ δ → Same G G' → k.bk δ → Y.bk σ H'
  ct : ∀ σ δ H' G', Cr c H' G' → RS K c H' G' σ δ → Same G G' → k.ct δ → Y.ct σ H'
  rs : ∀ C fs d σ δ H' G', Cr c H' G' → RS K c H' G' σ δ → Same G G' → ExcIs K G' d fs → k.rs (C, fs) δ → W (.ref C) d σ H'
theorem EndsOk.mono {K : Fg} {c : Ct} {G G1 : Hp} {k : MK} {W : WX} {Y : Ends} (e : EndsOk K c G k W Y) (s : Same G G1) : EndsOk K c G1 k W Y :=
  ⟨fun σ δ H' G' a b z => e.nx σ δ H' G' a b (s.trans z), fun v d H' G' a b z => e.rt v d H' G' a b (s.trans z), fun σ δ H' G' a b z => e.bk σ δ H' G' a b (s.trans z), fun σ δ H' G' a b z => e.ct σ δ H' G' a b (s.trans z),
    fun C fs d σ δ H' G' a b z => e.rs C fs d σ δ H' G' a b (s.trans z)⟩
theorem EndsOk.xw {K : Fg} {c : Ct} {G H : Hp} {k : MK} {W : WX} {Y : Ends} {σ : St} {δ : List Sl} (e : EndsOk K c G k W Y) (cr : Cr c H G) (rs : RS K c H G σ δ) : XW K c H G σ (fun x => k.rs x δ) W :=
  fun C fs d H' G' g ex q => e.rs C fs d σ δ H' G' (cr.step g) (rs.step cr g) g.grow ex q
def WS (K : Fg) (c : Ct) (W : WX) (t : TS) (m : MS) : Prop := ∀ H G σ δ (k : MK) (Y : Ends), Cr c H G → RS K c H G σ δ → m δ k → EndsOk K c G k W Y → t Y σ H
structure DS (X : Cx) (c : Ct) (W : WX) (s : Stmt) (t : TS) (m : MS) : Prop where
  p : PS X s t
  w : WS X.K c W t m
structure DSs (X : Cx) (c : Ct) (W : WX) (s : List Stmt) (t : TS) (m : MS) : Prop where
  p : PSs X s t
  w : WS X.K c W t m
section
variable {X : Cx} {c : Ct} {W : WX} {e a b : Expr} {es : List Expr} {st : Stmt} {rest : List Stmt} {pos : Pos} {me ma mb : ME} {m m1 m2 : MS} {K : Fg} {te ta tb : TE} {ts t1 t2 : TS} {tp : TT} {tr : TA}
def msNext : MS := fun δ k => k.nx δ
def msSeq (m1 m2 : MS) : MS := fun δ k => m1 δ { k with nx := fun δ' => m2 δ' k }
theorem dss_nil : DSs X c W [] tNext msNext := ⟨pss_nil, fun H G σ δ k Y cr rs h e => e.nx σ δ H G cr rs (Same.refl _) h⟩
theorem dss_cons (h1 : DS X c W st t1 m1) (h2 : DSs X c W rest t2 m2) : DSs X c W (st :: rest) (tSeq t1 t2) (msSeq m1 m2) := by
  obtain ⟨p1, w1⟩ := h1
  obtain ⟨p2, w2⟩ := h2
  refine ⟨pss_cons p1 p2, fun H G σ δ k Y cr rs h e => ?_⟩
  refine w1 H G σ δ _ _ cr rs h ⟨fun σ' δ' H' G' a b z n => ?_, e.rt, e.bk, e.ct, e.rs⟩
  exact w2 H' G' σ' δ' k Y a b n (e.mono z)
theorem dss_one (h1 : DS X c W st ts m) : DSs X c W [st] ts m := ⟨pss_one h1.p, h1.w⟩
def msRet (me : ME) : MS := fun δ k => me δ k.rt (fun x => k.rs x δ)
theorem ds_ret (he : DE X c W e te me) : DS X c W (.Return (some e) pos) (tRet te) (msRet me) := by
  obtain ⟨p, w⟩ := he
  exact ⟨ps_ret p, fun H G σ δ k Y cr rs h e => w H G σ δ _ _ _ cr rs h (fun v d H' G' g r f => e.rt v d H' G' (cr.step g) r g.grow f) (e.xw cr rs)⟩
def msRetN : MS := fun δ k => k.rt .non
theorem ds_retN : DS X c W (.Return none pos) tRetN msRetN := ⟨ps_retN, fun H G σ δ k Y cr rs h e => e.rt .non .non H G cr .non (Same.refl _) h⟩
def msExpr (me : ME) : MS := fun δ k => me δ (fun _ => k.nx δ) (fun x => k.rs x δ)
theorem ds_expr (he : DE X c W e te me) (hs : swapsWith e none pos.line X.env = pure false := by rfl) : DS X c W (.Expr e pos) (tDrop te) (msExpr me) := by
  obtain ⟨p, w⟩ := he
  exact ⟨ps_expr p hs, fun H G σ δ k Y cr rs h e => w H G σ δ _ _ _ cr rs h (fun v d H' G' g r f => e.nx σ δ H' G' (cr.step g) (rs.step cr g) g.grow f) (e.xw cr rs)⟩
def msIf (p : MT) (m1 m2 : MS) : MS := fun δ k => p δ (fun z => if z = true then m1 δ k else m2 δ k) (fun x => k.rs x δ)
theorem ds_if {t : Expr} {p : MT} {s1 s2 : List Stmt} (ht : DT X c W t tp p) (h1 : DSs X c W s1 t1 m1) (h2 : DSs X c W s2 t2 m2) : DS X c W (.If t s1 s2 pos) (tIfS tp t1 t2) (msIf p m1 m2) := by
  obtain ⟨pt, wt⟩ := ht
  obtain ⟨p1, w1⟩ := h1
  obtain ⟨p2, w2⟩ := h2
  refine ⟨ps_if pt p1 p2, fun H G σ δ k Y cr rs h e => ?_⟩
  refine wt H G σ δ _ _ _ cr rs h (fun z H' G' g f => ?_) (e.xw cr rs)
  cases z with
  | true => exact w1 H' G' σ δ k Y (cr.step g) (rs.step cr g) f (e.mono g.grow)
  | false => exact w2 H' G' σ δ k Y (cr.step g) (rs.step cr g) f (e.mono g.grow)
def msSet (i : Nat) (me : ME) : MS := fun δ k => me δ (fun d => k.nx (δ.set i (.dat d))) (fun x => k.rs x δ)
theorem ws_set {i : Nat} {t : TE} (w : WE K c W t me) : WS K c W (tAsg t (gName i)) (msSet i me) := fun H G σ δ k Y cr rs h e =>
  w H G σ δ _ _ _ cr rs h (fun v d H' G' g r f => e.nx _ _ H' G' (cr.step g) ((rs.step cr g).set i r) g.grow f) (e.xw cr rs)
theorem ds_set (i : Nat) {x : Str} {pos' : Pos} (hN : X.N.Nodup) (hi : X.N[i]? = some x) (hx : Loc X.env.scope x) (he : DE X c W e te me) (hs : swapsWith e (some (.Name x pos')) pos.line X.env = pure false := by rfl) (hf : X.fn x = true ∨ X.env.scope.names.lookup x = some .local := by first | exact .inl rfl | exact .inr rfl | assumption) :
    DS X c W (.Assign [.Name x pos'] e pos) (tAsg te (gName i)) (msSet i me) := by
  obtain ⟨p, w⟩ := he
  exact ⟨ps_set hN hi hx p hs hf, ws_set w⟩
theorem ds_pass : DS X c W (.Pass pos) tNext msNext := ⟨ps_pass, fun H G σ δ k Y cr rs h e => e.nx σ δ H G cr rs (Same.refl _) h⟩
def msBrk : MS := fun δ k => k.bk δ
def msCont : MS := fun δ k => k.ct δ
theorem ds_break : DS X c W (.Break pos) tBreak msBrk := ⟨ps_break, fun H G σ δ k Y cr rs h e => e.bk σ δ H G cr rs (Same.refl _) h⟩
theorem ds_continue : DS X c W (.Continue pos) tCont msCont := ⟨ps_continue, fun H G σ δ k Y cr rs h e => e.ct σ δ H G cr rs (Same.refl _) h⟩
end

/-! ### targets -/
abbrev MG := D → List Sl → (List Sl → Prop) → Prop
def WG (K : Fg) (t : TG) (is : List Nat) (m : MG) : Prop := ∀ (c : Ct) H G σ δ v d (F : List Sl → Prop) (Q : St → Hp → Prop), Same G H → RS K c H G σ δ → Rep K G v d → m d δ F →
  (∀ σ' δ', RS K c H G σ' δ' → (∀ vs, (∀ i ∈ is, i ∈ vs) → wipe σ' vs = wipe σ vs) → F δ' → Q σ' H) → t v σ H Q
def WGs (K : Fg) (t : TGs) (is : List Nat) (m : List D → List Sl → (List Sl → Prop) → Prop) : Prop := ∀ (c : Ct) H G σ δ vs ds (F : List Sl → Prop) (Q : St → Hp → Prop), Same G H → RS K c H G σ δ → RepL K G vs ds → m ds δ F →
  (∀ σ' δ', RS K c H G σ' δ' → (∀ vs, (∀ i ∈ is, i ∈ vs) → wipe σ' vs = wipe σ vs) → F δ' → Q σ' H) → t vs σ H Q
structure DG (X : Cx) (e : Expr) (t : TG) (is : List Nat) (m : MG) : Prop where
  p : PG X e t
  w : WG X.K t is m
structure DGs (X : Cx) (es : List Expr) (t : TGs) (is : List Nat) (m : List D → List Sl → (List Sl → Prop) → Prop) : Prop where
  p : PGs X es t
  w : WGs X.K t is m
theorem wipe_set (σ : St) (i : Nat) (x : Option V) : ∀ vs : List Nat, i ∈ vs → wipe (σ.set i x) vs = wipe σ vs
  | [], h => by cases h
  | v :: vs, h => by
    unfold wipe
    by_cases hi : i ∈ vs
    · rw [wipe_set σ i x vs hi]
    · have e : i = v := by
        rcases List.mem_cons.mp h with h | h
        · exact h
        · exact absurd h hi
      subst e
      have key : ∀ ws : List Nat, i ∉ ws → wipe (σ.set i x) ws = (wipe σ ws).set i x := by
        intro ws
        induction ws with
        | nil => intro _; rfl
        | cons w ws ih =>
          intro hn
          have n1 : i ≠ w := fun z => hn (by simp [z])
          have n2 : i ∉ ws := fun z => hn (by simp [z])
          unfold wipe
          rw [ih n2, List.set_comm _ _ n1]
      rw [key vs hi, List.set_set]
section
variable {X : Cx} {c : Ct} {W : WX} {e a b : Expr} {es : List Expr} {pos : Pos} {K : Fg} {te ta tb : TE} {tg1 : TG} {tgs : TGs} {tr : TA}
def mgName (i : Nat) : MG := fun d δ F => F (δ.set i (.dat d))
theorem dg_name (i : Nat) {x : Str} (hN : X.N.Nodup) (hi : X.N[i]? = some x) (hx : Loc X.env.scope x) (hf : X.fn x = true ∨ X.env.scope.names.lookup x = some .local := by first | exact .inl rfl | exact .inr rfl | assumption) : DG X (.Name x pos) (gName i) [i] (mgName i) :=
  ⟨pg_name hN hi hx hf, fun c H G σ δ v d F Q s rs r h q => q _ _ (rs.set i r) (fun vs hv => wipe_set σ i _ vs (hv i (by simp))) h⟩
def mgNil : List D → List Sl → (List Sl → Prop) → Prop := fun ds δ F => match ds with
  | [] => F δ
  | _ => False
def mgCons (m : MG) (ms : List D → List Sl → (List Sl → Prop) → Prop) : List D → List Sl → (List Sl → Prop) → Prop := fun ds δ F => match ds with
  | d :: ds => m d δ fun δ' => ms ds δ' F
  | [] => False
theorem dgs_nil : DGs X [] gNil [] mgNil := ⟨pgs_nil, fun c H G σ δ vs ds F Q s rs r h q => by
  cases r with
  | nil => exact ⟨rfl, q σ δ rs (fun _ _ => rfl) h⟩
  | cons _ _ => exact h.elim⟩
theorem dgs_cons {i j : List Nat} {m : MG} {ms : List D → List Sl → (List Sl → Prop) → Prop} (h1 : DG X e tg1 i m) (h2 : DGs X es tgs j ms) (hs : (assignEach (e :: es) X.env).map (·.2) = assign e X.env :: (assignEach es X.env).map (·.2) := by rfl) : DGs X (e :: es) (gCons tg1 tgs) (i ++ j) (mgCons m ms) := by
  obtain ⟨p1, w1⟩ := h1
  obtain ⟨p2, w2⟩ := h2
  refine ⟨pgs_cons p1 p2 hs, fun c H G σ δ vs ds F Q s rs r h q => ?_⟩
  cases r with
  | nil => exact h.elim
  | cons ra rr =>
    refine ⟨_, _, rfl, ?_⟩
    refine w1 c H G σ δ _ _ _ _ s rs ra h fun σ1 δ1 rs1 z1 h1 => ?_
    refine w2 c H G σ1 δ1 _ _ _ _ s rs1 rr h1 fun σ2 δ2 rs2 z2 h2 => q σ2 δ2 rs2 (fun vs hv => ?_) h2
    rw [z2 vs fun k hk => hv k (List.mem_append_right _ hk), z1 vs fun k hk => hv k (List.mem_append_left _ hk)]
def mgTup (n : Nat) (ms : List D → List Sl → (List Sl → Prop) → Prop) : MG := fun d δ F => match d with
  | .tup ds => ds.length = n ∧ ms ds δ F
  | _ => False
theorem dg_tup {k n : Nat} {is : List Nat} {ms : List D → List Sl → (List Sl → Prop) → Prop} (hc : X.calm = true) (h : DGs X es tgs is ms) (hn : (assignEach es X.env).length = n := by rfl) (hst : (assignEach es X.env).findIdx? (·.1) = none := by rfl) :
    DG X (.Tuple es k pos) (gTup X.K n tgs) is (mgTup n ms) := by
  obtain ⟨p, w⟩ := h
  refine ⟨pg_tup hc p hn hst, fun c H G σ δ v d F Q s rs r h q => ?_⟩
  unfold mgTup at h
  split at h
  · obtain ⟨a, xs, e1, h1, r1⟩ := r.tup_of
    exact ⟨a, xs, e1, same_t s h1, by rw [r1.length]; exact h.1, w c H G σ δ xs _ F Q s rs r1 h.2 q⟩
  · exact h.elim
/-- target = value, the target a tuple or a name -/
def msAsg (me : ME) (mg : MG) : MS := fun δ k => me δ (fun d => mg d δ k.nx) (fun x => k.rs x δ)
theorem ds_asg {tg : Expr} {is : List Nat} {me : ME} {mg : MG} (he : DE X c W e te me) (hg : DG X tg tg1 is mg) (hs : swapsWithSole [tg] e pos.line X.env = pure false := by rfl) (hw : swappedStores [tg] e X.env = pure none := by rfl)
    (h1 : (assignEach [tg] X.env).map (·.2) = [assign tg X.env] := by rfl) : DS X c W (.Assign [tg] e pos) (tAsg te tg1) (msAsg me mg) := by
  obtain ⟨p, w⟩ := he
  obtain ⟨pg, wg⟩ := hg
  refine ⟨ps_asg p pg hs hw h1, fun H G σ δ k Y cr rs h e => ?_⟩
  refine w H G σ δ _ _ _ cr rs h (fun v d H' G' g r f => ?_) (e.xw cr rs)
  exact wg c H' G' σ δ v d _ _ g.sub (rs.step cr g) r f fun σ' δ' rs' _ n => e.nx σ' δ' H' G' (cr.step g) rs' g.grow n
/-- a, b = x, y -/
def msPar (i j : Nat) (ma : MA) : MS := fun δ k => ma δ (fun ds => match ds with
  | [d, e] => k.nx ((δ.set i (.dat d)).set j (.dat e))
  | _ => False) (fun x => k.rs x δ)
theorem ds_par (i j : Nat) {x y : Str} {ma : MA} {px py pt : Pos} {kt k2 pt2} (hc : X.calm = true) (hN : X.N.Nodup) (hi : X.N[i]? = some x) (hj : X.N[j]? = some y) (hij : i ≠ j)
    (hx : X.env.scope.names.lookup x = some .local) (hy : X.env.scope.names.lookup y = some .local) (ha : DA X c W [a, b] tr ma)
    (hw : swappedStores [.Tuple [.Name x px, .Name y py] kt pt] (.Tuple [a, b] k2 pt2) X.env = pure (some [x, y]) := by rfl)
    (hs : swapsWithSole [.Tuple [.Name x px, .Name y py] kt pt] (.Tuple [a, b] k2 pt2) pos.line X.env = pure false := by rfl) :
    DS X c W (.Assign [.Tuple [.Name x px, .Name y py] kt pt] (.Tuple [a, b] k2 pt2) pos) (tPar i j tr) (msPar i j ma) := by
  obtain ⟨p, w⟩ := ha
  refine ⟨ps_par hc hN hi hj hij hx hy p hw hs, fun H G σ δ k Y cr rs h e => ?_⟩
  refine w H G σ δ _ _ _ cr rs h (fun vs ds H' G' g r f => ?_) (e.xw cr rs)
  split at f
  · cases r with
    | cons r1 rr =>
      cases rr with
      | cons r2 rr =>
        cases rr
        exact ⟨_, _, rfl, e.nx _ _ H' G' (cr.step g) (((rs.step cr g).set i r1).set j r2) g.grow f⟩
  · exact f.elim
end

/-! ### walks -/
def IsWalk (K : Fg) (G0 : Hp) (J : It) (ds : List D) : Prop := ∀ i H G, Same G0 G → Same G H → (∀ d, ds[i]? = some d → J.go i H ∧ ∀ x H', J.yld i H x H' → ∃ G', Go none H G H' G' ∧ Rep K G' x d) ∧ (i = ds.length → J.stop i H)
def WI (K : Fg) (c : Ct) (W : WX) (t : TI) (m : MA) : Prop := ∀ H G σ δ (F : List D → Prop) (X : XC) (R : It → Hp → Prop), Cr c H G → RS K c H G σ δ → m δ F X →
  (∀ J ds H' G', Go c.dl H G H' G' → IsWalk K G' J ds → F ds → R J H') → XW K c H G σ X W → t σ H R
structure DI (X : Cx) (c : Ct) (W : WX) (tg e : Expr) (t : TI) (m : MA) : Prop where
  p : PI X tg e t
  w : WI X.K c W t m
theorem walk_l {K : Fg} {G : Hp} {a : Addr} {xs : List V} {ds : List D} (h : G a = some (.lst xs)) (r : RepL K G xs ds) : IsWalk K G (Itl K a) ds := fun i H G' s s' => by
  have hH : H a = some (.lst xs) := s' _ _ (s _ _ h)
  refine ⟨fun d e => ?_, fun e => ⟨xs, SqL.of hH, by rw [r.length]; omega⟩⟩
  obtain ⟨x, h1, h2⟩ := r.get e
  refine ⟨⟨xs, x, SqL.of hH, h1⟩, fun y H' ⟨e1, e2⟩ => ?_⟩
  subst e1
  have := e2 xs (SqL.of hH)
  rw [h1] at this
  cases this
  exact ⟨G', Go.refl s' .no, h2.mono s⟩
theorem walk_t {K : Fg} {G : Hp} {a : Addr} {xs : List V} {ds : List D} (h : SqT K G a xs) (r : RepL K G xs ds) : IsWalk K G (Itt K a) ds := fun i H G' s s' => by
  have hH : SqT K H a xs := same_t s' (same_t s h)
  refine ⟨fun d e => ?_, fun e => ⟨xs, hH, by rw [r.length]; omega⟩⟩
  obtain ⟨x, h1, h2⟩ := r.get e
  refine ⟨⟨xs, x, hH, h1⟩, fun y H' ⟨e1, e2⟩ => ?_⟩
  subst e1
  have := e2 xs hH
  rw [h1] at this
  cases this
  exact ⟨G', Go.refl s' .no, h2.mono s⟩
def rngD (lo : Int) (n : Nat) : List D := (List.range n).map fun (i : Nat) => D.int (lo + (i : Int))
theorem walk_r {K : Fg} {G : Hp} {lo : Int} {n : Nat} : IsWalk K G (Itr lo n) (rngD lo n) := fun i H G' s s' => by
  refine ⟨fun d e => ?_, fun e => ?_⟩
  · unfold rngD at e
    rw [List.getElem?_map] at e
    by_cases hi : i < n
    · rw [List.getElem?_range hi] at e
      cases e
      refine ⟨hi, fun x H' ⟨e1, e2⟩ => ?_⟩
      subst e1 e2
      exact ⟨G', Go.refl s' .no, .int _⟩
    · rw [List.getElem?_eq_none (by simpa using hi)] at e
      cases e
  · unfold rngD at e
    rw [List.length_map, List.length_range] at e
    exact Nat.le_of_eq e.symm
section
variable {X : Cx} {c : Ct} {W : WX} {e a b tg : Expr} {es : List Expr} {pos p : Pos} {K : Fg} {ma mb me : ME} {mr : MA} {te ta tb : TE} {tr : TA} {ti : TI} {tg1 : TG} {ts : TS}
/-- a list | a tuple walked -/
def miL (ma : ME) : MA := fun δ F X => ma δ (fun d => match d with
  | .lst ds => F ds
  | _ => False) X
def miT (ma : ME) : MA := fun δ F X => ma δ (fun d => match d with
  | .tup ds => F ds
  | _ => False) X
theorem di_list (h : DE X c W e ta ma) : DI X c W tg e (iList X.K ta) (miL ma) := by
  obtain ⟨p, w⟩ := h
  refine ⟨pi_list p, fun H G σ δ F X R cr rs h q x => ?_⟩
  refine w H G σ δ _ _ _ cr rs h (fun v d H' G' g r f => ?_) x
  split at f
  · obtain ⟨a, xs, e1, h1, r1⟩ := r.lst_of
    exact ⟨a, e1, ⟨xs, SqL.of (g.sub _ _ h1)⟩, q _ _ H' G' g (walk_l h1 r1) f⟩
  · exact f.elim
theorem di_tup (h : DE X c W e ta ma) : DI X c W tg e (iTup X.K ta) (miT ma) := by
  obtain ⟨p, w⟩ := h
  refine ⟨pi_tup p, fun H G σ δ F X R cr rs h q x => ?_⟩
  refine w H G σ δ _ _ _ cr rs h (fun v d H' G' g r f => ?_) x
  split at f
  · obtain ⟨a, xs, e1, h1, r1⟩ := r.tup_of
    exact ⟨a, e1, ⟨xs, same_t g.sub h1⟩, q _ _ H' G' g (walk_t h1 r1) f⟩
  · exact f.elim
def miR1 (mr : MA) : MA := fun δ F X => mr δ (fun ds => match ds with
  | [.int j] => -(2 ^ 62) ≤ j ∧ j < 2 ^ 62 ∧ F (rngD 0 j.toNat)
  | _ => False) X
def miR2 (mr : MA) : MA := fun δ F X => mr δ (fun ds => match ds with
  | [.int i, .int j] => (-(2 ^ 62) ≤ i ∧ i < 2 ^ 62 ∧ -(2 ^ 62) ≤ j ∧ j < 2 ^ 62) ∧ F (rngD i (j - i).toNat)
  | _ => False) X
theorem RepL.one {G : Hp} {vs : List V} {d : D} (r : RepL K G vs [d]) : ∃ v, vs = [v] ∧ Rep K G v d := by
  cases r with
  | cons a r => cases r; exact ⟨_, rfl, a⟩
theorem RepL.two {G : Hp} {vs : List V} {d e : D} (r : RepL K G vs [d, e]) : ∃ v u, vs = [v, u] ∧ Rep K G v d ∧ Rep K G u e := by
  cases r with
  | cons a r =>
    cases r with
    | cons b r => cases r; exact ⟨_, _, rfl, a, b⟩
theorem di_range1 (hg : Gl X "range") (hm : X.mg "range" = none) (h : DA X c W [a] tr mr) (hs : starEach [a] X.env = [(false, eval a X.env)] := by rfl) : DI X c W tg (.Call (.Name "range" p) [a] [] pos) (iRng1 tr) (miR1 mr) := by
  obtain ⟨p, w⟩ := h
  refine ⟨pi_range1 hg hm p hs, fun H G σ δ F X R cr rs h q x => ?_⟩
  refine w H G σ δ _ _ _ cr rs h (fun vs ds H' G' g r f => ?_) x
  split at f
  · obtain ⟨v, e1, r1⟩ := r.one
    rw [e1, r1.int_of]
    exact ⟨_, rfl, f.1, f.2.1, q _ _ H' G' g walk_r f.2.2⟩
  · exact f.elim
theorem di_range2 (hg : Gl X "range") (hm : X.mg "range" = none) (h : DA X c W [a, b] tr mr) (hs : starEach [a, b] X.env = [(false, eval a X.env), (false, eval b X.env)] := by rfl) (hs2 : starEach [b] X.env = [(false, eval b X.env)] := by rfl) :
    DI X c W tg (.Call (.Name "range" p) [a, b] [] pos) (iRng2 tr) (miR2 mr) := by
  obtain ⟨p, w⟩ := h
  refine ⟨pi_range2 hg hm p hs hs2, fun H G σ δ F X R cr rs h q x => ?_⟩
  refine w H G σ δ _ _ _ cr rs h (fun vs ds H' G' g r f => ?_) x
  split at f
  · obtain ⟨v, u, e1, r1, r2⟩ := r.two
    rw [e1, r1.int_of, r2.int_of]
    exact ⟨_, _, rfl, f.1, q _ _ H' G' g walk_r f.2⟩
  · exact f.elim

/-! ### for -/
def forD (mg : MG) (mb : MS) : List D → List Sl → MK → Prop
  | [], δ, k => k.nx δ
  | d :: ds, δ, k => mg d δ fun δ' => mb δ' { k with nx := fun δ2 => forD mg mb ds δ2 k, ct := fun δ2 => forD mg mb ds δ2 k, bk := k.nx }
def msFor (mi : MA) (mg : MG) (mb : MS) : MS := fun δ k => mi δ (fun ds => forD mg mb ds δ k) (fun x => k.rs x δ)
theorem ds_for {is : List Nat} {mi : MA} {mg : MG} {mb : MS} {body : List Stmt} (hp : PassesOwn (model X.prog X.w) X.A X.env X.xe) (hc : X.calm = true) (hi : DI X c W tg e ti mi) (hg : DG X tg tg1 is mg) (hb : DSs X c W body ts mb) (hs : ∀ x, foldedSetIterable e X.env x = pure x := by intro _; rfl) :
    DS X c W (.For tg e body [] pos) (tFor ti tg1 ts) (msFor mi mg mb) := by
  obtain ⟨pi, ww⟩ := hi
  obtain ⟨pg, wg⟩ := hg
  obtain ⟨pb, wb⟩ := hb
  refine ⟨ps_for hp hc pi pg pb hs, fun H G σ δ k Y cr rs h e => ?_⟩
  refine ww H G σ δ _ _ _ cr rs h (fun J ds H1 G1 g1 wk f => ?_) (e.xw cr rs)
  have cr1 := cr.step g1
  have e1 := e.mono g1.grow
  refine ⟨fun i n σ H => n = ds.length - i ∧ i ≤ ds.length ∧ ∃ G δ, Cr c H G ∧ RS X.K c H G σ δ ∧ Same G1 G ∧ forD mg mb (ds.drop i) δ k, ⟨ds.length, by simp, Nat.zero_le _, G1, δ, cr1, rs.step cr g1, Same.refl _, f⟩, ?_⟩
  rintro i n σ2 H2 ⟨rfl, hi, G2, δ2, cr2, rs2, s2, f2⟩
  obtain ⟨w1, w2⟩ := wk i H2 G2 s2 cr2.sub
  by_cases hlt : i < ds.length
  · right
    have hd : ds[i]? = some ds[i] := List.getElem?_eq_getElem hlt
    obtain ⟨go, y⟩ := w1 _ hd
    refine ⟨go, ?_⟩
    rw [List.drop_eq_getElem_cons hlt] at f2
    refine ⟨fun σ H => ∃ G δ, Cr c H G ∧ RS X.K c H G σ δ ∧ Same G1 G ∧ forD mg mb (ds.drop (i + 1)) δ k, fun σ' H' z => ⟨ds.length - (i + 1), by omega, rfl, hlt, z⟩, fun x H3 hy => ?_⟩
    obtain ⟨G3, g3, r3⟩ := y x H3 hy
    have g3' := g3.lift cr2.dlok
    refine wg c H3 G3 σ2 δ2 x _ _ _ g3.sub (rs2.step cr2 g3') r3 f2 fun σ4 δ4 rs4 _ f4 => ?_
    have s13 := s2.trans g3.grow
    refine wb H3 G3 σ4 δ4 _ _ (cr2.step g3') rs4 f4 ⟨fun σ' δ' H' G' a b z q => ⟨G', δ', a, b, s13.trans z, q⟩, fun v d H' G' a b z q => e1.rt v d H' G' a b (s13.trans z) q, fun σ' δ' H' G' a b z q => e1.nx σ' δ' H' G' a b (s13.trans z) q,
      fun σ' δ' H' G' a b z q => ⟨G', δ', a, b, s13.trans z, q⟩, fun C fs d σ' δ' H' G' a b z x q => e1.rs C fs d σ' δ' H' G' a b (s13.trans z) x q⟩
  · left
    have he : i = ds.length := by omega
    refine ⟨w2 he, ?_⟩
    rw [he, List.drop_length] at f2
    exact e1.nx σ2 δ2 H2 G2 cr2 rs2 s2 f2
end
end DL

set_option Elab.async false
set_option linter.all false
set_option maxRecDepth 100000
set_option maxHeartbeats 4000000
namespace DL
open PySem L2

theorem Go.mut {dl : Dl} {H G H' G' : Hp} {p : Addr} {o : HO} (g : Go dl H G H' G') (d : DlOk dl H G) (n : H p = none) (n' : G' p = none) : Go dl H G (upd H' p o) G' where
  keep := fun a u h nd => by rw [upd_ne (ne_of_none h n)]; exact g.keep a u h nd
  grow := g.grow
  sub := fun a u h => by rw [upd_ne (ne_of_none h n')]; exact g.sub a u h
  new := g.new
  deal := fun p' l e => by
    obtain ⟨⟨ns, m, h1, h2, h3⟩, g1, g2⟩ := g.deal p' l e
    obtain ⟨⟨_, _, q1, q2, _⟩, _⟩ := d p' l e
    exact ⟨⟨ns, m, by rw [upd_ne (ne_of_none q1 n)]; exact h1, by rw [upd_ne (ne_of_none q2 n)]; exact h2, h3⟩, g1, g2⟩
theorem Go.pub {dl : Dl} {H G H' G' : Hp} {p : Addr} {o : HO} (g : Go dl H G H' G') (d : DlOk dl H G) (n : H p = none) (h : H' p = some o) (n' : G' p = none) : Go dl H G H' (upd G' p o) where
  keep := g.keep
  grow := fun a u q => by rw [upd_ne (ne_of_none (g.grow _ _ q) n')]; exact g.grow _ _ q
  sub := fun a u q => by
    by_cases e : a = p
    · subst e
      rw [upd_same] at q
      cases q
      exact h
    · rw [upd_ne e] at q
      exact g.sub _ _ q
  new := fun a u q => by
    by_cases e : a = p
    · subst e
      exact .inr n
    · rw [upd_ne e] at q
      exact g.new _ _ q
  deal := fun p' l e => by
    obtain ⟨a, g1, g2⟩ := g.deal p' l e
    obtain ⟨⟨_, _, q1, q2, _⟩, _⟩ := d p' l e
    exact ⟨a, by rw [upd_ne (ne_of_none q1 n)]; exact g1, by rw [upd_ne (ne_of_none q2 n)]; exact g2⟩
def wipeD (δ : List Sl) : List Nat → List Sl
  | [] => δ
  | v :: vs => (wipeD δ vs).set v .un
theorem RS.wipe {K : Fg} {c : Ct} {H G : Hp} {σ : St} {δ : List Sl} (r : RS K c H G σ δ) : ∀ vs : List Nat, RS K c H G (wipe σ vs) (wipeD δ vs)
  | [] => r
  | v :: vs => (RS.wipe r vs).forget v none
theorem wipe_wipe (σ : St) : ∀ vs ws : List Nat, (∀ i ∈ ws, i ∈ vs) → L2.wipe (L2.wipe σ ws) vs = L2.wipe σ vs
  | vs, [], _ => rfl
  | vs, w :: ws, h => by
    show L2.wipe ((L2.wipe σ ws).set w none) vs = _
    rw [wipe_set _ _ _ vs (h w (by simp)), wipe_wipe σ vs ws fun i hi => h i (by simp [hi])]

def IsWalkC (K : Fg) (dl : Dl) (H0 G0 : Hp) (J : It) (ds : List D) : Prop := ∀ i H G, Go dl H0 G0 H G → (∀ d, ds[i]? = some d → J.go i H ∧ ∀ x H', J.yld i H x H' → ∃ G', Go none H G H' G' ∧ Rep K G' x d) ∧ (i = ds.length → J.stop i H)
theorem IsWalk.c {K : Fg} {dl : Dl} {H0 G0 : Hp} {J : It} {ds : List D} (w : IsWalk K G0 J ds) : IsWalkC K dl H0 G0 J ds := fun i H G g => w i H G g.grow g.sub
def WIC (K : Fg) (c : Ct) (W : WX) (t : TI) (m : MA) : Prop := ∀ H G σ δ (F : List D → Prop) (X : XC) (R : It → Hp → Prop), Cr c H G → RS K c H G σ δ → m δ F X →
  (∀ J ds H' G', Go c.dl H G H' G' → IsWalkC K c.dl H' G' J ds → F ds → R J H') → XW K c H G σ X W → t σ H R
structure DIC (X : Cx) (c : Ct) (W : WX) (tg e : Expr) (t : TI) (m : MA) : Prop where
  p : PI X tg e t
  w : WIC X.K c W t m
theorem dic_of {X : Cx} {c : Ct} {W : WX} {tg e : Expr} {t : TI} {m : MA} (h : DI X c W tg e t m) : DIC X c W tg e t m :=
  ⟨h.p, fun H G σ δ F Y R cr rs hm q x => h.w H G σ δ F Y R cr rs hm (fun J ds H' G' g wk f => q J ds H' G' g wk.c f) x⟩
/-! ### list comprehensions -/
abbrev W0 : WX := fun _ _ _ _ => False
structure DTs (X : Cx) (c : Ct) (W : WX) (es : List Expr) (t : TT) (m : MT) : Prop where
  p : PTs X es t
  w : WT X.K c W t m
def mYes : MT := fun _ F _ => F true
theorem dts_nil {X : Cx} {c : Ct} {W : WX} : DTs X c W [] tYes mYes := ⟨pts_nil, fun H G σ δ F X Q cr rs h q _ => q true H G cr.rfl' h⟩
theorem dts_one {X : Cx} {c : Ct} {W : WX} {e : Expr} {p : MT} {t : TT} (h : DT X c W e t p) : DTs X c W [e] t p := ⟨pts_one h.p, h.w⟩
def lcD (mg : MG) (mt : MT) (me : ME) (δ : List Sl) (F : List D → Prop) : List D → List D → Prop
  | [], acc => F acc
  | d :: ds, acc => mg d δ fun δ1 => mt δ1 (fun b => if b = true then me δ1 (fun r => lcD mg mt me δ F ds (acc ++ [r])) (fun _ => False) else lcD mg mt me δ F ds acc) (fun _ => False)
def mLc (mi : MA) (mg : MG) (mt : MT) (me : ME) (vs : List Nat) : ME := fun δ F X => mi δ (fun ds => ds.length < sizeLine ∧ lcD mg mt me (wipeD δ vs) (fun r => F (.lst r)) ds []) X
theorem we_lc {K : Fg} {c : Ct} {W : WX} {wi : TI} {g : TG} {tt : TT} {te : TE} {is vs : List Nat} {mi : MA} {mg : MG} {mt : MT} {me : ME} (hv : ∀ i ∈ is, i ∈ vs) (ww : WIC K c W wi mi) (wg : WG K g is mg) (wt : WT K c W0 tt mt) (we : WE K c W0 te me) :
    WE K c W (tLc wi g tt te vs) (mLc mi mg mt me vs) := fun H G σ δ F X Q cr rs h q x => by
  refine ww H G σ δ _ X _ cr rs h (fun J ds H1 G1 g1 wk f => ?_) x
  obtain ⟨hz, f⟩ := f
  have cr1 := cr.step g1
  have rs1 := (rs.step cr g1).wipe vs
  intro D hD
  have nD : G1 D = none := by
    cases z : G1 D with
    | none => rfl
    | some o =>
      rw [g1.sub _ _ z] at hD
      cases hD
  refine ⟨fun i n H' => n = ds.length - i ∧ i ≤ ds.length ∧ ∃ G' acc rr, Go c.dl H1 G1 H' G' ∧ H' D = some (.lst acc) ∧ G' D = none ∧ RepL K G' acc rr ∧ acc.length ≤ i ∧ lcD mg mt me (wipeD δ vs) (fun r => F (.lst r)) (ds.drop i) rr,
    ⟨ds.length, by simp, Nat.zero_le _, G1, [], [], (Go.mine cr1.sub hD).lift cr1.dlok, upd_same, nD, .nil, Nat.le_refl _, f⟩, ?_⟩
  rintro i n H2 ⟨rfl, hi, G2, acc, rr, g2, hA, nG, ra, hl, f2⟩
  obtain ⟨w1, w2⟩ := wk i H2 G2 g2
  by_cases hlt : i < ds.length
  · right
    have hd : ds[i]? = some ds[i] := List.getElem?_eq_getElem hlt
    obtain ⟨go, y⟩ := w1 _ hd
    rw [List.drop_eq_getElem_cons hlt] at f2
    refine ⟨go, fun H' => ∃ G' acc rr, Go c.dl H1 G1 H' G' ∧ H' D = some (.lst acc) ∧ G' D = none ∧ RepL K G' acc rr ∧ acc.length ≤ i + 1 ∧ lcD mg mt me (wipeD δ vs) (fun r => F (.lst r)) (ds.drop (i + 1)) rr,
      fun H' z => ⟨ds.length - (i + 1), by omega, rfl, hlt, z⟩, fun v H3 hy => ?_⟩
    obtain ⟨G3, g3, r3⟩ := y v H3 hy
    have cr2 : Cr c H2 G2 := cr1.step g2
    have rs2 := rs1.step cr1 g2
    have g3' := g3.lift cr2.dlok
    have step : ∀ {H4 G4 : Hp}, Go c.dl H2 G2 H4 G4 → H4 D = some (.lst acc) ∧ G4 D = none := fun {H4 G4} g4 => by
      refine ⟨g4.keep _ _ hA fun p l e => ?_, ?_⟩
      · obtain ⟨⟨_, _, q1, q2, _⟩, _⟩ := cr1.dlok p l e
        exact ⟨fun z => (by rw [z, q1] at hD; cases hD), fun z => (by rw [z, q2] at hD; cases hD)⟩
      · cases z : G4 D with
        | none => rfl
        | some o => rcases g4.new _ _ z with y | y
                    · rw [nG] at y; cases y
                    · rw [hA] at y; cases y
    refine wg c H3 G3 (L2.wipe σ vs) (wipeD δ vs) v _ _ _ g3.sub (rs2.step cr2 g3') r3 f2 fun σ4 δ4 rs4 z4 f4 => ⟨?_, ?_⟩
    · rw [z4 vs hv]
      exact wipe_wipe σ vs vs fun _ h => h
    refine wt H3 G3 σ4 δ4 _ _ _ (cr2.step g3') rs4 f4 (fun b H5 G5 g5 f5 => ?_) XW.no
    have g5' := g3'.trans g5
    cases b with
    | true =>
      show te σ4 H5 _
      refine we H5 G5 σ4 δ4 _ _ _ ((cr2.step g3').step g5) (rs4.step (cr2.step g3') g5) f5 (fun u d H6 G6 g6 r6 f6 => ?_) XW.no
      have g6' := g5'.trans g6
      obtain ⟨h6, n6⟩ := step g6'
      refine ⟨acc, h6, Nat.lt_of_le_of_lt hl (Nat.lt_trans hlt hz), G6, acc ++ [u], rr ++ [d], (g2.trans g6').mut cr1.dlok hD n6, upd_same, n6, (ra.mono g6'.grow).append (.cons r6 .nil), ?_, f6⟩
      rw [List.length_append, List.length_singleton]
      omega
    | false =>
      show (if false = true then _ else _)
      refine iteF ?_
      obtain ⟨h6, n6⟩ := step g5'
      exact ⟨G5, acc, rr, g2.trans g5', h6, n6, ra.mono g5'.grow, by omega, f5⟩
  · left
    have he : i = ds.length := by omega
    refine ⟨w2 he, ?_⟩
    rw [he, List.drop_length] at f2
    have gp := g2.pub cr1.dlok hD hA nG
    refine q _ _ H2 _ (g1.trans gp) (.lst upd_same (ra.mono fun a u z => ?_)) f2
    rw [upd_ne (ne_of_none z nG)]
    exact z
section
variable {X : Cx} {c : Ct} {W : WX} {elt tg iter : Expr} {ifs : List Expr} {scope : Scope} {own : List (Str × Nat)} {is : List Nat} {pos : Pos} {mi : MA} {mg : MG} {mt : MT} {me : ME}
abbrev Blk (X : Cx) (scope : Scope) (s : Shared) (H : Hp) (C : Addr) (cl : List (Str × Addr)) (fp : List Addr) : Cx := X.blk s H scope (compEnvC scope cl C X.env) fp
variable {ti : TI} {tgg : TG} {tt : TT} {te : TE}
theorem de_lc (hc : X.calm = true) (hN : X.N.Nodup) (hi : DIC X c W tg iter ti mi) (ok : BlkOk X.N X.env.scope scope own) (hv : ∀ i ∈ is, i ∈ own.map (·.2))
    (hg : ∀ (s : Shared) (H : Hp) (C : Addr) (cl : List (Str × Addr)) (fp : List Addr), DG (Blk X scope s H C cl fp) tg tgg is mg) (ht : ∀ (s : Shared) (H : Hp) (C : Addr) (cl : List (Str × Addr)) (fp : List Addr), DTs (Blk X scope s H C cl fp) c W0 ifs tt mt)
    (he : ∀ (s : Shared) (H : Hp) (C : Addr) (cl : List (Str × Addr)) (fp : List Addr), DE (Blk X scope s H C cl fp) c W0 elt te me) (hs : ∀ x, foldedSetIterable iter X.env x = pure x := by intro _; rfl) :
    DE X c W (.ListComp elt [⟨tg, iter, ifs, 0⟩] scope pos) (tLc ti tgg tt te (own.map (·.2))) (mLc mi mg mt me (own.map (·.2))) :=
  ⟨pe_lc hc hN hi.p ok (fun s H C cl fp => (hg s H C cl fp).p) (fun s H C cl fp => (ht s H C cl fp).p) (fun s H C cl fp => (he s H C cl fp).p) hs,
    we_lc hv hi.w (hg {} (fun _ => none) 0 [] []).w (ht {} (fun _ => none) 0 [] []).w (he {} (fun _ => none) 0 [] []).w⟩
theorem ds_setLc (i : Nat) {y : Str} {py spos : Pos} (hc : X.calm = true) (hN : X.N.Nodup) (hy : X.N[i]? = some y) (hyl : X.env.scope.names.lookup y = some .local)
    (hsw : swapsWith (.ListComp elt [⟨tg, iter, ifs, 0⟩] scope pos) (some (.Name y py)) spos.line X.env = pure true) (hi : DIC X c W tg iter ti mi) (ok : BlkOk X.N X.env.scope scope own) (hv : ∀ i ∈ is, i ∈ own.map (·.2))
    (hg : ∀ (s : Shared) (H : Hp) (C : Addr) (cl : List (Str × Addr)) (fp : List Addr), DG (Blk X scope s H C cl fp) tg tgg is mg) (ht : ∀ (s : Shared) (H : Hp) (C : Addr) (cl : List (Str × Addr)) (fp : List Addr), DTs (Blk X scope s H C cl fp) c W0 ifs tt mt)
    (he : ∀ (s : Shared) (H : Hp) (C : Addr) (cl : List (Str × Addr)) (fp : List Addr), DE (Blk X scope s H C cl fp) c W0 elt te me)
    (hs : ∀ x, foldedSetIterable iter X.env x = pure x := by intro _; rfl) : DS X c W (.Assign [.Name y py] (.ListComp elt [⟨tg, iter, ifs, 0⟩] scope pos) spos) (tAsg (tLc ti tgg tt te (own.map (·.2))) (gName i)) (msSet i (mLc mi mg mt me (own.map (·.2)))) :=
  ⟨ps_setLc hc hN hy hyl hsw hi.p ok (fun s H C cl fp => (hg s H C cl fp).p) (fun s H C cl fp => (ht s H C cl fp).p) (fun s H C cl fp => (he s H C cl fp).p) hs,
    ws_set (we_lc hv hi.w (hg {} (fun _ => none) 0 [] []).w (ht {} (fun _ => none) 0 [] []).w (he {} (fun _ => none) 0 [] []).w)⟩
end
end DL

set_option Elab.async false
set_option linter.all false
set_option maxRecDepth 100000
set_option maxHeartbeats 4000000
namespace DL
open PySem L2

/-! ### defs -/
abbrev FF := List D → (D → Prop) → XC → Prop
/-- what a def promises: its arguments as data (behind the deal, if there is one) -/
def spD (K : Fg) (n : Nat) (wd : Bool) (f : FF) : Sp := fun vs H Q E => ∃ (G : Hp) (ds : List D) (dl : Dl) (vs' : List V) (F : D → Prop) (X : XC), ds.length = n ∧
  (match wd with
    | false => dl = none ∧ vs = vs'
    | true => ∃ p l, dl = some (p, l) ∧ vs = .ref p :: vs') ∧ Same G H ∧ DlOk dl H G ∧ RepL K G vs' ds ∧ f ds F X ∧
  (∀ v d H' G', Go dl H G H' G' → Rep K G' v d → F d → Q v H') ∧ (∀ C fs d H' G', Go dl H G H' G' → ExcIs K G' d fs → X (C, fs) → E (.ref C) d H')
def dn (wd : Bool) : Nat := if wd = true then 1 else 0
theorem spD_len {K : Fg} {n : Nat} {wd : Bool} {f : FF} {vs : List V} {H : Hp} {Q : VK} {E : XK} (h : spD K n wd f vs H Q E) : vs.length = n + dn wd := by
  obtain ⟨G, ds, dl, vs', F, X, hn, hw, s, d, r, _⟩ := h
  have e := r.length
  cases wd with
  | false =>
    obtain ⟨_, rfl⟩ := hw
    show _ = n + 0
    omega
  | true =>
    obtain ⟨p, l, _, rfl⟩ := hw
    show vs'.length + 1 = n + 1
    omega
def start0 (wd : Bool) (ds : List D) (k : Nat) : List Sl := (if wd = true then [Sl.deal] else []) ++ (ds.map Sl.dat ++ List.replicate k .un)
abbrev WF (E : XK) : WX := fun cls d _ H => E cls d H
theorem dat_at {K : Fg} {c : Ct} {H G : Hp} : ∀ {vs : List V} {ds : List D} (k i : Nat) (s : Sl), RepL K G vs ds → (ds.map Sl.dat ++ List.replicate k .un)[i]? = some s → ∃ x, (vs.map some ++ List.replicate k none)[i]? = some x ∧ SlotOk K c H G x s ∧ ∀ es, s ≠ .own es
  | _, _, k, i, s, .nil, e => by
    have e : (List.replicate k Sl.un)[i]? = some s := e
    show ∃ x, (List.replicate k (none : Option V))[i]? = some x ∧ _
    rw [List.getElem?_replicate] at e
    rw [List.getElem?_replicate]
    split at e
    · rename_i hi
      cases e
      exact ⟨none, if_pos hi, trivial, fun es z => nomatch z⟩
    · cases e
  | _, _, k, 0, s, .cons a r, e => by
    cases e
    exact ⟨_, rfl, ⟨_, rfl, a⟩, fun es z => nomatch z⟩
  | _, _, k, i + 1, s, .cons a r, e => dat_at k i s r e
/-- a def with its arguments -/
theorem rs_start {K : Fg} {H G : Hp} {dl : Dl} {N : List Str} {vs vs' : List V} {ds : List D} {wd : Bool} {n : Nat} (hn : ds.length = n) (hw : match wd with
    | false => dl = none ∧ vs = vs'
    | true => ∃ p l, dl = some (p, l) ∧ vs = .ref p :: vs') (r : RepL K G vs' ds) (hN : n + dn wd ≤ N.length) : RS K ⟨dl, none, H, G⟩ H G (L2.start N vs) (start0 wd ds (N.length - (n + dn wd))) := by
  have e := r.length
  have at_ : ∀ (i : Nat) (s : Sl), (start0 wd ds (N.length - (n + dn wd)))[i]? = some s → ∃ x, (L2.start N vs)[i]? = some x ∧ SlotOk K ⟨dl, none, H, G⟩ H G x s ∧ ∀ es, s ≠ .own es := by
    intro i s h
    cases wd with
    | false =>
      obtain ⟨h1, h2⟩ := hw
      subst h2
      have el : N.length - vs.length = N.length - (n + 0) := by omega
      unfold L2.start
      rw [el]
      exact dat_at _ i s r h
    | true =>
      obtain ⟨p, l, h1, h2⟩ := hw
      subst h2
      have el : N.length - (V.ref p :: vs').length = N.length - (n + 1) := by
        rw [List.length_cons]
        omega
      unfold L2.start
      rw [el]
      cases i with
      | zero =>
        cases h
        exact ⟨_, rfl, ⟨p, l, h1, rfl⟩, fun es z => nomatch z⟩
      | succ i => exact dat_at _ i s r h
  refine ⟨?_, fun i s h => let ⟨x, a, b, _⟩ := at_ i s h; ⟨x, a, b⟩, fun i j p ds es ne h1 _ _ => ?_⟩
  · unfold L2.start start0
    cases wd with
    | false =>
      obtain ⟨h1, h2⟩ := hw
      subst h2
      simp [dn] at hN ⊢
      omega
    | true =>
      obtain ⟨p, l, h1, h2⟩ := hw
      subst h2
      simp [dn] at hN ⊢
      omega
  · obtain ⟨_, _, _, z⟩ := at_ i _ h1
    exact absurd rfl (z ds)
section
variable {P : Program} {w : World} {K : Fg} {mg : Str → Option Value} {base : Heap} {x qual : Str} {params : Arguments} {body : List Stmt} {scope : Scope} {dvs : List V} {kws : List (Str × V)} {f : Addr} {fd : FuncData} {N ps : List Str} {n k : Nat} {wd : Bool} {ff : FF}
/-- THE RULE for a def -/
theorem fn_okD {t : TS} {ms : MS} (F : FunD K x qual params body scope dvs kws f fd) (S : FnScope N ps scope) (hl : ps.length = n + dn wd) (hN : ps.length ≤ N.length)
    (hb : ∀ (c : Ct) (cdv : Value) (A : Around) (outer : List Env) (s : Shared) (H : Hp) (E : XK), Room k (A.deeper (PyProof.Rows.envOfC qual scope s.heap.objs.size f cdv)) → DSs (cxOf (L2.CX P w) P w K mg base N qual scope f cdv A outer s H E) c (WF E) body t ms)
    (hm : ∀ ds G X, ds.length = n → ff ds G X → ms (start0 wd ds (N.length - (n + dn wd))) { nx := fun _ => G .non, rt := G, rs := fun x _ => X x }) : FnOk P w K mg base (L2.CX P w) (k + 1) f fd ps (spD K n wd ff) := by
  refine F.ok S (fun vs H Q E h => (spD_len h).trans hl.symm) (fun cdv A outer s H vs Q E hr h => ?_)
  obtain ⟨G, ds, dl, vs', G0, X0, hn, hw, sm, dk, r, hf, hq, hx⟩ := h
  obtain ⟨p, w'⟩ := hb ⟨dl, none, H, G⟩ cdv A outer s H E hr
  refine ⟨t, p, ?_⟩
  have cr : Cr ⟨dl, none, H, G⟩ H G := ⟨fun _ _ q _ _ => q, Same.refl _, sm, fun _ _ q => .inl q, dk, fun p' l' e => by
    obtain ⟨⟨_, _, q1, q2, _⟩, _⟩ := dk p' l' e
    exact ⟨fun z => (by rw [show H p' = none from z] at q1; cases q1), fun z => (by rw [show H l' = none from z] at q2; cases q2)⟩, fun _ e => nomatch e⟩
  refine w' H G _ _ _ _ cr (rs_start hn hw r (by omega)) (hm ds G0 X0 hn hf) ⟨fun σ δ H' G' a b z q => hq .non .non H' G' (a.go rfl) .non q, fun v d H' G' a b z q => hq v d H' G' (a.go rfl) b q, fun _ _ _ _ _ _ _ q => q.elim, fun _ _ _ _ _ _ _ q => q.elim,
    fun C fs d σ δ H' G' a b z e q => hx C fs d H' G' (a.go rfl) e q⟩
end

/-! ### calls -/
section
variable {X : Cx} {c : Ct} {W : WX} {e a b : Expr} {es : List Expr} {pos p : Pos} {x : Str} {k n : Nat} {f : Addr} {fd : FuncData} {ps : List Str} {ff : FF} {ds : List Value} {dvs : List V} {dd : List D} {mr : MA} {tr : TA}
/-- f(e, ..), without the deal; dd: the defaults that fill up -/
def mCall (ff : FF) (dd : List D) (n : Nat) (mr : MA) : ME := fun δ F X => mr δ (fun ds => (ds ++ dd).length = n ∧ ff (ds ++ dd) F X) X
theorem we_call {K : Fg} (hdd : ∀ G, RepL K G dvs dd) (w : WA K c W tr mr) : WE K c W (tCallSD (spD K n false ff) dvs (fun σ cls d H => W cls d σ H) tr) (mCall ff dd n mr) := fun H G σ δ F X Q cr rs h q x => by
  refine w H G σ δ _ _ _ cr rs h (fun vs ds H' G' g r h1 => ?_) x
  refine ⟨G', ds ++ dd, none, vs ++ dvs, F, X, h1.1, ⟨rfl, rfl⟩, g.sub, .no, r.append (hdd G'), h1.2, fun v d H2 G2 g2 r2 f2 => q v d H2 G2 (g.trans (g2.lift g.deal)) r2 f2, fun C fs d H2 G2 g2 e f2 => x C fs d H2 G2 (g.trans (g2.lift g.deal)) e f2⟩
theorem de_call (F : FnOk X.prog X.w X.K X.mg X.base (L2.CX X.prog X.w) k f fd ps (spD X.K n false ff)) (hr : Room k X.A) (hg : Gl X x) (hm : X.mg x = some (.ref f)) (hk : PySem.W.keepIn X.K (.ref f) = true) (hb : Binds X.K fd ps ds) (hd : Vals dvs ds) (hdd : ∀ G, RepL X.K G dvs dd) (tk : Takes X W)
    (ha : DA X c W (e :: es) tr mr) (hdb : (x == ("__debug__" : Str)) = false := by decide) (he : starEach (e :: es) X.env = (false, eval e X.env) :: starEach es X.env := by rfl) (hpl : (backTo pos (starEach es X.env)).any (·.1) = false := by rfl) :
    DE X c W (.Call (.Name x p) (e :: es) [] pos) (tCallSD (spD X.K n false ff) dvs (fun σ cls d H => W cls d σ H) tr) (mCall ff dd n mr) :=
  ⟨pe_callSD F hr hg hm hk hb hd (passAt tk) ha.p hdb he hpl, we_call hdd ha.w⟩
/-- f(deal, e, ..) -/
def mCallL (i : Nat) (ff : FF) (dd : List D) (n : Nat) (mr : MA) : ME := fun δ F X => (match δ[i]? with
  | some .deal => True
  | _ => False) ∧ mr δ (fun ds => (ds ++ dd).length = n ∧ ff (ds ++ dd) F X) X
theorem we_callL {K : Fg} {i : Nat} (hdd : ∀ G, RepL K G dvs dd) (w : WA K c W tr mr) : WE K c W (tCallSD (spD K n true ff) dvs (fun σ cls d H => W cls d σ H) (tCons (tVar i) tr)) (mCallL i ff dd n mr) := fun H G σ δ F X Q cr rs h q x => by
  obtain ⟨hi, h⟩ := h
  split at hi
  · rename_i e
    obtain ⟨y, h1, p, l, h2, h3⟩ := rs.at_ _ _ e
    subst h3
    refine ⟨_, h1, w H G σ δ _ _ _ cr rs h (fun vs ds H' G' g r h1 => ?_) x⟩
    exact ⟨G', ds ++ dd, c.dl, vs ++ dvs, F, X, h1.1, ⟨p, l, h2, rfl⟩, g.sub, g.deal, r.append (hdd G'), h1.2, fun v d H2 G2 g2 r2 f2 => q v d H2 G2 (g.trans g2) r2 f2, fun C fs d H2 G2 g2 e f2 => x C fs d H2 G2 (g.trans g2) e f2⟩
  · exact hi.elim
theorem de_callL (i : Nat) {z : Str} {zp : Pos} (F : FnOk X.prog X.w X.K X.mg X.base (L2.CX X.prog X.w) k f fd ps (spD X.K n true ff)) (hr : Room k X.A) (hg : Gl X x) (hm : X.mg x = some (.ref f)) (hk : PySem.W.keepIn X.K (.ref f) = true) (hb : Binds X.K fd ps ds) (hd : Vals dvs ds) (hdd : ∀ G, RepL X.K G dvs dd) (tk : Takes X W)
    (hz : PE X (.Name z zp) (tVar i)) (ha : DA X c W es tr mr) (hdb : (x == ("__debug__" : Str)) = false := by decide) (he : starEach (.Name z zp :: es) X.env = (false, eval (.Name z zp) X.env) :: starEach es X.env := by rfl) (hpl : (backTo pos (starEach es X.env)).any (·.1) = false := by rfl) :
    DE X c W (.Call (.Name x p) (.Name z zp :: es) [] pos) (tCallSD (spD X.K n true ff) dvs (fun σ cls d H => W cls d σ H) (tCons (tVar i) tr)) (mCallL i ff dd n mr) :=
  ⟨pe_callSD F hr hg hm hk hb hd (passAt tk) (pa_cons hz ha.p he) hdb he hpl, we_callL hdd ha.w⟩
/-- a built-in called with values: by data -/
def CD (K : Fg) (r : List V → Hp → VK → Prop) (g : List D → (D → Prop) → Prop) : Prop := ∀ H G vs ds (F : D → Prop) (Q : VK), Same G H → RepL K G vs ds → g ds F → (∀ v d H' G', Go none H G H' G' → Rep K G' v d → F d → Q v H') → r vs H Q
def mCB (g : List D → (D → Prop) → Prop) (mr : MA) : ME := fun δ F X => mr δ (fun ds => g ds F) X
theorem we_callB {K : Fg} {r : List V → Hp → VK → Prop} {g : List D → (D → Prop) → Prop} (hr : CD K r g) (w : WA K c W tr mr) : WE K c W (tCB r tr) (mCB g mr) := fun H G σ δ F X Q cr rs h q x => by
  refine w H G σ δ _ _ _ cr rs h (fun vs ds H' G' g1 r1 h1 => ?_) x
  exact hr H' G' vs ds F Q g1.sub r1 h1 fun v d H2 G2 g2 r2 f2 => q v d H2 G2 (g1.trans (g2.lift g1.deal)) r2 f2
theorem de_callB {id : String} {r : List V → Hp → VK → Prop} {g : List D → (D → Prop) → Prop} (hc : CallR X (.builtin id) r) (hr : CD X.K r g) (hg : Gl X x) (hm : X.mg x = none) (hv : bootBuiltins x = some (.builtin id)) (ha : DA X c W (e :: es) tr mr) (hn : x ≠ "__name__" := by decide) (hdb : (x == ("__debug__" : Str)) = false := by decide)
    (he : starEach (e :: es) X.env = (false, eval e X.env) :: starEach es X.env := by rfl) (hpl : (backTo pos (starEach es X.env)).any (·.1) = false := by rfl) : DE X c W (.Call (.Name x p) (e :: es) [] pos) (tCB r tr) (mCB g mr) :=
  ⟨pe_callB hc hg hm hv ha.p hn hdb he hpl, we_callB hr ha.w⟩
theorem de_callTy {T : String} {r : List V → Hp → VK → Prop} {g : List D → (D → Prop) → Prop} (hc : CallR X (.type T) r) (hr : CD X.K r g) (hg : Gl X x) (hm : X.mg x = none) (hv : bootBuiltins x = some (.type T)) (ha : DA X c W (e :: es) tr mr) (hn : x ≠ "__name__" := by decide) (hdb : (x == ("__debug__" : Str)) = false := by decide)
    (he : starEach (e :: es) X.env = (false, eval e X.env) :: starEach es X.env := by rfl) (hpl : (backTo pos (starEach es X.env)).any (·.1) = false := by rfl) : DE X c W (.Call (.Name x p) (e :: es) [] pos) (tCB r tr) (mCB g mr) :=
  ⟨pe_callTy hc hg hm hv ha.p hn hdb he hpl, we_callB hr ha.w⟩
end
def gLen (ds : List D) (F : D → Prop) : Prop := match ds with
  | [.str x] => x.length ≤ sizeLine ∧ F (.int x.length)
  | [.lst xs] => F (.int xs.length)
  | [.tup xs] => F (.int xs.length)
  | _ => False
theorem cd_len {K : Fg} : CD K (fun xs H Q => ∃ x n, xs = [x] ∧ LenV K x H n ∧ Q (.int n) H) gLen := fun H G vs ds F Q s r h q => by
  unfold gLen at h
  split at h
  · obtain ⟨v, e, r1⟩ := r.one
    rw [e, r1.str_of]
    exact ⟨_, _, rfl, ⟨h.1, rfl⟩, q _ _ H G (Go.refl s .no) (.int _) h.2⟩
  · obtain ⟨v, e, r1⟩ := r.one
    obtain ⟨a, xs, e1, h1, r2⟩ := r1.lst_of
    rw [e, e1]
    exact ⟨_, xs.length, rfl, .inl ⟨xs, SqL.of (s _ _ h1), rfl⟩, q _ _ H G (Go.refl s .no) (.int _) (by rw [r2.length]; exact h)⟩
  · obtain ⟨v, e, r1⟩ := r.one
    obtain ⟨a, xs, e1, h1, r2⟩ := r1.tup_of
    rw [e, e1]
    exact ⟨_, xs.length, rfl, .inr ⟨xs, same_t s h1, rfl⟩, q _ _ H G (Go.refl s .no) (.int _) (by rw [r2.length]; exact h)⟩
  · exact h.elim
/-- tuple(x), list(x) -/
def gTuple (ds : List D) (F : D → Prop) : Prop := match ds with
  | [.lst xs] => F (.tup xs)
  | [.tup xs] => F (.tup xs)
  | _ => False
theorem cd_tuple {K : Fg} : CD K (fun xs H Q => ∃ p ys, xs = [.ref p] ∧ ((SqL K H p ys ∧ ∀ l, H l = none → Q (.ref l) (upd H l (.tup ys))) ∨ (SqT K H p ys ∧ Q (.ref p) H))) gTuple := fun H G vs ds F Q s r h q => by
  unfold gTuple at h
  split at h
  · obtain ⟨v, e, r1⟩ := r.one
    obtain ⟨a, xs, e1, h1, r2⟩ := r1.lst_of
    rw [e, e1]
    refine ⟨a, xs, rfl, .inl ⟨SqL.of (s _ _ h1), fun l hl => ?_⟩⟩
    have g2 := Go.laid (o := .tup xs) s hl
    exact q _ _ _ _ g2 (.tup (SqT.of upd_same) (r2.mono g2.grow)) h
  · obtain ⟨v, e, r1⟩ := r.one
    obtain ⟨a, xs, e1, h1, r2⟩ := r1.tup_of
    rw [e, e1]
    exact ⟨a, xs, rfl, .inr ⟨same_t s h1, q _ _ H G (Go.refl s .no) (.tup h1 r2) h⟩⟩
  · exact h.elim
def gList (ds : List D) (F : D → Prop) : Prop := match ds with
  | [.lst xs] => F (.lst xs)
  | [.tup xs] => F (.lst xs)
  | _ => False
theorem cd_list {K : Fg} : CD K (fun xs H Q => ∃ p ys, xs = [.ref p] ∧ (SqL K H p ys ∨ SqT K H p ys) ∧ ∀ l, H l = none → Q (.ref l) (upd H l (.lst ys))) gList := fun H G vs ds F Q s r h q => by
  unfold gList at h
  split at h
  · obtain ⟨v, e, r1⟩ := r.one
    obtain ⟨a, xs, e1, h1, r2⟩ := r1.lst_of
    rw [e, e1]
    refine ⟨a, xs, rfl, .inl (SqL.of (s _ _ h1)), fun l hl => ?_⟩
    have g2 := Go.laid (o := .lst xs) s hl
    exact q _ _ _ _ g2 (.lst upd_same (r2.mono g2.grow)) h
  · obtain ⟨v, e, r1⟩ := r.one
    obtain ⟨a, xs, e1, h1, r2⟩ := r1.tup_of
    rw [e, e1]
    refine ⟨a, xs, rfl, .inr (same_t s h1), fun l hl => ?_⟩
    have g2 := Go.laid (o := .lst xs) s hl
    exact q _ _ _ _ g2 (.lst upd_same (r2.mono g2.grow)) h
  · exact h.elim
/-- all(..), any(..) of a list of bools -/
def blsD : List D → Option (List Bool)
  | [] => some []
  | .bl b :: ds => (blsD ds).map (b :: ·)
  | _ :: _ => none
theorem bls_of {K : Fg} {G : Hp} : ∀ {vs : List V} {ds : List D} {bs : List Bool}, RepL K G vs ds → blsD ds = some bs → vs = bs.map V.bl
  | _, _, _, .nil, e => by cases e; rfl
  | _, _, _, .cons (d := d) a r, e => by
    cases d with
    | bl b =>
      have e : (blsD _).map (b :: ·) = some _ := e
      cases q : blsD _ with
      | none => rw [q] at e; cases e
      | some cs =>
        rw [q] at e
        cases e
        rw [a.bl_of, bls_of r q]
        rfl
    | _ => cases e
def gAll (ds : List D) (F : D → Prop) : Prop := match ds with
  | [.lst xs] => ∃ bs, blsD xs = some bs ∧ F (.bl (bs.all id))
  | _ => False
def gAny (ds : List D) (F : D → Prop) : Prop := match ds with
  | [.lst xs] => ∃ bs, blsD xs = some bs ∧ F (.bl (bs.any id))
  | _ => False
theorem cd_all {K : Fg} : CD K (rAll K) gAll := fun H G vs ds F Q s r h q => by
  unfold gAll at h
  split at h
  · obtain ⟨v, e, r1⟩ := r.one
    obtain ⟨a, xs, e1, h1, r2⟩ := r1.lst_of
    obtain ⟨bs, e2, f⟩ := h
    rw [e, e1]
    exact ⟨a, bs, rfl, SqL.of (by rw [← bls_of r2 e2]; exact s _ _ h1), q _ _ H G (Go.refl s .no) (.bl _) f⟩
  · exact h.elim
theorem cd_any {K : Fg} : CD K (rAny K) gAny := fun H G vs ds F Q s r h q => by
  unfold gAny at h
  split at h
  · obtain ⟨v, e, r1⟩ := r.one
    obtain ⟨a, xs, e1, h1, r2⟩ := r1.lst_of
    obtain ⟨bs, e2, f⟩ := h
    rw [e, e1]
    exact ⟨a, bs, rfl, SqL.of (by rw [← bls_of r2 e2]; exact s _ _ h1), q _ _ H G (Go.refl s .no) (.bl _) f⟩
  · exact h.elim
def gAbs (ds : List D) (F : D → Prop) : Prop := match ds with
  | [.int i] => F (.int (if i < 0 then -i else i))
  | _ => False
theorem cd_abs {K : Fg} : CD K (fun xs H Q => ∃ i, xs = [.int i] ∧ Q (.int (if i < 0 then -i else i)) H) gAbs := fun H G vs ds F Q s r h q => by
  unfold gAbs at h
  split at h
  · obtain ⟨v, e, r1⟩ := r.one
    rw [e, r1.int_of]
    exact ⟨_, rfl, q _ _ H G (Go.refl s .no) (.int _) h⟩
  · exact h.elim
def gInt (ds : List D) (F : D → Prop) : Prop := match ds with
  | [.int i] => F (.int i)
  | [.bl b] => F (.int (if b then 1 else 0))
  | _ => False
theorem cd_int {K : Fg} : CD K (fun xs H Q => (∃ i, xs = [.int i] ∧ Q (.int i) H) ∨ ∃ k, xs = [.bl k] ∧ Q (.int (if k then 1 else 0)) H) gInt := fun H G vs ds F Q s r h q => by
  unfold gInt at h
  split at h
  · obtain ⟨v, e, r1⟩ := r.one
    rw [e, r1.int_of]
    exact .inl ⟨_, rfl, q _ _ H G (Go.refl s .no) (.int _) h⟩
  · obtain ⟨v, e, r1⟩ := r.one
    rw [e, r1.bl_of]
    exact .inr ⟨_, rfl, q _ _ H G (Go.refl s .no) (.int _) h⟩
  · exact h.elim
end DL

set_option Elab.async false
set_option linter.all false
set_option maxRecDepth 100000
set_option maxHeartbeats 4000000
namespace DL
open PySem L2

/-! ### == of data -/
mutual
def toPy : D → PyData
  | .non => .none
  | .bl b => .bool b
  | .int i => .int i
  | .str x => .str x
  | .lst xs => .list (toPys xs)
  | .tup xs => .tuple (toPys xs)
  | .obj _ _ => .none
  | .fx _ => .none
  | .scr _ => .none
  | .ext _ _ => .none
def toPys : List D → List PyData
  | [] => []
  | x :: xs => toPy x :: toPys xs
end
mutual
def eqD : D → D → Bool
  | .non, .non => true
  | .bl a, .bl b => a == b
  | .bl a, .int j => (if a then 1 else 0) == j
  | .int i, .bl b => i == (if b then 1 else 0)
  | .int i, .int j => i == j
  | .str x, .str y => x == y
  | .lst xs, .lst ys => eqDs xs ys
  | .tup xs, .tup ys => eqDs xs ys
  | _, _ => false
def eqDs : List D → List D → Bool
  | [], [] => true
  | x :: xs, y :: ys => eqD x y && eqDs xs ys
  | _, _ => false
end
def plain : Nat → D → Bool
  | _, .non => true
  | _, .bl _ => true
  | _, .int _ => true
  | _, .str x => PyData.strOk x
  | n + 1, .lst xs => xs.all (plain n)
  | n + 1, .tup xs => xs.all (plain n)
  | _, _ => false
section
variable {K : Fg} {G H : Hp}
theorem dp_of (s : Same G H) : ∀ (n : Nat) {v : V} {d : D}, Rep K G v d → plain n d = true → Dp K H v (toPy d)
  | n, _, _, .non, _ => .non
  | n, _, _, .bl b, _ => .bl b
  | n, _, _, .int i, _ => .int i
  | n, _, _, .str x, _ => .str x
  | 0, _, _, .lst h r, p => by cases p
  | n + 1, _, _, .lst h r, p => by
    have all : ∀ {vs : List V} {ds : List D}, RepL K G vs ds → ds.all (plain n) = true → DpAll K H vs (toPys ds) := by
      intro vs ds r
      induction ds generalizing vs with
      | nil => intro _; cases r; exact .nil
      | cons d ds ih =>
        intro q
        rw [List.all_cons, Bool.and_eq_true] at q
        cases r with
        | cons a r => exact .cons (dp_of s n a q.1) (ih r q.2)
    exact .lst (SqL.of (s _ _ h)) (all r p)
  | 0, _, _, .tup h r, p => by cases p
  | n + 1, _, _, .tup h r, p => by
    have all : ∀ {vs : List V} {ds : List D}, RepL K G vs ds → ds.all (plain n) = true → DpAll K H vs (toPys ds) := by
      intro vs ds r
      induction ds generalizing vs with
      | nil => intro _; cases r; exact .nil
      | cons d ds ih =>
        intro q
        rw [List.all_cons, Bool.and_eq_true] at q
        cases r with
        | cons a r => exact .cons (dp_of s n a q.1) (ih r q.2)
    exact .tup (same_t s h) (all r p)
  | n, _, _, .obj _ _, p => by cases n <;> cases p
  | n, _, _, .fx _, p => by cases n <;> cases p
  | n, _, _, .scr _ _, p => by cases n <;> cases p
  | n, _, _, .ext _ _, p => by cases n <;> cases p
end
theorem lay_of : ∀ (n : Nat) (d : D), plain n d = true → PyData.canLay0 (toPy d) = true ∧ (toPy d).depth ≤ n
  | n, .non, _ => ⟨rfl, Nat.zero_le _⟩
  | n, .bl _, _ => ⟨rfl, Nat.zero_le _⟩
  | n, .int _, _ => ⟨rfl, Nat.zero_le _⟩
  | n, .str x, p => ⟨by cases n <;> exact p, Nat.zero_le _⟩
  | 0, .lst _, p => by cases p
  | 0, .tup _, p => by cases p
  | n + 1, .lst xs, p => by
    have all : ∀ ds : List D, ds.all (plain n) = true → PyData.canLayAll0 (toPys ds) = true ∧ PyData.depthAll (toPys ds) ≤ n := by
      intro ds
      induction ds with
      | nil => intro _; exact ⟨rfl, Nat.zero_le _⟩
      | cons d ds ih =>
        intro q
        rw [List.all_cons, Bool.and_eq_true] at q
        obtain ⟨a, b⟩ := lay_of n d q.1
        obtain ⟨c, e⟩ := ih q.2
        exact ⟨by show (PyData.canLay0 (toPy d) && PyData.canLayAll0 (toPys ds)) = true; rw [a, c]; rfl, Nat.max_le.mpr ⟨b, e⟩⟩
    obtain ⟨a, b⟩ := all xs p
    exact ⟨a, Nat.succ_le_succ b⟩
  | n + 1, .tup xs, p => by
    have all : ∀ ds : List D, ds.all (plain n) = true → PyData.canLayAll0 (toPys ds) = true ∧ PyData.depthAll (toPys ds) ≤ n := by
      intro ds
      induction ds with
      | nil => intro _; exact ⟨rfl, Nat.zero_le _⟩
      | cons d ds ih =>
        intro q
        rw [List.all_cons, Bool.and_eq_true] at q
        obtain ⟨a, b⟩ := lay_of n d q.1
        obtain ⟨c, e⟩ := ih q.2
        exact ⟨by show (PyData.canLay0 (toPy d) && PyData.canLayAll0 (toPys ds)) = true; rw [a, c]; rfl, Nat.max_le.mpr ⟨b, e⟩⟩
    obtain ⟨a, b⟩ := all xs p
    exact ⟨a, Nat.succ_le_succ b⟩
  | n, .obj _ _, p => by cases n <;> cases p
  | n, .fx _, p => by cases n <;> cases p
  | n, .scr _, p => by cases n <;> cases p
  | n, .ext _ _, p => by cases n <;> cases p
theorem shaped_of {d : D} (p : plain 20 d = true) : SeqAt.shaped (toPy d) = true := by
  obtain ⟨a, b⟩ := lay_of 20 d p
  show (PyData.canLay0 (toPy d) && decide ((toPy d).depth ≤ 64)) = true
  rw [a, decide_eq_true (by omega : (toPy d).depth ≤ 64)]
  rfl
theorem eqv_of : ∀ (n : Nat) (d e : D), plain n d = true → plain n e = true → PyData.eqv (toPy d) (toPy e) = eqD d e := by
  intro n
  induction n with
  | zero =>
    intro d e p q
    cases d <;> cases e <;> first | rfl | (cases p; done) | (cases q; done)
  | succ n ih =>
    have all : ∀ (ds es : List D), ds.all (plain n) = true → es.all (plain n) = true → PyData.eqvAll (toPys ds) (toPys es) = eqDs ds es := by
      intro ds
      induction ds with
      | nil => intro es _ _; cases es <;> rfl
      | cons d ds ih2 =>
        intro es p q
        cases es with
        | nil => rfl
        | cons e es =>
          rw [List.all_cons, Bool.and_eq_true] at p q
          show (PyData.eqv (toPy d) (toPy e) && PyData.eqvAll (toPys ds) (toPys es)) = (eqD d e && eqDs ds es)
          rw [ih d e p.1 q.1, ih2 es p.2 q.2]
    intro d e p q
    cases d <;> cases e <;> first | rfl | (cases p; done) | (cases q; done) | exact all _ _ p q
def gEq (d e : D) (F : D → Prop) : Prop := plain 20 d = true ∧ plain 20 e = true ∧ F (.bl (eqD d e))
def gNe (d e : D) (F : D → Prop) : Prop := plain 20 d = true ∧ plain 20 e = true ∧ F (.bl (!eqD d e))
theorem rd_eq {K : Fg} : RD K (rEqD K) gEq := fun H G x y d e F Q s rx ry ⟨p, q, f⟩ k =>
  ⟨_, _, dp_of s 20 rx p, dp_of s 20 ry q, shaped_of p, shaped_of q, k _ _ H G (Go.refl s .no) (by rw [eqv_of 20 d e p q]; exact .bl _) f⟩
theorem rd_ne {K : Fg} : RD K (rNeD K) gNe := fun H G x y d e F Q s rx ry ⟨p, q, f⟩ k =>
  ⟨_, _, dp_of s 20 rx p, dp_of s 20 ry q, shaped_of p, shaped_of q, k _ _ H G (Go.refl s .no) (by rw [eqv_of 20 d e p q]; exact .bl _) f⟩
/-! is None -/
def isNon : D → Bool
  | .non => true
  | _ => false
def gIsN (d e : D) (F : D → Prop) : Prop := match e with
  | .non => (∀ v, d ≠ .fx v) ∧ F (.bl (isNon d))
  | _ => False
def gNotN (d e : D) (F : D → Prop) : Prop := match e with
  | .non => (∀ v, d ≠ .fx v) ∧ F (.bl (!isNon d))
  | _ => False
theorem isNon_of {K : Fg} {G : Hp} {v : V} {d : D} (r : Rep K G v d) (h : ∀ v, d ≠ .fx v) : decide (v = .non) = isNon d := by
  cases r with
  | fx v => exact absurd rfl (h v)
  | non => rfl
  | bl _ => rfl
  | int _ => rfl
  | str _ => rfl
  | lst _ _ => rfl
  | tup _ _ => rfl
  | obj _ _ => rfl
  | scr _ _ => rfl
  | ext _ _ => rfl
theorem rd_isN {K : Fg} : RD K (fun x y H Q => y = .non ∧ Q (.bl (decide (x = .non))) H) gIsN := fun H G x y d e F Q s rx ry h k => by
  unfold gIsN at h
  split at h
  · exact ⟨ry.non_of, k _ _ H G (Go.refl s .no) (by rw [isNon_of rx h.1]; exact .bl _) h.2⟩
  · exact h.elim
theorem rd_notN {K : Fg} : RD K (fun x y H Q => y = .non ∧ Q (.bl (!decide (x = .non))) H) gNotN := fun H G x y d e F Q s rx ry h k => by
  unfold gNotN at h
  split at h
  · exact ⟨ry.non_of, k _ _ H G (Go.refl s .no) (by rw [isNon_of rx h.1]; exact .bl _) h.2⟩
  · exact h.elim
/-! in -/
def flatD : D → Bool
  | .non => true
  | .bl _ => true
  | .int _ => true
  | .str _ => true
  | _ => false
theorem flat_of {K : Fg} {G : Hp} {v : V} {d : D} (r : Rep K G v d) (h : flatD d = true) : flatV v = true := by cases r <;> first | rfl | (cases h; done)
theorem flats_of {K : Fg} {G : Hp} : ∀ {vs : List V} {ds : List D}, RepL K G vs ds → ds.all flatD = true → vs.all flatV = true
  | _, _, .nil, _ => rfl
  | _, _, .cons a r, h => by
    rw [List.all_cons, Bool.and_eq_true] at h ⊢
    exact ⟨flat_of a h.1, flats_of r h.2⟩
theorem eqV_of {K : Fg} {G : Hp} {v u : V} {d e : D} (r : Rep K G v d) (q : Rep K G u e) (h : flatD d = true) (k : flatD e = true) : eqV v u = eqD d e := by
  cases r <;> first | (cases h; done) | (cases q <;> first | rfl | (cases k; done))
def inD (d : D) (ds : List D) : Bool := ds.any fun e => eqD e d
theorem inV_of {K : Fg} {G : Hp} {v : V} {d : D} (r : Rep K G v d) (h : flatD d = true) : ∀ {vs : List V} {ds : List D}, RepL K G vs ds → ds.all flatD = true → inV v vs = inD d ds
  | _, _, .nil, _ => rfl
  | _, _, .cons a q, k => by
    rw [List.all_cons, Bool.and_eq_true] at k
    show (eqV _ v || inV v _) = (eqD _ d || inD d _)
    rw [eqV_of a r k.1 h, inV_of r h q k.2]
def rInA (K : Fg) (neg : Bool) : R2 := fun x y H Q => rIn K neg x y H Q ∨ ∃ (c : Nat) (z : Str), x = .str ⟨#[c]⟩ ∧ y = .str z ∧ Q (.bl (if neg then !decide (c ∈ z.cps.toList) else decide (c ∈ z.cps.toList))) H
theorem op_inA {X : Cx} : OpR X (compareOp .In) (rInA X.K false) := op_in_seq.or op_in_sign
theorem op_notInA {X : Cx} : OpR X (compareOp .NotIn) (rInA X.K true) := op_notIn_seq.or op_notIn_sign
def gIn (neg : Bool) (d e : D) (F : D → Prop) : Prop := match e with
  | .lst ds => flatD d = true ∧ ds.all flatD = true ∧ F (.bl (if neg then !inD d ds else inD d ds))
  | .tup ds => flatD d = true ∧ ds.all flatD = true ∧ F (.bl (if neg then !inD d ds else inD d ds))
  | .str z => ∃ c : Nat, d = .str ⟨#[c]⟩ ∧ F (.bl (if neg then !decide (c ∈ z.cps.toList) else decide (c ∈ z.cps.toList)))
  | _ => False
theorem rd_in {K : Fg} {neg : Bool} : RD K (rInA K neg) (gIn neg) := fun H G x y d e F Q s rx ry h k => by
  unfold gIn at h
  split at h
  · obtain ⟨h1, h2, f⟩ := h
    obtain ⟨a, xs, e1, g1, r1⟩ := ry.lst_of
    exact .inl ⟨a, xs, e1, .inl (SqL.of (s _ _ g1)), flat_of rx h1, flats_of r1 h2, k _ _ H G (Go.refl s .no) (by rw [inV_of rx h1 r1 h2]; exact .bl _) f⟩
  · obtain ⟨h1, h2, f⟩ := h
    obtain ⟨a, xs, e1, g1, r1⟩ := ry.tup_of
    exact .inl ⟨a, xs, e1, .inr (same_t s g1), flat_of rx h1, flats_of r1 h2, k _ _ H G (Go.refl s .no) (by rw [inV_of rx h1 r1 h2]; exact .bl _) f⟩
  · obtain ⟨c, e1, f⟩ := h
    subst e1
    exact .inr ⟨c, _, rx.str_of, ry.str_of, k _ _ H G (Go.refl s .no) (.bl _) f⟩
  · exact h.elim
/-! xs[i], t[i], s[i] -/
def gIx (d e : D) (F : D → Prop) : Prop := match d, e with
  | .lst ds, .int i => ∃ r, atI ds i = some r ∧ F r
  | .tup ds, .int i => ∃ r, atI ds i = some r ∧ F r
  | .str z, .int i => z.length ≤ sizeLine ∧ ∃ c, atI z.cps.toList i = some c ∧ F (.str ⟨#[c]⟩)
  | _, _ => False
theorem RepL.atI {K : Fg} {G : Hp} {xs : List V} {ds : List D} (r : RepL K G xs ds) {i : Int} {d : D} (h : L2.atI ds i = some d) : ∃ v, L2.atI xs i = some v ∧ Rep K G v d := by
  unfold L2.atI at h ⊢
  rw [r.length]
  cases e : ixN ds.length i with
  | none => rw [e] at h; cases h
  | some j =>
    rw [e] at h
    exact r.get h
theorem rd_ix {K : Fg} : RD K (rIx K) gIx := fun H G x y d e F Q s rx ry h k => by
  unfold gIx at h
  split at h
  · rename_i ds i
    obtain ⟨r, h1, f⟩ := h
    obtain ⟨a, xs, e1, g1, r1⟩ := rx.lst_of
    obtain ⟨v, h2, r2⟩ := r1.atI h1
    exact .inl ⟨a, xs, i, v, e1, ry.int_of, SqL.of (s _ _ g1), h2, k _ _ H G (Go.refl s .no) r2 f⟩
  · rename_i ds i
    obtain ⟨r, h1, f⟩ := h
    obtain ⟨a, xs, e1, g1, r1⟩ := rx.tup_of
    obtain ⟨v, h2, r2⟩ := r1.atI h1
    exact .inr (.inl ⟨a, xs, i, v, e1, ry.int_of, same_t s g1, h2, k _ _ H G (Go.refl s .no) r2 f⟩)
  · rename_i z i
    obtain ⟨hz, c, h1, f⟩ := h
    exact .inr (.inr ⟨z, i, c, rx.str_of, ry.int_of, hz, h1, k _ _ H G (Go.refl s .no) (.str _) f⟩)
  · exact h.elim
section
variable {X : Cx} {c : Ct} {W : WX} {e a b : Expr} {es : List Expr} {pos p : Pos} {ma mb : ME} {ta tb : TE}
theorem de_ix (ha : DE X c W a ta ma) (hb : DE X c W b tb mb) (hs : PlainIx b) : DE X c W (.Subscript a b pos) (tOp (rIx X.K) ta tb) (mOp gIx ma mb) := ⟨pe_ix ix_seq ha.p hb.p hs, we_op rd_ix ha.w hb.w⟩
end
/-! slices -/
abbrev MO := List Sl → (Option Int → Prop) → XC → Prop
structure DO (X : Cx) (c : Ct) (W : WX) (e : Option Expr) (t : TO) (m : MO) : Prop where
  p : PO X e t
  w : ∀ H G σ δ (F : Option Int → Prop) (Y : XC) (Q : Option Int → Hp → Prop), Cr c H G → RS X.K c H G σ δ → m δ F Y → (∀ o H' G', Go c.dl H G H' G' → F o → Q o H') → XW X.K c H G σ Y W → t σ H Q
def moNone : MO := fun _ F _ => F none
def moSome (m : ME) : MO := fun δ F X => m δ (fun d => match d with
  | .int i => F (some i)
  | _ => False) X
def cutD {α : Type} (xs : List α) (lo hi : Option Int) : List α := (xs.drop (HT.sIx xs.length 0 lo)).take (HT.sIx xs.length xs.length hi - HT.sIx xs.length 0 lo)
def gSl (d : D) (lo hi : Option Int) (F : D → Prop) : Prop := match d with
  | .lst ds => F (.lst (cutD ds lo hi))
  | .tup ds => (¬ (HT.sIx ds.length 0 lo = 0 ∧ HT.sIx ds.length ds.length hi = ds.length) ∧ F (.tup (cutD ds lo hi))) ∨ False
  | .str z => z.length ≤ sizeLine ∧ F (.str (cutS z lo hi))
  | .scr ds => F (.lst (cutD ds lo hi))
  | _ => False
def mSl (ma : ME) (ml mh : MO) : ME := fun δ F X => ma δ (fun d => ml δ (fun lo => mh δ (fun hi => gSl d lo hi F) X) X) X
def rSlA (K : Fg) : V → Option Int → Option Int → Hp → VK → Prop := fun x lo hi H Q => rSlL K x lo hi H Q ∨ rSlT K x lo hi H Q ∨ rSlS x lo hi H Q
theorem sl_A {X : Cx} : SlR X (rSlA X.K) := sl_list.or (sl_tup.or sl_str)
theorem RepL.cut {K : Fg} {G : Hp} {xs : List V} {ds : List D} (r : RepL K G xs ds) (lo hi : Option Int) : RepL K G (cutV xs lo hi) (cutD ds lo hi) := by
  unfold cutV cutD
  rw [r.length]
  exact (r.drop _).take _
theorem r_sl {K : Fg} {H G : Hp} {x : V} {d : D} {lo hi : Option Int} {F : D → Prop} {Q : VK} (s : Same G H) (r : Rep K G x d) (h : gSl d lo hi F) (k : ∀ v d' H' G', Go none H G H' G' → Rep K G' v d' → F d' → Q v H') : rSlA K x lo hi H Q := by
  unfold gSl at h
  split at h
  · obtain ⟨a, xs, e1, g1, r1⟩ := r.lst_of
    refine .inl ⟨a, xs, e1, SqL.of (s _ _ g1), fun p hp => ?_⟩
    have g2 := Go.laid (o := .lst (cutV xs lo hi)) s hp
    exact k _ _ _ _ g2 (.lst upd_same ((r1.cut lo hi).mono g2.grow)) h
  · rcases h with h | h
    · obtain ⟨a, xs, e1, g1, r1⟩ := r.tup_of
      refine .inr (.inl ⟨a, xs, e1, same_t s g1, by rw [r1.length]; exact h.1, fun p hp => ?_⟩)
      have g2 := Go.laid (o := .tup (cutV xs lo hi)) s hp
      exact k _ _ _ _ g2 (.tup (SqT.of upd_same) ((r1.cut lo hi).mono g2.grow)) h.2
    · exact h.elim
  · exact .inr (.inr ⟨_, r.str_of, h.1, k _ _ H G (Go.refl s .no) (.str _) h.2⟩)
  · obtain ⟨a, xs, e1, g1, r1⟩ := r.scr_of
    refine .inl ⟨a, xs, e1, same_l s g1, fun p hp => ?_⟩
    have g2 := Go.laid (o := .lst (cutV xs lo hi)) s hp
    exact k _ _ _ _ g2 (.lst upd_same ((r1.cut lo hi).mono g2.grow)) h
  · exact h.elim
section
variable {X : Cx} {c : Ct} {W : WX} {e a b : Expr} {es : List Expr} {pos p p2 : Pos} {ma mb : ME} {ta tb : TE} {lo hi : Option Expr} {tl th : TO} {ml mh : MO}
theorem do_none : DO X c W none tNoPart moNone := ⟨po_none, fun H G σ δ F Y Q cr rs h q _ => q none H G cr.rfl' h⟩
theorem do_some (h : DE X c W e ta ma) : DO X c W (some e) (tPart ta) (moSome ma) := ⟨po_some h.p, fun H G σ δ F Y Q cr rs hm q x => by
  refine h.w H G σ δ _ _ _ cr rs hm (fun v d H' G' g r f => ?_) x
  split at f
  · exact ⟨_, r.int_of, q _ H' G' g f⟩
  · exact f.elim⟩
theorem de_sl (ha : DE X c W a ta ma) (hl : DO X c W lo tl ml) (hh : DO X c W hi th mh) : DE X c W (.Subscript a (.Slice lo hi none p2) pos) (tSl (rSlA X.K) ta tl th) (mSl ma ml mh) := by
  refine ⟨pe_slice sl_A ha.p hl.p hh.p, fun H G σ δ F Y Q cr rs hm q x => ?_⟩
  refine ha.w H G σ δ _ _ _ cr rs hm (fun v d H1 G1 g1 r1 h1 => ?_) x
  refine hl.w H1 G1 σ δ _ _ _ (cr.step g1) (rs.step cr g1) h1 (fun o H2 G2 g2 h2 => ?_) (x.step g1)
  have g12 := g1.trans g2
  refine hh.w H2 G2 σ δ _ _ _ (cr.step g12) (rs.step cr g12) h2 (fun o2 H3 G3 g3 h3 => ?_) (x.step g12)
  exact r_sl g3.sub ((r1.mono g2.grow).mono g3.grow) h3 fun v d' H' G' g4 r4 f => q v d' H' G' ((g12.trans g3).trans (g4.lift g3.deal)) r4 f
/-- x[::-1] of a list -/
def mRev (ma : ME) : ME := fun δ F X => ma δ (fun d => match d with
  | .lst ds => F (.lst ds.reverse)
  | _ => False) X
theorem de_rev {k : Nat} {p1 p3 : Pos} (ha : DE X c W a ta ma) : DE X c W (.Subscript a (.Slice none none (some (.UnaryOp .USub (.Constant (.int 1) k p1) p2)) p3) pos) (tRevL X.K ta) (mRev ma) := by
  refine ⟨pe_revL ha.p, fun H G σ δ F Y Q cr rs hm q x => ?_⟩
  refine ha.w H G σ δ _ _ _ cr rs hm (fun v d H1 G1 g1 r1 h1 => ?_) x
  split at h1
  · obtain ⟨b, xs, e1, g2, r2⟩ := r1.lst_of
    refine ⟨b, xs, e1, SqL.of (g1.sub _ _ g2), fun p hp => ?_⟩
    have g3 := Go.laid (o := .lst xs.reverse) g1.sub hp
    exact q _ _ _ _ (g1.trans (g3.lift g1.deal)) (.lst upd_same (r2.rev.mono g3.grow)) h1
  · exact h1.elim
end
/-! list * int -/
def gRep (d e : D) (F : D → Prop) : Prop := match d, e with
  | .int i, .int j => CMul i j ∧ F (.int (i * j))
  | .lst ds, .int k => -(2 ^ 63) ≤ k ∧ k < 2 ^ 63 ∧ ds.length * k.toNat ≤ sizeLine ∧ F (.lst (List.replicate k.toNat ds).flatten)
  | _, _ => False
def rMulA : R2 := fun x y H Q => rI CMul (fun i j => .int (i * j)) x y H Q ∨ rRep x y H Q
theorem op_mulA {X : Cx} : OpR X (binaryOp .Mult) rMulA := op_mul.or op_rep
theorem rd_mul {K : Fg} : RD K rMulA gRep := fun H G x y d e F Q s rx ry h k => by
  unfold gRep at h
  split at h
  · rename_i i j
    exact .inl ⟨i, j, rx.int_of, ry.int_of, h.1, k _ _ H G (Go.refl s .no) (.int _) h.2⟩
  · rename_i ds n
    obtain ⟨a, xs, e1, g1, r1⟩ := rx.lst_of
    refine .inr ⟨a, n, xs, e1, ry.int_of, s _ _ g1, h.1, h.2.1, by rw [r1.length]; exact h.2.2.1, fun p hp => ?_⟩
    have g2 := Go.laid (o := .lst (List.replicate n.toNat xs).flatten) s hp
    exact k _ _ _ _ g2 (.lst upd_same ((r1.rep _).mono g2.grow)) h.2.2.2
  · exact h.elim
end DL

set_option Elab.async false
set_option linter.all false
set_option maxRecDepth 100000
set_option maxHeartbeats 4000000
namespace DL
open PySem L2 PySem.Spec PyProof.Rows

/-! ### len(set(texts)) -/
def ddS (acc : List Str) : List Str → List Str
  | [] => acc
  | x :: xs => if x ∈ acc then ddS acc xs else ddS (acc ++ [x]) xs
theorem ddS_append (ys : List Str) (y : Str) : ∀ acc, ddS acc (ys ++ [y]) = if y ∈ ddS acc ys then ddS acc ys else ddS acc ys ++ [y] := by
  induction ys with
  | nil => intro acc; rfl
  | cons x xs ih =>
    intro acc
    show (if x ∈ acc then ddS acc (xs ++ [y]) else ddS (acc ++ [x]) (xs ++ [y])) = _
    by_cases h : x ∈ acc
    · rw [if_pos h, ih acc]
      show _ = if y ∈ (if x ∈ acc then ddS acc xs else ddS (acc ++ [x]) xs) then _ else _
      rw [if_pos h]
      show _ = if _ then (if x ∈ acc then ddS acc xs else ddS (acc ++ [x]) xs) else (if x ∈ acc then ddS acc xs else ddS (acc ++ [x]) xs) ++ [y]
      rw [if_pos h]
    · rw [if_neg h, ih (acc ++ [x])]
      show _ = if y ∈ (if x ∈ acc then ddS acc xs else ddS (acc ++ [x]) xs) then _ else _
      rw [if_neg h]
      show _ = if _ then (if x ∈ acc then ddS acc xs else ddS (acc ++ [x]) xs) else (if x ∈ acc then ddS acc xs else ddS (acc ++ [x]) xs) ++ [y]
      rw [if_neg h]
theorem ddS_len (xs : List Str) : ∀ acc, (ddS acc xs).length ≤ acc.length + xs.length := by
  induction xs with
  | nil => intro acc; exact Nat.le_refl _
  | cons x xs ih =>
    intro acc
    show (if x ∈ acc then ddS acc xs else ddS (acc ++ [x]) xs).length ≤ _
    rw [List.length_cons]
    split
    · have := ih acc
      omega
    · have := ih (acc ++ [x])
      rw [List.length_append, List.length_singleton] at this
      omega
def hasS (xs : List Str) (k : Str) : Bool := decide (k ∈ ddS [] xs)
section
variable {pg : Program} {wo : World} {Ar : Around} {Rs : Result → Shared → Prop} {It : Addr} {fp wr : List Addr} {Gn : Array GenState → Array GenState → Prop} {n : Nat} {Pi : Nat → Value → Prop} {St : Nat → Shared → Prop}
theorem set_loopT (Wk : WalksS pg wo Ar.in1 It fp wr Gn n Pi St) (S : Addr) (nf : S ∉ fp) (xs : List Str) (el : xs.length = n) (few : n + 1 < scanBound)
    (iv : ∀ i v, Pi i v → ∃ t, v = .str (xs.getD i Str.empty) t) : ∀ (d i : Nat) (z : Shared), n - i = d → i ≤ n → St i z → z.heap.SetOf (strKind pg wo) S (hasS (xs.take i)) (ddS [] (xs.take i)).length →
      (∀ z', Moved (S :: wr) Gn z z' → z'.heap.SetOf (strKind pg wo) S (hasS xs) (ddS [] xs).length → Rs (.ok (.ret .none)) z') → codeAny (model pg wo) Ar (.builtin "set.update.loop" ⟨[.ref S, .ref It], []⟩) Rs z := by
  have nw : S ∉ wr := fun h => nf (Wk.sub _ h)
  have up : ∀ b ∈ wr, b ∈ S :: wr := fun b hb => List.mem_cons_of_mem _ hb
  intro d
  induction d with
  | zero =>
    intro i z hd hi at_ has fin
    obtain rfl : i = n := by omega
    refine codeAny_builtin F.entry_set_update_loop ?_
    rw [Around.under_plainId F.plain_set_update_loop _]
    show wpAny _ Ar.in1 (pyNext (.ref It) >>= _) _ _ z
    refine wpAny_bind (Wk.done z _ _ at_ fun z' mv => ?_)
    show wpAny _ Ar.in1 (ret Value.none) _ _ z'
    refine wpAny_pure (fin z' (mv.mono up) ?_)
    rw [List.take_of_length_le (Nat.le_of_eq el)] at has
    obtain ⟨o, es, ep, t, ho, more⟩ := has
    exact ⟨o, es, ep, t, mv.heap S _ nw ho, more⟩
  | succ d ih =>
    intro i z hd hi at_ has fin
    have lt : i < n := by omega
    have ltx : i < xs.length := by omega
    have eg : xs.getD i Str.empty = xs[i] := by rw [List.getD_eq_getElem?_getD, List.getElem?_eq_getElem ltx]; rfl
    have et : xs.take (i + 1) = xs.take i ++ [xs[i]] := by rw [List.take_succ, List.getElem?_eq_getElem ltx]; rfl
    refine codeAny_builtin F.entry_set_update_loop ?_
    rw [Around.under_plainId F.plain_set_update_loop _]
    show wpAny _ Ar.in1 (pyNext (.ref It) >>= _) _ _ z
    refine wpAny_bind (Wk.item i z _ _ lt at_ fun v z' pv at' mv => ?_)
    obtain ⟨t, rfl⟩ := iv i v pv
    have has' : z'.heap.SetOf (strKind pg wo) S (hasS (xs.take i)) (ddS [] (xs.take i)).length := by
      obtain ⟨o, es, ep, tb, ho, more⟩ := has
      exact ⟨o, es, ep, tb, mv.heap S _ nw ho, more⟩
    rw [eg]
    show wpAny _ Ar.in1 (holding [Value.str xs[i] t] (setAdd S (.str xs[i] t)) >>= _) _ _ z'
    refine wpAny_bind (wpAny_holding ?_)
    unfold setAdd
    refine wpAny_holding ?_
    refine wpAny_bind ((strKind pg wo).pyHash (k := xs[i]) (strKind_is _ _ _ _) ?_)
    have room : (ddS [] (xs.take i)).length + 1 < scanBound := by
      have h1 := ddS_len (xs.take i) []
      have h2 : (xs.take i).length ≤ i := by rw [List.length_take]; exact Nat.min_le_left _ _
      have h3 : ([] : List Str).length = 0 := rfl
      omega
    refine wpAny_setAddHashed_of (knd := strKind pg wo) (s := { z' with toks := z'.toks + 1 }) (strKind_is _ _ _ _) rfl has' room fun h' sb has2 => ?_
    have next : h'.SetOf (strKind pg wo) S (hasS (xs.take (i + 1))) (ddS [] (xs.take (i + 1))).length := by
      refine SetOf_congr has2 (fun k => ?_) ?_
      · unfold hasS
        rw [et, ddS_append]
        by_cases h : xs[i] ∈ ddS [] (xs.take i)
        · rw [if_pos h]
          by_cases q : k = xs[i]
          · subst q
            simp [h]
          · simp [q]
        · rw [if_neg h]
          simp [List.mem_append]
      · rw [et, ddS_append]
        unfold hasS
        by_cases h : xs[i] ∈ ddS [] (xs.take i)
        · rw [if_pos h, if_pos (decide_eq_true h)]
        · rw [if_neg h, if_neg (by simpa using h), List.length_append, List.length_singleton]
    refine wpAny_pure ⟨plainId_quiet F.plain_set_update_loop _, ih (i + 1) _ (by omega) lt (Wk.frame _ z' _ _ at' (Nat.le_succ _) fun b hb o e => ?_) next fun z2 mv2 has3 => ?_⟩
    · rw [sb.2 b fun q : b = S => nf (by rw [← q]; exact hb)]
      exact e
    · refine fin z2 (Moved.trans Wk.gtrans ((mv.mono up).then_heap (Nat.le_succ _) fun b o hb e => ?_) mv2) has3
      rw [sb.2 b fun q : b = S => hb (by rw [q]; exact List.mem_cons_self)]
      exact e
end
section
variable {pg : Program} {wo : World} {Ar : Around} {Er : Value → Shared → Prop} {st : Shared}
/-- set(x) for any x that has an iterator of texts -/
theorem set_of_texts {l : Addr} {xs : List Str} {Q : Value → Shared → Prop} {T : String} {ol : Obj} (hh : Ar.handled = none) (few : xs.length + 1 < scanBound) (hol : st.heap.get? l = some ol) (hT : ol.cls = .type T)
    (n1 : isSubtype (.type T) (.type "set") = pure false) (n2 : isSubtype (.type T) (.type "frozenset") = pure false) (n3 : (Value.type T == Value.type "dict") = false)
    (itr : ∀ (led : Bool) (A2 : Around) (E2 : Value → Shared → Prop) (Q2 : Value → Shared → Prop), A2.handled = none →
      (∀ (hp : Heap) (It : Addr) (fp wr : List Addr) (Gn : Array GenState → Array GenState → Prop) (Pi : Nat → Value → Prop) (St : Nat → Shared → Prop),
        (∀ b o, (st.heap.push { cls := .type "set", dict := none, data := .set #[] 0 (.fresh 0 0 led) }).get? b = some o → hp.get? b = some o) → (∀ A3 : Around, A3.handled = none → WalksS pg wo A3 It fp wr Gn xs.length Pi St) → st.heap.objs.size ∉ fp →
        (∀ g1 g2, Gn g1 g2 → g2 = g1) → (∀ b ∈ wr, st.heap.objs.size < b) → (∀ i v, Pi i v → ∃ t, v = .str (xs.getD i Str.empty) t) → St 0 { st with heap := hp } → Q2 (.ref It) { st with heap := hp }) →
      wpAny (model pg wo) A2 (pyIter (.ref l)) Q2 E2 { st with heap := st.heap.push { cls := .type "set", dict := none, data := .set #[] 0 (.fresh 0 0 led) } })
    (h : ∀ (h' : Heap) (tk : Nat), h'.SetOf (strKind pg wo) st.heap.objs.size (hasS xs) (ddS [] xs).length → (∀ b o, b < st.heap.objs.size → st.heap.get? b = some o → h'.get? b = some o) → Q (.ref st.heap.objs.size) { st with heap := h', toks := tk }) :
    wpAny (model pg wo) Ar (call (.type "set") [.ref l]) Q Er st := by
  obtain ⟨c0, t0, m0⟩ := PySem.F.called_set.mro
  have m1 := PySem.F.called_set.made
  have m2 := PySem.F.called_set.sub
  refine wpAny_call (codeAny_of_tree ?_)
  show wpAny _ _ (callAny (.type "set") _) _ _ _
  refine wpAny_pure ⟨Code.quiet_builtin _ (by decide +kernel), codeAny_builtin PySem.F.entry_type_call ?_⟩
  rw [Around.under_plain (weight_type_call_type "set" [.ref l] []) rfl]
  have m3 := PySem.F.called_set.notType
  have m4 := PySem.F.called_set.canCreate
  have m5 := PySem.F.typeCall_set_1 (.ref l)
  repeat (any_goals (first | assumption | wp_step))
  refine codeAny_mono (code_set_new_1 (.ref l) (E := Er) (Q₁ := fun ob z => ∃ led : Bool, ob = .ref st.heap.objs.size ∧ z = { st with heap := st.heap.push { cls := .type "set", dict := none, data := .set #[] 0 (.fresh 0 0 led) } }) fun led => ⟨led, rfl, rfl⟩) fun r z hr => ?_
  cases r with
  | error e => exact hr
  | ok fl =>
    cases fl with
    | ret ob =>
      obtain ⟨led, rfl, rfl⟩ := hr
      have hS : (st.heap.push { cls := .type "set", dict := none, data := .set #[] 0 (.fresh 0 0 led) }).get? st.heap.objs.size = some { cls := .type "set", dict := none, data := .set #[] 0 (.fresh 0 0 led) } := Heap.get?_push_size _ rfl
      have tyS : Shared.TypeIs { st with heap := st.heap.push { cls := .type "set", dict := none, data := .set #[] 0 (.fresh 0 0 led) } } (.ref st.heap.objs.size) "set" := ⟨_, hS, rfl⟩
      have m6 := PySem.F.called_set.init.lookup
      have m7 := PySem.F.called_set.init.bind (.ref st.heap.objs.size)
      repeat (any_goals (first | assumption | wp_step))
      refine codeAny_mono (codeAny_call_builtin (R := wants (fun v z2 => v = .none ∧ ∃ h' tk, z2 = { st with heap := h', toks := tk } ∧ h'.SetOf (strKind pg wo) st.heap.objs.size (hasS xs) (ddS [] xs).length ∧
          (∀ b o, b < st.heap.objs.size → st.heap.get? b = some o → h'.get? b = some o)) Er) PySem.F.called_set.init.plain PySem.F.entry_set_init (check_set_init_1 tyS ?_)) fun r2 z2 hr2 => ?_
      · obtain ⟨oc, od, oda, osl⟩ := ol
        dsimp only at hT
        subst hT
        have hol2 : (st.heap.push { cls := .type "set", dict := none, data := .set #[] 0 (.fresh 0 0 led) }).get? l = some { cls := .type T, dict := od, data := oda, slots := osl } := Heap.get?_push_of_some _ hol
        unfold Builtin.«set.__init__» noKeywords Builtin.Frozenset.updateFrom
        generalize hPI : pyIter = PI
        wp_walk
        subst hPI
        refine itr led _ _ _ (by simp [hh]) fun hp It fp wr Gn Pi St kp Wk nf ge wb iv st0 => ?_
        refine wpAny_bind (wpAny_runValue ?_)
        refine set_loopT (Wk _ (by simp [hh])) st.heap.objs.size nf xs rfl few iv (xs.length - 0) 0 _ (by omega) (Nat.zero_le _) st0 ?_ ?_
        · exact SetOf_congr ((setObjOf_fresh (knd := strKind pg wo) led).setOf (kp _ _ hS) (by unfold scanBound; omega)) (fun _ => rfl) rfl
        · intro z' mv has
          obtain ⟨h', g', d', tk', os'⟩ := z'
          have eg : g' = st.gens := ge _ _ mv.gens
          have ed : d' = st.drawn := mv.drawn
          have eo : os' = st.os := mv.os
          subst eg ed eo
          show wpAny _ _ _ _ _ _
          refine wpAny_pure ?_
          show wpAny _ _ (ret Value.none) _ _ _
          refine wpAny_pure ⟨rfl, h', tk', rfl, has, fun b o hb e => mv.heap b o (fun q => ?_) (kp _ _ (Heap.get?_push_of_some _ e))⟩
          rcases List.mem_cons.mp q with q | q
          · exact Nat.ne_of_lt hb q
          · exact absurd (Nat.lt_trans hb (wb b q)) (Nat.lt_irrefl _)
      · cases r2 with
        | error e => exact hr2
        | ok f2 =>
          cases f2 with
          | ret v =>
            obtain ⟨rfl, h', tk, rfl, has, kp⟩ := hr2
            repeat (any_goals (first | assumption | wp_step))
            exact h _ _ has kp
          | _ => exact hr2.elim
    | _ => exact hr.elim
end
end DL

set_option Elab.async false
set_option linter.all false
set_option maxRecDepth 100000
set_option maxHeartbeats 4000000
namespace DL
open PySem L2 PySem.Spec PyProof.Rows

/-! ### len(set(x)) of texts -/
def strsD : List D → Option (List Str)
  | [] => some []
  | .str x :: ds => (strsD ds).map (x :: ·)
  | _ :: _ => none
theorem strs_of {K : Fg} {G : Hp} : ∀ {vs : List V} {ds : List D} {xs : List Str}, RepL K G vs ds → strsD ds = some xs → vs = xs.map V.str
  | _, _, _, .nil, e => by cases e; rfl
  | _, _, _, .cons (d := d) a r, e => by
    cases d with
    | str b =>
      have e : (strsD _).map (b :: ·) = some _ := e
      cases q : strsD _ with
      | none => rw [q] at e; cases e
      | some cs =>
        rw [q] at e
        cases e
        rw [a.str_of, strs_of r q]
        rfl
    | _ => cases e
def seqD : D → Option (List D)
  | .lst ds => some ds
  | .tup ds => some ds
  | _ => none
section
variable {X : Cx} {c : Ct} {W : WX} {e a b : Expr} {es : List Expr} {pos p p2 q : Pos} {x : Str} {ma mb : ME} {ta tb : TE} {mr : MA} {tr : TA}
def tLenSetT (K : Fg) (ta : TE) : TE := fun σ H Q => ta σ H fun x H1 => ∃ (l : Addr) (xs : List Str), x = .ref l ∧ (SqL K H1 l (xs.map V.str) ∨ SqT K H1 l (xs.map V.str)) ∧ xs.length + 1 < scanBound ∧ Q (.int (ddS [] xs).length) H1
theorem pe_lenSetT (hc : X.calm = true) (hg : Gl X "len") (hm : X.mg "len" = none) (hg2 : Gl X "set") (hm2 : X.mg "set" = none) (ha : PE X a ta)
    (na : starEach [a] X.env = (false, eval a X.env) :: starEach [] X.env := by rfl) : PE X (.Call (.Name "len" p) [.Call (.Name "set" p2) [a] [] q] [] pos) (tLenSetT X.K ta) := by
  refine ⟨fun pins s σ H Q I h => ?_⟩
  refine Call_ (ld_blt I hg hm boot_len ?_)
  refine PyProof.Rows.callWith_builtin1 (PyProof.Rows.args_cons ?_ rfl) rfl rfl
  refine Call_ (ld_blt I hg2 hm2 boot_set ?_)
  refine PyProof.Rows.callWith_type1 (PyProof.Rows.args_cons (thn (ha.run pins s σ H _ I h) fun v z ⟨y, H1, I1, r1, q1⟩ => PyProof.Rows.args_nil ?_) na) na rfl
  obtain ⟨l, xs, rfl, hq, few, q1⟩ := q1
  cases r1
  have hh := I1.ok.hd hc
  have fin : ∀ (h' : Heap) (tk : Nat), h'.SetOf (strKind X.prog X.w) z.heap.objs.size (hasS xs) (ddS [] xs).length → (∀ b o, b < z.heap.objs.size → z.heap.get? b = some o → h'.get? b = some o) →
      wpAny (model X.prog X.w) X.A (spliced (backTo pos (starEach [] X.env))) (fun vs s2 => wpAny (model X.prog X.w) X.A (call (.builtin "len") (Value.ref z.heap.objs.size :: vs)) (EP X pins σ Q) X.xe s2) X.xe { z with heap := h', toks := tk } := fun h' tk hS hk => by
    refine PyProof.Rows.args_nil ?_
    obtain ⟨o, es, ep, t, ho, hex, hd, _, _, _, hf, hn⟩ := hS
    have I2 : Inv X pins σ H1 { z with heap := h', toks := tk } := I1.kept fun b o e => hk b o (Heap.lt_size e) e
    have le := ddS_len xs []
    refine call_len_set ho hex hd hf (by rw [hn]; unfold scanBound at few; simp at le; omega) ⟨.int (ddS [] xs).length, H1, I2.tok _, ⟨_, by rw [hn]⟩, q1⟩
  have szS : ∀ led : Bool, (z.heap.push { cls := .type "set", dict := none, data := .set #[] 0 (.fresh 0 0 led) }).objs.size = z.heap.objs.size + 1 := fun led => Heap.size_push _ _
  rcases hq with hq | hq
  · obtain ⟨its, r, pl, hz⟩ := I1.list hq
    have pl' := pl.isList
    obtain ⟨ol, hol, hcl, _⟩ := id pl'
    refine set_of_texts hh few hol hcl PySem.F.sub_list_set PySem.F.sub_list_frozenset (by decide) (fun led A2 E2 Q2 hA k => ?_) fin
    have lt : l < z.heap.objs.size := Heap.lt_size hol
    have hl1 : (z.heap.push { cls := .type "set", dict := none, data := .set #[] 0 (.fresh 0 0 led) }).IsList l its.toArray := pl'.push _
    refine wpAny_pyIter_list (s := { z with heap := z.heap.push { cls := .type "set", dict := none, data := .set #[] 0 (.fresh 0 0 led) } }) hl1 ?_
    have sz : its.toArray.size = xs.length := by rw [List.size_toArray, ← r.length, List.length_map]
    have sa : StrsAre its xs := strsAre_of r
    have ne : l ≠ (z.heap.push { cls := .type "set", dict := none, data := .set #[] 0 (.fresh 0 0 led) }).objs.size := by rw [szS]; exact Nat.ne_of_lt (Nat.lt_succ_of_lt lt)
    refine k _ _ [(z.heap.push { cls := .type "set", dict := none, data := .set #[] 0 (.fresh 0 0 led) }).objs.size, l] [(z.heap.push { cls := .type "set", dict := none, data := .set #[] 0 (.fresh 0 0 led) }).objs.size] (fun a b => b = a) (fun i v => its.toArray[i]? = some v) (fun i z2 => z2.heap.IsListIter (z.heap.push { cls := .type "set", dict := none, data := .set #[] 0 (.fresh 0 0 led) }).objs.size l i ∧ z2.heap.IsList l its.toArray)
      (fun b o e => Heap.get?_push_of_some _ e) (fun A3 hA3 => ?_) ?_ (fun _ _ e => e) ?_ (fun i v hv => SS.strs_at sa i v (by simpa using hv)) ⟨⟨_, Heap.get?_push_size _ rfl, rfl, rfl⟩, hl1.push _⟩
    · rw [← sz]
      exact (Walks.list hA3 _ l ne its.toArray).toS
    · rw [szS]
      simp only [List.mem_cons, List.mem_singleton, List.not_mem_nil, or_false, not_or]
      exact ⟨Nat.ne_of_lt (Nat.lt_succ_self _), Nat.ne_of_gt lt⟩
    · intro b hb
      rw [szS] at hb
      simp only [List.mem_singleton] at hb
      rw [hb]
      exact Nat.lt_succ_self _
  · obtain ⟨its, r, pl, hz⟩ := I1.tuple hq
    obtain ⟨ol, hol, hcl, _⟩ := id pl
    refine set_of_texts hh few hol hcl PySem.F.sub_tuple_set PySem.F.sub_tuple_frozenset (by decide) (fun led A2 E2 Q2 hA k => ?_) fin
    have lt : l < z.heap.objs.size := Heap.lt_size hol
    have hl1 : (z.heap.push { cls := .type "set", dict := none, data := .set #[] 0 (.fresh 0 0 led) }).IsTuple l its.toArray := pl.push _
    refine wpAny_pyIter_tuple (s := { z with heap := z.heap.push { cls := .type "set", dict := none, data := .set #[] 0 (.fresh 0 0 led) } }) hl1 ?_
    have sz : its.toArray.size = xs.length := by rw [List.size_toArray, ← r.length, List.length_map]
    have sa : StrsAre its xs := strsAre_of r
    have ne : l ≠ (z.heap.push { cls := .type "set", dict := none, data := .set #[] 0 (.fresh 0 0 led) }).objs.size := by rw [szS]; exact Nat.ne_of_lt (Nat.lt_succ_of_lt lt)
    refine k _ _ [(z.heap.push { cls := .type "set", dict := none, data := .set #[] 0 (.fresh 0 0 led) }).objs.size, l] [(z.heap.push { cls := .type "set", dict := none, data := .set #[] 0 (.fresh 0 0 led) }).objs.size] (fun a b => b = a) (fun i v => its.toArray[i]? = some v) (fun i z2 => z2.heap.IsTupleIter (z.heap.push { cls := .type "set", dict := none, data := .set #[] 0 (.fresh 0 0 led) }).objs.size l i ∧ z2.heap.IsTuple l its.toArray)
      (fun b o e => Heap.get?_push_of_some _ e) (fun A3 hA3 => ?_) ?_ (fun _ _ e => e) ?_ (fun i v hv => SS.strs_at sa i v (by simpa using hv)) ⟨⟨_, Heap.get?_push_size _ rfl, rfl, rfl⟩, hl1.push _⟩
    · rw [← sz]
      exact (Walks.tuple hA3 _ l ne its.toArray).toS
    · rw [szS]
      simp only [List.mem_cons, List.mem_singleton, List.not_mem_nil, or_false, not_or]
      exact ⟨Nat.ne_of_lt (Nat.lt_succ_self _), Nat.ne_of_gt lt⟩
    · intro b hb
      rw [szS] at hb
      simp only [List.mem_singleton] at hb
      rw [hb]
      exact Nat.lt_succ_self _
def mLenSet (ma : ME) : ME := fun δ F X => ma δ (fun d => ∃ ds xs, seqD d = some ds ∧ strsD ds = some xs ∧ xs.length + 1 < scanBound ∧ F (.int (ddS [] xs).length)) X
theorem de_lenSet (hc : X.calm = true) (hg : Gl X "len") (hm : X.mg "len" = none) (hg2 : Gl X "set") (hm2 : X.mg "set" = none) (ha : DE X c W a ta ma)
    (na : starEach [a] X.env = (false, eval a X.env) :: starEach [] X.env := by rfl) : DE X c W (.Call (.Name "len" p) [.Call (.Name "set" p2) [a] [] q] [] pos) (tLenSetT X.K ta) (mLenSet ma) := by
  refine ⟨pe_lenSetT hc hg hm hg2 hm2 ha.p na, fun H G σ δ F Y Q cr rs h k x => ?_⟩
  refine ha.w H G σ δ _ _ _ cr rs h (fun v d H' G' g r f => ?_) x
  obtain ⟨ds, xs, e1, e2, few, f⟩ := f
  cases d with
  | lst ds' =>
    cases e1
    obtain ⟨a, vs, e3, g1, r1⟩ := r.lst_of
    exact ⟨a, xs, e3, .inl (SqL.of (by rw [← strs_of r1 e2]; exact g.sub _ _ g1)), few, k _ _ H' G' g (.int _) f⟩
  | tup ds' =>
    cases e1
    obtain ⟨a, vs, e3, g1, r1⟩ := r.tup_of
    exact ⟨a, xs, e3, .inr (by rw [← strs_of r1 e2]; exact same_t g.sub g1), few, k _ _ H' G' g (.int _) f⟩
  | _ => cases e1

/-! ### isinstance -/
/-- what a class must say, that isinstance asks its instances rightly -/
structure IsC (K : Fg) (C : Addr) : Prop where
  cl : Cls K C
  ha : PySem.W.findIn K (.ref C) "__class__" = some (some (.builtin "object.__class__"))
  hn : PySem.W.specialIn K (.builtin "object.__class__") "__get__" = some (some (.builtin "getset_descriptor.__get__"))
  ht : PySem.W.takesIn K (.builtin "object.__class__") = some true
  hm : PySem.W.mroIn K C (.type "object") = some true
def TyD (K : Fg) (d : D) (t : Value) : Prop := match d with
  | .non => t = .type "NoneType"
  | .bl _ => t = .type "bool"
  | .int _ => t = .type "int"
  | .str _ => t = .type "str"
  | .lst _ => t = .type "list"
  | .tup _ => t = .type "tuple"
  | .obj C _ => t = .ref C ∧ IsC K C
  | .fx _ => False
  | .scr _ => False
  | .ext _ _ => False
theorem tyx_of {K : Fg} {G H : Hp} (s : Same G H) {v : V} {d : D} {t : Value} (r : Rep K G v d) (h : TyD K d t) : TyX K H v t := by
  cases r with
  | non => cases h; exact .base .non
  | bl b => cases h; exact .base (.bl b)
  | int i => cases h; exact .base (.int i)
  | str y => cases h; exact .base (.str y)
  | lst h1 _ => cases h; exact .base (.lst (s _ _ h1))
  | tup h1 _ =>
    cases h
    rcases h1 with (h1 | ⟨o, h1⟩) | ⟨o, its, n, k, c, _⟩
    · exact .base (.tup (s _ _ h1))
    · exact .fTuple (s _ _ h1)
    · exact .kTuple k c
  | obj h1 _ =>
    obtain ⟨rfl, q⟩ := h
    exact .base (.ins (s _ _ h1) q.cl q.ha q.hn q.ht q.hm)
  | fx _ => exact h.elim
  | scr _ _ => exact h.elim
  | ext _ _ => exact h.elim
def gIsi (K : Fg) (ds : List D) (F : D → Prop) : Prop := match ds with
  | [d, .fx c] => ∃ t u b, ClsV c u ∧ TyD K d t ∧ PySem.W.kitOne K t u = some b ∧ F (.bl b)
  | _ => False
theorem cd_isi {K : Fg} : CD K (rIsi K) (gIsi K) := fun H G vs ds F Q s r h q => by
  unfold gIsi at h
  split at h
  · obtain ⟨t, u, b, c1, c2, c3, f⟩ := h
    obtain ⟨v, w, e1, r1, r2⟩ := r.two
    rw [e1, r2.fx_of]
    exact ⟨v, _, t, u, b, rfl, c1, tyx_of s r1 c2, c3, q _ _ H G (Go.refl s .no) (.bl _) f⟩
  · exact h.elim
def mIsiT (K : Fg) (ma : ME) (mr : MA) : ME := fun δ F X => ma δ (fun d => mr δ (fun es => ∃ cs us t b, es = cs.map D.fx ∧ es.length ≤ sizeLine ∧ Paired ClsV cs us ∧ TyD K d t ∧ PySem.W.kitAny K t us = some b ∧ F (.bl b)) X) X
theorem fxs_of {K : Fg} {G : Hp} : ∀ {vs cs : List V}, RepL K G vs (cs.map D.fx) → vs = cs
  | _, [], .nil => rfl
  | _, _ :: _, .cons a r => by rw [a.fx_of, fxs_of r]
theorem de_isiT {k : Nat} {pt : Pos} (hg : Gl X "isinstance") (hm : X.mg "isinstance" = none) (ha : DE X c W a ta ma) (hr : DA X c W es tr mr)
    (h2 : starEach [.Tuple es k pt] X.env = (false, eval (.Tuple es k pt) X.env) :: starEach [] X.env := by rfl)
    (h1 : starEach [a, .Tuple es k pt] X.env = (false, eval a X.env) :: starEach [.Tuple es k pt] X.env := by rfl) (hpl : (backTo pos (starEach [.Tuple es k pt] X.env)).any (·.1) = false := by rfl) :
    DE X c W (.Call (.Name "isinstance" p) [a, .Tuple es k pt] [] pos) (tCB (rIsiT X.K) (tCons ta (tCons (tTup tr) tNil))) (mIsiT X.K ma mr) := by
  refine ⟨pe_callB call_isiT hg hm (by decide +kernel) (pa_cons ha.p (pa_cons (pe_tup hr.p) pa_nil h2) h1) (by decide) (by decide) h1 hpl, fun H G σ δ F Y Q cr rs h q x => ?_⟩
  refine ha.w H G σ δ _ _ _ cr rs h (fun v d H1 G1 g1 r1 h1 => ?_) x
  refine hr.w H1 G1 σ δ _ _ _ (cr.step g1) (rs.step cr g1) h1 (fun vs ds H2 G2 g2 r2 h2 => ?_) (x.step g1)
  obtain ⟨cs, us, t, b, e1, hz, c1, c2, c3, f⟩ := h2
  refine ⟨r2.len_le hz, fun tp htp => ?_⟩
  subst e1
  have ev := fxs_of r2
  subst ev
  have g3 := Go.laid (o := .tup vs) g2.sub htp
  exact ⟨v, tp, vs, t, us, b, rfl, upd_same, c1, tyx_of g3.sub ((r1.mono g2.grow).mono g3.grow) c2, c3, q _ _ _ _ ((g1.trans g2).trans (g3.lift g2.deal)) (.bl _) f⟩
end

/-! ### methods of texts -/
section
variable {X : Cx} {c : Ct} {W : WX} {o e a b : Expr} {es : List Expr} {pos p p2 apos cpos : Pos} {name : Str} {mo ma mb : ME} {to ta tb : TE} {mr : MA} {tr : TA}
/-- a method of a text, by data -/
def MD (K : Fg) (r : V → List V → Hp → VK → Prop) (g : Str → List D → (D → Prop) → Prop) : Prop := ∀ H G z vs ds (F : D → Prop) (Q : VK), Same G H → RepL K G vs ds → g z ds F → (∀ v d H' G', Go none H G H' G' → Rep K G' v d → F d → Q v H') → r (.str z) vs H Q
def mMS (g : Str → List D → (D → Prop) → Prop) (mo : ME) (mr : MA) : ME := fun δ F X => mo δ (fun d => match d with
  | .str z => mr δ (fun ds => g z ds F) X
  | _ => False) X
theorem de_ms {id : String} {r : V → List V → Hp → VK → Prop} {g : Str → List D → (D → Prop) → Prop} (slot : Slot "str" name id) (hty : typeOf (.builtin id) = pure (.type "method_descriptor")) (hm : MtR X id r) (hr : MD X.K r g) (ho : DE X c W o to mo) (ha : DA X c W (e :: es) tr mr)
    (hbase : attributeBase o name X.env (eval o X.env) = eval o X.env := by rfl)
    (hfew : ((backTo cpos (starEach (e :: es) X.env)).all (fun x => !x.1) && (backToKw cpos (keywordEach [] X.env)).all (fun x => x.1.isSome)
      && decide ((e :: es).length + ([] : List Keyword).length + (if ([] : List Keyword).isEmpty then 0 else 1) < 30)) = true := by rfl)
    (hline : (apos.endLine == cpos.line) = true := by rfl) (hs : starEach (e :: es) X.env = (false, eval e X.env) :: starEach es X.env := by rfl) (hplain : (backTo cpos (starEach es X.env)).any (·.1) = false := by rfl) :
    DE X c W (.Call (.Attribute o name apos) (e :: es) [] cpos) (tBM X.K "str" r to tr) (mMS g mo mr) := by
  refine ⟨pe_bm PySem.F.plainAttrs_str slot hty hm ho.p ha.p hbase hfew hline hs hplain, fun H G σ δ F Y Q cr rs h q x => ?_⟩
  refine ho.w H G σ δ _ _ _ cr rs h (fun v d H1 G1 g1 r1 h1 => ?_) x
  split at h1
  · rw [r1.str_of]
    refine ⟨rfl, ?_⟩
    refine ha.w H1 G1 σ δ _ _ _ (cr.step g1) (rs.step cr g1) h1 (fun vs ds H2 G2 g2 r2 h2 => ?_) (x.step g1)
    exact hr H2 G2 _ vs ds F Q g2.sub r2 h2 fun v d H' G' g3 r3 f => q v d H' G' ((g1.trans g2).trans (g3.lift g2.deal)) r3 f
  · exact h1.elim
def gStrip (z : Str) (ds : List D) (F : D → Prop) : Prop := match ds with
  | [.str b] => z.length ≤ sizeLine ∧ F (.str (Txt.stripChars z b))
  | _ => False
theorem md_strip {K : Fg} : MD K (fun x xs H Q => ∃ a b, x = .str a ∧ xs = [.str b] ∧ a.length ≤ sizeLine ∧ Q (.str (Txt.stripChars a b)) H) gStrip := fun H G z vs ds F Q s r h q => by
  unfold gStrip at h
  split at h
  · obtain ⟨v, e, r1⟩ := r.one
    rw [e, r1.str_of]
    exact ⟨z, _, rfl, rfl, h.1, q _ _ H G (Go.refl s .no) (.str _) h.2⟩
  · exact h.elim
def gJoin (z : Str) (ds : List D) (F : D → Prop) : Prop := match ds with
  | [d] => ∃ es ys, seqD d = some es ∧ strsD es = some ys ∧ (ys.map (·.length)).sum + ys.length * z.length ≤ 16777216 ∧ F (.str (Txt.join z ys))
  | _ => False
theorem md_join {K : Fg} : MD K (fun x xs H Q => ∃ a p, ∃ ys : List Str, x = .str a ∧ xs = [.ref p] ∧ (SqL K H p (ys.map V.str) ∨ SqT K H p (ys.map V.str)) ∧
    (ys.map (·.length)).sum + ys.length * a.length ≤ 16777216 ∧ Q (.str (Txt.join a ys)) H) gJoin := fun H G z vs ds F Q s r h q => by
  unfold gJoin at h
  split at h
  · rename_i d
    obtain ⟨es, ys, e1, e2, hz, f⟩ := h
    obtain ⟨v, e, r1⟩ := r.one
    subst e
    cases d with
    | lst ds' =>
      cases e1
      obtain ⟨a, vs, e3, g1, r2⟩ := r1.lst_of
      subst e3
      exact ⟨z, a, ys, rfl, rfl, .inl (SqL.of (by rw [← strs_of r2 e2]; exact s _ _ g1)), hz, q _ _ H G (Go.refl s .no) (.str _) f⟩
    | tup ds' =>
      cases e1
      obtain ⟨a, vs, e3, g1, r2⟩ := r1.tup_of
      subst e3
      exact ⟨z, a, ys, rfl, rfl, .inr (by rw [← strs_of r2 e2]; exact same_t s g1), hz, q _ _ H G (Go.refl s .no) (.str _) f⟩
    | _ => cases e1
  · exact h.elim
end
end DL

set_option Elab.async false
set_option linter.all false
set_option maxRecDepth 100000
set_option maxHeartbeats 4000000
namespace DL
open PySem L2 PySem.Spec PyProof.Rows

theorem RS.put {K : Fg} {c : Ct} {H G : Hp} {σ : L2.St} {δ : List Sl} (r : RS K c H G σ δ) {x : Option V} {s : Sl} (i : Nat) (q : SlotOk K c H G x s) (no : ∀ es, s ≠ .own es) : RS K c H G (σ.set i x) (δ.set i s) where
  len := by rw [List.length_set, List.length_set]; exact r.len
  at_ := fun j t e => by
    by_cases h : i = j
    · subst h
      have hl : i < δ.length := by
        have := (List.getElem?_eq_some_iff.mp e).1
        rwa [List.length_set] at this
      rw [List.getElem?_set_self hl] at e
      cases e
      exact ⟨x, by rw [List.getElem?_set_self (by rw [r.len]; exact hl)], q⟩
    · rw [List.getElem?_set_ne h] at e ⊢
      exact r.at_ j t e
  sep := fun j k p ds es n e1 e2 h => by
    have nn : ∀ {j : Nat} {ds : List D}, (δ.set i s)[j]? = some (.own ds) → i ≠ j := fun {j ds} e z => by
      subst z
      have hl : i < δ.length := by
        have := (List.getElem?_eq_some_iff.mp e).1
        rwa [List.length_set] at this
      rw [List.getElem?_set_self hl] at e
      exact no ds (Option.some.inj e)
    have q1 := nn e1
    have q2 := nn e2
    rw [List.getElem?_set_ne q1] at e1 h
    rw [List.getElem?_set_ne q2] at e2 ⊢
    exact r.sep j k p ds es n e1 e2 h

/-! ### exceptions: made and raised -/
def spX1 (C : Addr) (f : Str) : Sp := fun vs H Q _ => ∃ (a : Addr) (v : V), vs = [.ref a, v] ∧ H a = some (exo a C none) ∧ ∀ dx, H dx = none → dx ≠ a → Q .non (upd (upd H dx (exd dx [(f, v)])) a (exo a C (some dx)))
section
variable {P : Program} {w : World} {K : Fg} {mg : Str → Option Value} {base : Heap} {x qual : Str} {params : Arguments} {body : List Stmt} {scope : Scope} {f C : Addr} {fd : FuncData} {N ps : List Str} {fl : Str}
theorem fn_x1 (F : FunD K x qual params body scope [] [] f fd) (S : FnScope N ps scope) (hl : ps.length = 2) (hN : N.length = 2) (T : OexC K C) (hno : PySem.W.findIn K (.ref C) fl = some none)
    (hb : ∀ (cdv : Value) (A : Around) (outer : List Env) (s : Shared) (H : Hp) (E : XK), PSs (cxOf (L2.CX P w) P w K mg base N qual scope f cdv A outer s H E) body (tOst K fl (tVar 0) (tVar 1))) : FnOk P w K mg base (L2.CX P w) 1 f fd ps (spX1 C fl) := by
  refine F.ok (k := 0) S (fun vs H Q E h => ?_) (fun cdv A outer s H vs Q E hr h => ⟨_, hb cdv A outer s H E, ?_⟩)
  · obtain ⟨a, v, rfl, _⟩ := h
    rw [hl]
    rfl
  · obtain ⟨a, v, rfl, h1, h2⟩ := h
    have e : L2.start N [V.ref a, v] = [some (.ref a), some v] := by
      unfold L2.start
      rw [hN]
      rfl
    rw [e]
    exact ⟨v, rfl, .ref a, rfl, a, C, rfl, T, hno, .inl ⟨h1, fun dx n ne => h2 dx n ne⟩⟩
end
section
variable {X : Cx} {c : Ct} {W : WX} {e a b : Expr} {es : List Expr} {pos p pos' : Pos} {x : Str} {ma mb me : ME} {ta tb te : TE} {mr : MA} {tr : TA} {C fI : Addr} {k : Nat} {fd : FuncData} {ps : List Str} {fl : Str}
def msRaise1 (C : Addr) (fl : Str) (mr : MA) : MS := fun δ k => mr δ (fun ds => match ds with
  | [d] => k.rs (C, [(fl, d)]) δ
  | _ => False) (fun x => k.rs x δ)
theorem ds_raise1 (hc : X.calm = true) (tk : Takes X W) (T : OexC X.K C) (iC : PySem.W.findIn X.K (.ref C) "__init__" = some (some (.ref fI))) (tI : PySem.W.typeIn X.K (.ref fI) = some (.type "function"))
    (F1 : FnOk X.prog X.w X.K X.mg X.base (L2.CX X.prog X.w) k fI fd ps (spX1 C fl)) (hr : Room (k + 1) X.A) (hb : Binds X.K fd ps []) (hg : Gl X x) (hm : X.mg x = some (.ref C)) (ha : DA X c W (e :: es) tr mr)
    (hdb : (x == ("__debug__" : Str)) = false := by decide) (he : starEach (e :: es) X.env = (false, eval e X.env) :: starEach es X.env := by rfl) (hpl : (backTo pos (starEach es X.env)).any (·.1) = false := by rfl) :
    DS X c W (.Raise (some (.Call (.Name x p) (e :: es) [] pos)) none pos') (fun _ σ H => tMkO C (spX1 C fl) [] tr σ H fun cls d H' => W cls d σ H') (msRaise1 C fl mr) := by
  refine ⟨ps_raise hc tk (pmk_oex T iC tI F1 hr hb .nil passL hg hm ha.p hdb he hpl), fun H G σ δ k Y cr rs h en => ?_⟩
  refine ha.w H G σ δ _ _ _ cr rs h (fun vs ds H1 G1 g1 r1 h1 => ?_) (en.xw cr rs)
  split at h1
  · rename_i d
    obtain ⟨v, e1, r2⟩ := r1.one
    subst e1
    refine ⟨(by show 1 ≤ 1000; decide), fun ea hea => ⟨ea, v, rfl, upd_same, fun dx ndx ne => ⟨rfl, dx, [(fl, v)], upd_same, by rw [upd_ne ne, upd_same], ?_, ?_⟩⟩⟩
    · rw [upd_ne ne] at ndx
      exact ndx
    · have ndx1 : H1 dx = none := by
        rw [upd_ne ne] at ndx
        exact ndx
      have g2 : Go none H1 G1 (upd (del (upd (upd (upd H1 ea (exo ea C none)) dx (exd dx [(fl, v)])) ea (exo ea C (some dx))) ea) dx (.xd [(fl, v)])) (upd G1 dx (.xd [(fl, v)])) := {
        keep := fun b o hb _ => by
          have n1 : b ≠ dx := ne_of_none hb ndx1
          have n2 : b ≠ ea := ne_of_none hb hea
          rw [upd_ne n1, del_ne n2, upd_ne n2, upd_ne n1, upd_ne n2]
          exact hb
        grow := fun b o hb => by rw [upd_ne (ne_of_none (g1.sub _ _ hb) ndx1)]; exact hb
        sub := fun b o hb => by
          by_cases n1 : b = dx
          · subst n1
            rw [upd_same] at hb ⊢
            exact hb
          · rw [upd_ne n1] at hb
            have hb1 := g1.sub _ _ hb
            have n2 : b ≠ ea := ne_of_none hb1 hea
            rw [upd_ne n1, del_ne n2, upd_ne n2, upd_ne n1, upd_ne n2]
            exact hb1
        new := fun b o hb => by
          by_cases n1 : b = dx
          · subst n1
            exact .inr ndx1
          · rw [upd_ne n1] at hb
            exact .inl hb
        deal := .no }
      have g3 := g1.trans (g2.lift g1.deal)
      refine en.rs C [(fl, d)] (some dx) σ δ _ _ (cr.step g3) (rs.step cr g3) g3.grow (.inr ⟨dx, [(fl, v)], rfl, upd_same, .cons (r2.mono g2.grow) .nil⟩) h1
  · exact h1.elim

/-! ### try: .. except C as e: .. -/
def msTry (K : Fg) (i : Nat) (C : Addr) (cv : Value) (mb : MS) (ms : Addr → Option Addr → MS) : MS := fun δ k => mb δ { k with rs := fun xd δ' =>
  (xd.1 = C ∧ ∀ (a : Addr) (d : Option Addr), ms a d (δ'.set i (.exn a C d xd.2)) { k with nx := fun δ2 => k.nx (δ2.set i .un), bk := fun δ2 => k.bk (δ2.set i .un), ct := fun δ2 => k.ct (δ2.set i .un), rs := fun _ _ => False }) ∨
    (PySem.W.exmOne K (.ref xd.1) cv = some false ∧ k.rs xd δ') }
open Classical in
noncomputable def tsOnly (C : Addr) (ts : Addr → Option Addr → TS) : Addr → Value → Option Addr → TS := fun a cls d => if cls = .ref C then ts a d else tNever
theorem ds_try (i : Nat) {n : Str} {np pos2 : Pos} {body suite : List Stmt} {b0 : Stmt} {tb : WX → TS} {ts : Addr → Option Addr → TS} {mb : MS} {ms : Addr → Option Addr → MS} {cv : Value}
    (hs : X.stack = X.env :: X.outer) (hf : X.env.frame = some X.env.locals) (hN : X.N.Nodup) (hi : X.N[i]? = some n) (hln : X.env.kindOf n = some .local) (hc : Names X x cv) (tk : Takes X W)
    (hC : PySem.W.exmOne X.K (.ref C) cv = some true)
    (hb : ∀ (W2 : WX) (pn : List (Addr × Obj)) (xe : Value → Shared → Prop), Takes (X.tr pn xe) W2 → DSs (X.tr pn xe) c W2 body (tb W2) mb)
    (hsu : ∀ (a : Addr) (oe : Obj) (d : Option Addr) (pn : List (Addr × Obj)), Zc (.ref C) d oe → (∃ vs, oe.data = .fields vs) → DSs (X.suite a ((a, oe) :: pn)) c W0 (b0 :: suite) (ts a d) (ms a d)) :
    DS X c W (.Try body [.ExceptHandler (some (.Name x np)) (some n) (b0 :: suite) pos'] [] [] pos) (fun Y σ H => tb (wAs X.K cv i (tsOnly C ts) W Y) Y σ H) (msTry X.K i C cv mb ms) := by
  refine ⟨ps_try_as hs hf hN hi hln hc tk (fun W2 pn xe t _ => (hb W2 pn xe t).p) (fun a oe cls d pn hz hd => ?_), fun H G σ δ k Y cr rs h en => ?_⟩
  · by_cases e : cls = .ref C
    · subst e
      have q : tsOnly C ts a (.ref C) d = ts a d := if_pos rfl
      rw [q]
      exact (hsu a oe d pn hz hd).p
    · have q : tsOnly C ts a cls d = tNever := if_neg e
      rw [q]
      exact pss_never
  · have wb : ∀ W2 : WX, WS X.K c W2 (tb W2) mb := fun W2 => (hb W2 X.pn (fun _ _ => True) (fun _ _ _ => True.intro)).w
    refine wb _ H G σ δ _ Y cr rs h ⟨en.nx, en.rt, en.bk, en.ct, fun C' fs d σ' δ' H' G' a1 a2 a3 a4 a5 => ?_⟩
    rcases a5 with ⟨e1, q⟩ | ⟨e1, q⟩
    · have e1 : C' = C := e1
      subst e1
      refine ⟨true, hC, fun _ a na => ?_, (fun z => nomatch z)⟩
      have q2 : tsOnly C' ts a (.ref C') d = ts a d := if_pos rfl
      rw [q2]
      have w2 : WS X.K c W0 (ts a d) (ms a d) := (hsu a ⟨.ref C', d, .fields #[], #[]⟩ d [] ⟨rfl, rfl⟩ ⟨_, rfl⟩).w
      refine w2 H' G' _ _ _ _ a1 (a2.put i (x := some (.ref a)) (s := .exn a C' d fs) ⟨rfl, a4⟩ fun _ z => nomatch z) (q a d) ⟨?_, ?_, ?_, ?_, fun _ _ _ _ _ _ _ _ _ _ _ z => z.elim⟩
      · exact fun σ2 δ2 H2 G2 b1 b2 b3 b4 => en.nx _ _ H2 G2 b1 (b2.forget i none) (a3.trans b3) b4
      · exact fun v d2 H2 G2 b1 b2 b3 b4 => en.rt v d2 H2 G2 b1 b2 (a3.trans b3) b4
      · exact fun σ2 δ2 H2 G2 b1 b2 b3 b4 => en.bk _ _ H2 G2 b1 (b2.forget i none) (a3.trans b3) b4
      · exact fun σ2 δ2 H2 G2 b1 b2 b3 b4 => en.ct _ _ H2 G2 b1 (b2.forget i none) (a3.trans b3) b4
    · exact ⟨false, e1, (fun z => nomatch z), fun _ => en.rs C' fs d σ' δ' H' G' a1 a2 a3 a4 q⟩
/-- e.f of the caught exception -/
def mExf (a : Addr) (d : Option Addr) (i : Nat) (n : Str) : ME := fun δ F _ => match δ[i]? with
  | some (.exn a' _ d' fs) => a' = a ∧ d' = d ∧ ∃ v, fs.lookup n = some v ∧ F v
  | _ => False
theorem de_exf (i : Nat) {xa : Addr} {oe : Obj} {d : Option Addr} {pn : List (Addr × Obj)} {n : Str} (T : XfC X.K C) (hno : PySem.W.findIn X.K (.ref C) n = some none) (hz : Zc (.ref C) d oe) (hf : ∃ vs, oe.data = .fields vs)
    (he : PE (X.suite xa ((xa, oe) :: pn)) e (tVar i)) (hb : attributeBase e n X.env (eval e X.env) = eval e X.env := by rfl) :
    DE (X.suite xa ((xa, oe) :: pn)) c W (.Attribute e n pos) (tXf xa (.ref C) d C n (tVar i)) (mExf xa d i n) := by
  refine ⟨pe_xf T hno hz hf he hb, fun H G σ δ F Y Q cr rs h q _ => ?_⟩
  unfold mExf at h
  split at h
  · rename_i a' C' d' fs e1
    obtain ⟨rfl, rfl, v, hl, f⟩ := h
    obtain ⟨y, h1, h2, h3⟩ := rs.at_ _ _ e1
    subst h2
    rcases h3 with ⟨rfl, _⟩ | ⟨dd, fv, rfl, hd, r⟩
    · cases hl
    · obtain ⟨u, hu, ru⟩ := r.look hl
      exact ⟨_, h1, rfl, rfl, dd, fv, u, rfl, cr.sub _ _ hd, hu, q u v H G cr.rfl' ru f⟩
  · exact h.elim
/-- isinstance(e, T) of the caught exception -/
def rIsX (K : Fg) (C a : Addr) (d : Option Addr) : List V → Hp → VK → Prop := fun xs H Q => ∃ (cc : V) (cv : Value) (b : Bool), xs = [.ref a, cc] ∧ ClsV cc cv ∧ PySem.W.kitOne K (.ref C) cv = some b ∧ (d = none ∨ ∃ dd fs, d = some dd ∧ H dd = some (.xd fs)) ∧ Q (.bl b) H
theorem call_isX {xa : Addr} {oe : Obj} {d : Option Addr} {pn : List (Addr × Obj)} (T : ExcC X.K C) (hz : Zc (.ref C) d oe) (hf : ∃ vs, oe.data = .fields vs) : CallR (X.suite xa ((xa, oe) :: pn)) (.builtin "isinstance") (rIsX X.K C xa d) := by
  intro pins s σ H xs us Q I r h
  obtain ⟨cc, cv, b, rfl, hcv, e, hd, q⟩ := h
  cases r with
  | cons rx rr =>
    cases rr with
    | cons rt rr =>
      cases rr
      cases rx
      have ec := hcv.eq rt
      subst ec
      obtain ⟨hget, _⟩ := I.pin (xa, oe) (List.mem_append.mpr (.inl List.mem_cons_self))
      obtain ⟨vs, hv⟩ := hf
      have hcls : (PySem.W.clsIn X.K C).isSome = true := by
        have hd' := T.hd
        unfold PySem.W.hasDictIn at hd'
        cases z : PySem.W.clsIn X.K C with
        | none => rw [z] at hd'; cases hd'
        | some cd => rfl
      rcases hd with hd | ⟨dd, fs, hd, hx⟩
      · have J : PySem.W.InstAt s.heap xa oe C none := ⟨hget, hz.1, by unfold PySem.W.notCls; rw [hv] <;> rfl, by rw [hz.2, hd]; exact trivial⟩
        exact PySem.W.kia_one (PySem.W.kitx_exc (od := none) hcls T.hg T.hk T.hs T.ha T.hn T.ht T.hm) I.kIn J e (fun z => nomatch z) fun tk => ⟨.bl b, H, I.kept (t' := tk) fun _ _ z => z, rfl, q⟩
      · have hx' : ObjOk X.prog X.w H s.heap dd (.xd fs) := I.hok dd _ hx
        obtain ⟨mA, ⟨od, es, ep, ho, _⟩, _⟩ := hx'
        have J : PySem.W.InstAt s.heap xa oe C (some od) := ⟨hget, hz.1, by unfold PySem.W.notCls; rw [hv] <;> rfl, by rw [hz.2, hd]; exact ho⟩
        exact PySem.W.kia_one (PySem.W.kitx_exc (od := some od) hcls T.hg T.hk T.hs T.ha T.hn T.ht T.hm) I.kIn J e (fun z => nomatch z) fun tk => ⟨.bl b, H, I.kept (t' := tk) fun _ _ z => z, rfl, q⟩
def mIsX (K : Fg) (C a : Addr) (d : Option Addr) (i : Nat) (mb : ME) : ME := fun δ F X => (match δ[i]? with
  | some (.exn a' _ d' _) => a' = a ∧ d' = d
  | _ => False) ∧ mb δ (fun e => match e with
  | .fx cc => ∃ cv b, ClsV cc cv ∧ PySem.W.kitOne K (.ref C) cv = some b ∧ F (.bl b)
  | _ => False) X
theorem de_isX (i : Nat) {xa : Addr} {oe : Obj} {d : Option Addr} {pn : List (Addr × Obj)} {z : Str} {zp : Pos} (T : ExcC X.K C) (hz : Zc (.ref C) d oe) (hf : ∃ vs, oe.data = .fields vs) (hg : Gl X "isinstance") (hm : X.mg "isinstance" = none)
    (he : PE (X.suite xa ((xa, oe) :: pn)) (.Name z zp) (tVar i)) (hb : DE (X.suite xa ((xa, oe) :: pn)) c W b tb mb)
    (h2 : starEach [b] X.env = (false, eval b X.env) :: starEach [] X.env := by rfl) (h1 : starEach [.Name z zp, b] X.env = (false, eval (.Name z zp) X.env) :: starEach [b] X.env := by rfl) (hpl : (backTo pos (starEach [b] X.env)).any (·.1) = false := by rfl) :
    DE (X.suite xa ((xa, oe) :: pn)) c W (.Call (.Name "isinstance" p) [.Name z zp, b] [] pos) (tCB (rIsX X.K C xa d) (tCons (tVar i) (tCons tb tNil))) (mIsX X.K C xa d i mb) := by
  refine ⟨pe_callB (X := X.suite xa ((xa, oe) :: pn)) (call_isX T hz hf) hg hm (by decide +kernel) (pa_cons he (pa_cons hb.p pa_nil h2) h1) (by decide) (by decide) h1 hpl, fun H G σ δ F Y Q cr rs h q x => ?_⟩
  obtain ⟨hi, h⟩ := h
  split at hi
  · rename_i a' C' d' fs e1
    obtain ⟨rfl, rfl⟩ := hi
    obtain ⟨y, h1, h2, h3⟩ := rs.at_ _ _ e1
    subst h2
    refine ⟨_, h1, ?_⟩
    refine hb.w H G σ δ _ _ _ cr rs h (fun v e H' G' g r f => ?_) x
    split at f
    · obtain ⟨cv, b, c1, c2, f⟩ := f
      refine ⟨v, cv, b, rfl, r.fx_of ▸ c1, c2, ?_, q _ _ H' G' g (.bl _) f⟩
      rcases h3 with ⟨_, hd⟩ | ⟨dd, fv, hd, hx, _⟩
      · exact .inl hd
      · exact .inr ⟨dd, fv, hd, g.sub _ _ (g.grow _ _ hx)⟩
    · exact f.elim
  · exact hi.elim
end
end DL

set_option Elab.async false
set_option linter.all false
set_option maxRecDepth 100000
set_option maxHeartbeats 4000000
namespace DL
open PySem L2 PySem.Spec PyProof.Rows

/-! ### fields -/
section
variable {X : Cx} {c : Ct} {W : WX} {o e a b : Expr} {es : List Expr} {pos p pos' : Pos} {x f : Str} {ma mb me : ME} {ta tb te : TE} {mr : MA} {tr : TA} {C fI : Addr} {k n : Nat} {fd : FuncData} {ps : List Str}
def mFld (K : Fg) (f : Str) (ma : ME) : ME := fun δ F X => ma δ (fun d => match d with
  | .obj C fs => Cls K C ∧ NoAttr K C f ∧ ∃ v, fs.lookup f = some v ∧ F v
  | _ => False) X
theorem de_fld (ha : DE X c W e ta ma) (hb : attributeBase e f X.env (eval e X.env) = eval e X.env := by rfl) : DE X c W (.Attribute e f pos) (tFld X.K ta f) (mFld X.K f ma) := by
  refine ⟨pe_fld ha.p hb, fun H G σ δ F Y Q cr rs h q x => ?_⟩
  refine ha.w H G σ δ _ _ _ cr rs h (fun v d H1 G1 g1 r1 h1 => ?_) x
  split at h1
  · obtain ⟨c1, c2, u, hl, f⟩ := h1
    obtain ⟨a, dx, fs, e1, g2, r2⟩ := r1.obj_of
    obtain ⟨y, hy, ry⟩ := r2.look hl
    exact ⟨a, _, dx, fs, y, e1, g1.sub _ _ g2, c1, c2, hy, q y u H1 G1 g1 ry f⟩
  · exact h1.elim
def putD (f : Str) (d : D) : List (Str × D) → List (Str × D)
  | [] => [(f, d)]
  | (g, x) :: r => if g = f then (g, d) :: r else (g, x) :: putD f d r
theorem RepF.put {K : Fg} {G : Hp} {v : V} {d : D} (q : Rep K G v d) : ∀ {fs : List (Str × V)} {ds : List (Str × D)}, RepF K G fs ds → RepF K G (putF f v fs) (putD f d ds)
  | _, _, .nil => .cons q .nil
  | _, _, .cons (f := g) a r => by
    show RepF K G (if g = f then _ else _) (if g = f then _ else _)
    split
    · exact .cons q r
    · exact .cons a (RepF.put q r)
/-- self.f = e, in an __init__ (self in the first slot) -/
def noSelf : List Sl → Bool
  | [] => true
  | .self _ _ :: _ => false
  | .un :: r => noSelf r
  | .dat _ :: r => noSelf r
  | .own _ :: r => noSelf r
  | .odc _ :: r => noSelf r
  | .odl _ :: r => noSelf r
  | .deal :: r => noSelf r
  | .exn _ _ _ _ :: r => noSelf r
theorem noSelf_at : ∀ {δ : List Sl} {i : Nat} {C : Addr} {fs : List (Str × D)}, noSelf δ = true → δ[i]? = some (Sl.self C fs) → False
  | [], _, _, _, _, e => by simp at e
  | s :: r, 0, _, _, h, e => by
    simp at e
    subst e
    cases h
  | s :: r, i + 1, _, _, h, e => by
    refine noSelf_at (δ := r) (i := i) ?_ (by simpa using e)
    cases s <;> first | exact h | cases h
def msSelf (K : Fg) (f : Str) (me : ME) : MS := fun δ k => me δ (fun d => match δ with
  | .self C fs :: rest => Cls K C ∧ NoAttr K C f ∧ fs.length < 800 ∧ noSelf rest = true ∧ k.nx (.self C (putD f d fs) :: rest)
  | _ => False) (fun x => k.rs x δ)
theorem RepF.length {K : Fg} {G : Hp} : ∀ {fs : List (Str × V)} {ds : List (Str × D)}, RepF K G fs ds → fs.length = ds.length
  | _, _, .nil => rfl
  | _, _, .cons _ r => congrArg Nat.succ (RepF.length r)
theorem ds_self {z : Str} {zp : Pos} (hz : PE X (.Name z zp) (tVar 0)) (he : DE X c W e te me) (hs : swapsWith e (some (.Attribute (.Name z zp) f pos')) pos.line X.env = pure false := by rfl) :
    DS X c W (.Assign [.Attribute (.Name z zp) f pos'] e pos) (sFld X.K (tVar 0) te f) (msSelf X.K f me) := by
  refine ⟨ps_fld hz he.p hs, fun H G σ δ k Y cr rs h en => ?_⟩
  refine he.w H G σ δ _ _ _ cr rs h (fun v d H1 G1 g1 r1 h1 => ?_) (en.xw cr rs)
  split at h1
  · rename_i C fs rest
    obtain ⟨c1, c2, few, nos, h1⟩ := h1
    have e1 : (Sl.self C fs :: rest)[0]? = some (Sl.self C fs) := rfl
    have rs1 := rs.step cr g1
    have cr1 := cr.step g1
    obtain ⟨y, h2, xa, dx, fv, h3, h4, h5, h6, h7, r⟩ := rs1.at_ _ _ e1
    subst h3
    have hl : fv.length < 800 := by rw [r.length]; exact few
    have ne : ∀ {b : Addr} {u : HO}, G1 b = some u → b ≠ xa := fun {b u} q => ne_of_none q h6
    refine ⟨_, h2, xa, C, dx, fv, rfl, h5, c1, c2, by omega, ?_⟩
    have cr2 : Cr c (upd H1 xa (.ins C dx (putF f v fv))) G1 := {
      keep := fun b u hb n m => by
        have nb : b ≠ xa := fun q => m (by rw [q]; exact h4)
        rw [upd_ne nb]
        exact cr1.keep b u hb n m
      grow := cr1.grow
      sub := fun b u hb => by rw [upd_ne (ne hb)]; exact cr1.sub _ _ hb
      new := cr1.new
      dlok := fun p' l' e' => by
        obtain ⟨⟨ns, m, q1, q2, q3⟩, g2, g3⟩ := cr1.dlok p' l' e'
        exact ⟨⟨ns, m, by rw [upd_ne (ne_of q1 h5 fun z => nomatch z)]; exact q1, by rw [upd_ne (ne_of q2 h5 fun z => nomatch z)]; exact q2, q3⟩, g2, g3⟩
      he := cr1.he
      sfo := fun b hb => by
        rw [h4] at hb
        cases hb
        exact ⟨C, dx, _, upd_same⟩ }
    refine en.nx σ _ _ G1 cr2 ?_ g1.grow h1
    have eσ : σ = σ.set 0 (some (.ref xa)) := by
      cases σ with
      | nil => cases h2
      | cons s0 sr =>
        have : s0 = some (V.ref xa) := Option.some.inj h2
        rw [this]
        rfl
    have rs2 : RS X.K c (upd H1 xa (.ins C dx (putF f v fv))) G1 (σ.set 0 (some (.ref xa))) (((Sl.self C fs :: rest).set 0 .un).set 0 (.self C (putD f d fs))) := by
      have base : RS X.K c (upd H1 xa (.ins C dx (putF f v fv))) G1 σ ((Sl.self C fs :: rest).set 0 .un) := by
        refine ⟨by rw [List.length_set]; exact rs1.len, fun i s hi => ?_, fun i j p ds es n e2 e3 h => ?_⟩
        · by_cases h0 : 0 = i
          · subst h0
            have hl0 : 0 < (Sl.self C fs :: rest).length := Nat.succ_pos _
            rw [List.getElem?_set_self hl0] at hi
            cases hi
            exact ⟨_, h2, trivial⟩
          · rw [List.getElem?_set_ne h0] at hi
            obtain ⟨y, q1, q2⟩ := rs1.at_ i s hi
            refine ⟨y, q1, ?_⟩
            cases s with
            | un => trivial
            | dat d' => exact q2
            | own ds =>
              obtain ⟨p', xs, q3, q4, q5, q6, q7⟩ := q2
              exact ⟨p', xs, q3, by rw [upd_ne (ne_of q4 h5 fun z => nomatch z)]; exact q4, q5, q6, q7⟩
            | odc fs' =>
              obtain ⟨p', xs, q3, q4, q5, q6, q7⟩ := q2
              exact ⟨p', xs, q3, by rw [upd_ne (ne_of q4 h5 fun z => nomatch z)]; exact q4, q5, q6, q7⟩
            | odl fs' =>
              obtain ⟨p', od', xs, q3, q4, q5, q6, q7⟩ := q2
              exact ⟨p', od', xs, q3, by rw [upd_ne (ne_of q4 h5 fun z => nomatch z)]; exact q4, q5, q6, q7⟩
            | deal => exact q2
            | exn a' C' d' fs' => exact q2
            | self C' fs' =>
              exfalso
              cases i with
              | zero => exact h0 rfl
              | succ i => exact noSelf_at (δ := rest) (i := i) nos (by simpa using hi)
        · have n0 : ∀ {j : Nat} {ds : List D}, ((Sl.self C fs :: rest).set 0 .un)[j]? = some (.own ds) → 0 ≠ j := fun {j ds} e z => by
            subst z
            have hl0 : 0 < (Sl.self C fs :: rest).length := Nat.succ_pos _
            rw [List.getElem?_set_self hl0] at e
            cases e
          have q1 := n0 e2
          have q2 := n0 e3
          rw [List.getElem?_set_ne q1] at e2
          rw [List.getElem?_set_ne q2] at e3
          exact rs1.sep i j p ds es n e2 e3 h
      refine base.put 0 (x := some (.ref xa)) (s := .self C (putD f d fs)) ⟨xa, dx, _, rfl, h4, upd_same, h6, ?_, RepF.put r1 r⟩ fun _ z => nomatch z
      have := length_putF f v fv
      omega
    rw [List.set_set] at rs2
    rw [eσ]
    exact rs2
  · exact h1.elim
end
end DL

set_option Elab.async false
set_option linter.all false
set_option maxRecDepth 100000
set_option maxHeartbeats 4000000
namespace DL
open PySem L2 PySem.Spec PyProof.Rows

/-! ### __init__ -/
abbrev FI := List D → (List (Str × D) → Prop) → XC → Prop
/-- the instance at x is being made: all else stays -/
structure GoS (x : Addr) (H G H' G' : Hp) : Prop where
  keep : ∀ a o, H a = some o → a ≠ x → H' a = some o
  grow : Same G G'
  sub : Same G' H'
  new : ∀ a o, G' a = some o → G a = some o ∨ H a = none
def spI (K : Fg) (n : Nat) (C : Addr) (ff : FI) : Sp := fun vs H Q E => ∃ (G : Hp) (ds : List D) (x dx : Addr) (vs' : List V) (F : List (Str × D) → Prop) (X : XC), vs = .ref x :: vs' ∧ ds.length = n ∧ H x = some (.ins C dx []) ∧ G x = none ∧ Same G H ∧ RepL K G vs' ds ∧ ff ds F X ∧
  (∀ fv fs H' G' dx', GoS x H G H' G' → H' x = some (.ins C dx' fv) → G' x = none → RepF K G' fv fs → F fs → Q .non H') ∧ (∀ C fs d H' G', GoS x H G H' G' → ExcIs K G' d fs → X (C, fs) → E (.ref C) d H')
def selfIs (C : Addr) (G : List (Str × D) → Prop) (δ : List Sl) : Prop := match δ with
  | .self C' fs :: _ => C' = C ∧ G fs
  | _ => False
section
variable {P : Program} {w : World} {K : Fg} {mg : Str → Option Value} {base : Heap} {x qual : Str} {params : Arguments} {body : List Stmt} {scope : Scope} {dvs : List V} {kws : List (Str × V)} {f C : Addr} {fd : FuncData} {N ps : List Str} {n k : Nat} {ff : FI}
theorem fn_okI {t : TS} {ms : MS} (F : FunD K x qual params body scope dvs kws f fd) (S : FnScope N ps scope) (hl : ps.length = n + 1) (hN : ps.length ≤ N.length)
    (hb : ∀ (c : Ct) (cdv : Value) (A : Around) (outer : List Env) (s : Shared) (H : Hp) (E : XK), Room k (A.deeper (envOfC qual scope s.heap.objs.size f cdv)) → DSs (cxOf (L2.CX P w) P w K mg base N qual scope f cdv A outer s H E) c (WF E) body t ms)
    (hm : ∀ ds G X, ds.length = n → ff ds G X → ms (Sl.self C [] :: (ds.map Sl.dat ++ List.replicate (N.length - (n + 1)) .un)) { nx := selfIs C G, rt := fun _ => False, rs := fun x _ => X x }) : FnOk P w K mg base (L2.CX P w) (k + 1) f fd ps (spI K n C ff) := by
  refine F.ok S (fun vs H Q E h => ?_) (fun cdv A outer s H vs Q E hr h => ?_)
  · obtain ⟨G, ds, y, dx, vs', F0, X0, rfl, hn, _, _, _, r, _⟩ := h
    rw [List.length_cons, r.length, hl]
    omega
  · obtain ⟨G, ds, y, dx, vs', F0, X0, rfl, hn, h1, h2, sm, r, hf, hq, hx⟩ := h
    obtain ⟨p, w'⟩ := hb ⟨none, some y, H, G⟩ cdv A outer s H E hr
    refine ⟨t, p, ?_⟩
    have cr : Cr ⟨none, some y, H, G⟩ H G := ⟨fun _ _ q _ _ => q, Same.refl _, sm, fun _ _ q => .inl q, .no, (fun _ _ e => nomatch e), fun a e => ⟨C, dx, [], (Option.some.inj (show some y = some a from e)) ▸ h1⟩⟩
    have lv := r.length
    have eN : L2.start N (V.ref y :: vs') = some (V.ref y) :: (vs'.map some ++ List.replicate (N.length - (n + 1)) none) := by
      unfold L2.start
      rw [List.length_cons, lv, hn]
      rfl
    have rs : RS K ⟨none, some y, H, G⟩ H G (L2.start N (V.ref y :: vs')) (Sl.self C [] :: (ds.map Sl.dat ++ List.replicate (N.length - (n + 1)) .un)) := by
      rw [eN]
      have at_ : ∀ (i : Nat) (s : Sl), (Sl.self C [] :: (ds.map Sl.dat ++ List.replicate (N.length - (n + 1)) .un))[i]? = some s → ∃ z, (some (V.ref y) :: (vs'.map some ++ List.replicate (N.length - (n + 1)) none))[i]? = some z ∧ SlotOk K ⟨none, some y, H, G⟩ H G z s ∧ ∀ es, s ≠ .own es := by
        intro i s e
        cases i with
        | zero =>
          cases e
          exact ⟨_, rfl, ⟨y, dx, [], rfl, rfl, h1, h2, Nat.zero_le _, .nil⟩, fun _ z => nomatch z⟩
        | succ i => exact dat_at _ i s r e
      refine ⟨by simp; omega, fun i s e => let ⟨z, a, b, _⟩ := at_ i s e; ⟨z, a, b⟩, fun i j p ds es ne h1 _ _ => ?_⟩
      obtain ⟨_, _, _, z⟩ := at_ i _ h1
      exact absurd rfl (z ds)
    have gos : ∀ {H' G' : Hp}, Cr ⟨none, some y, H, G⟩ H' G' → GoS y H G H' G' := fun {H' G'} a => ⟨fun b o q ne => a.keep b o q .non fun z => ne (Option.some.inj z).symm, a.grow, a.sub, a.new⟩
    refine w' H G _ _ _ _ cr rs (hm ds F0 X0 hn hf) ⟨fun σ δ H' G' a b z q => ?_, fun _ _ _ _ _ _ _ q => q.elim, fun _ _ _ _ _ _ _ q => q.elim, fun _ _ _ _ _ _ _ q => q.elim, fun C' fs d σ δ H' G' a b z e q => hx C' fs d H' G' (gos a) e q⟩
    have q : selfIs C F0 δ := q
    cases δ with
    | nil => exact q.elim
    | cons sl rest =>
      cases sl with
      | self C' fs =>
        obtain ⟨rfl, q3⟩ := (show C' = C ∧ F0 fs from q)
        obtain ⟨u, u1, a', dx', fv, u2, u3, u4, u5, u6, u7⟩ := b.at_ 0 _ rfl
        have u3 : some y = some a' := u3
        cases u3
        exact hq fv fs H' G' dx' (gos a) u4 u5 u7 q3
      | _ => exact q.elim
end
section
variable {X : Cx} {c : Ct} {W : WX} {e a b : Expr} {es : List Expr} {pos p pos' : Pos} {x f : Str} {ma mb me : ME} {ta tb te : TE} {mr : MA} {tr : TA} {C fI : Addr} {k n : Nat} {fd : FuncData} {ps : List Str} {ds : List Value} {dvs : List V} {dd : List D} {ff : FI}
def mMake (C : Addr) (ff : FI) (dd : List D) (n : Nat) (mr : MA) : ME := fun δ F X => mr δ (fun ds => (ds ++ dd).length = n ∧ ff (ds ++ dd) (fun fs => F (.obj C fs)) X) X
theorem de_make (M : Mk X.K C fI) (F : FnOk X.prog X.w X.K X.mg X.base (L2.CX X.prog X.w) k fI fd ps (spI X.K n C ff)) (hr : Room (k + 1) X.A) (hg : Gl X x) (hm : X.mg x = some (.ref C)) (hb : Binds X.K fd ps ds) (hd : Vals dvs ds) (hdd : ∀ G, RepL X.K G dvs dd) (tk : Takes X W) (hW : ∀ cls d σ σ' H, W cls d σ H → W cls d σ' H)
    (ha : DA X c W (e :: es) tr mr) (hdb : (x == ("__debug__" : Str)) = false := by decide) (he : starEach (e :: es) X.env = (false, eval e X.env) :: starEach es X.env := by rfl) (hpl : (backTo pos (starEach es X.env)).any (·.1) = false := by rfl) :
    DE X c W (.Call (.Name x p) (e :: es) [] pos) (tMake C (spI X.K n C ff) dvs (fun cls d H => ∀ σ, W cls d σ H) tr) (mMake C ff dd n mr) := by
  refine ⟨pe_make M F hr hg hm hb hd (passes_call tk fun cls d σ H h => h σ) ha.p hdb he hpl, fun H G σ δ F Y Q cr rs h q xx => ?_⟩
  refine ha.w H G σ δ _ _ _ cr rs h (fun vs ds H1 G1 g1 r1 h1 => ?_) xx
  intro y dx ny ndx ne
  have hx : ∀ {b : Addr} {o : HO}, H1 b = some o → upd (upd H1 dx (.own y)) y (.ins C dx []) b = some o := fun {b o} hb => by
    rw [upd_ne (ne_of_none hb ny), upd_ne (ne_of_none hb ndx)]
    exact hb
  have nG : G1 y = none := by
    cases z : G1 y with
    | none => rfl
    | some o =>
      rw [g1.sub _ _ z] at ny
      cases ny
  have back : ∀ {b : Addr}, upd (upd H1 dx (.own y)) y (.ins C dx []) b = none → H1 b = none := fun {b} hb => by
    cases z : H1 b with
    | none => rfl
    | some o =>
      rw [hx z] at hb
      cases hb
  refine ⟨G1, ds ++ dd, y, dx, vs ++ dvs, _, _, rfl, h1.1, upd_same, nG, fun b o hb => hx (g1.sub _ _ hb), r1.append (hdd G1), h1.2, ?_, ?_⟩
  · intro fv fs H2 G2 dx' gs hy ny2 rf f
    have g2 : Go none H1 G1 H2 (upd G2 y (.ins C dx' fv)) := {
      keep := fun b o hb _ => gs.keep b o (hx hb) (ne_of_none hb ny)
      grow := fun b o hb => by rw [upd_ne (ne_of_none (g1.sub _ _ hb) ny)]; exact gs.grow _ _ hb
      sub := fun b o hb => by
        by_cases q1 : b = y
        · subst q1
          rw [upd_same] at hb
          cases hb
          exact hy
        · rw [upd_ne q1] at hb
          exact gs.sub _ _ hb
      new := fun b o hb => by
        by_cases q1 : b = y
        · subst q1
          exact .inr ny
        · rw [upd_ne q1] at hb
          rcases gs.new _ _ hb with z | z
          · exact .inl z
          · exact .inr (back z)
      deal := .no }
    refine ⟨rfl, q (.ref y) (.obj C fs) H2 _ (g1.trans (g2.lift g1.deal)) (.obj upd_same (rf.mono fun b o hb => ?_)) f⟩
    rw [upd_ne (ne_of_none hb ny2)]
    exact hb
  · intro C' fs d H2 G2 gs ex f σ'
    have g2 : Go none H1 G1 H2 (fun b => if b = y then none else G2 b) := {
      keep := fun b o hb _ => gs.keep b o (hx hb) (ne_of_none hb ny)
      grow := fun b o hb => by
        show (if b = y then none else G2 b) = some o
        rw [if_neg (ne_of_none (g1.sub _ _ hb) ny)]
        exact gs.grow _ _ hb
      sub := fun b o hb => by
        have hb : (if b = y then none else G2 b) = some o := hb
        split at hb
        · cases hb
        · exact gs.sub _ _ hb
      new := fun b o hb => by
        have hb : (if b = y then none else G2 b) = some o := hb
        split at hb
        · cases hb
        · rcases gs.new _ _ hb with z | z
          · exact .inl z
          · exact .inr (back z)
      deal := .no }
    have g2' : Go none H1 G1 H2 G2 ∨ True := .inr trivial
    refine hW _ _ σ σ' _ (xx C' fs d H2 (fun b => if b = y ∧ False then none else G2 b) ?_ ?_ f)
    · have eG : (fun b => if b = y ∧ False then none else G2 b) = G2 := by
        funext b
        simp
      rw [eG]
      refine g1.trans (Go.lift g1.deal ⟨fun b o hb _ => gs.keep b o (hx hb) (ne_of_none hb ny), gs.grow, gs.sub, fun b o hb => ?_, .no⟩)
      rcases gs.new _ _ hb with z | z
      · exact .inl z
      · exact .inr (back z)
    · have eG : (fun b => if b = y ∧ False then none else G2 b) = G2 := by
        funext b
        simp
      rw [eG]
      exact ex
end

/-! ### one's own list -/
section
variable {X : Cx} {c : Ct} {W : WX} {e a b : Expr} {es : List Expr} {pos p pos' : Pos} {x f : Str} {ma mb me : ME} {ta tb te : TE} {mr : MA} {tr : TA} {K : Fg}
/-- a new list, not yet known to any other -/
def WO (K : Fg) (c : Ct) (W : WX) (t : TE) (m : MA) : Prop := ∀ H G σ δ (F : List D → Prop) (X : XC) (Q : VK), Cr c H G → RS K c H G σ δ → m δ F X →
  (∀ p xs ds H' G', Go c.dl H G H' G' → H' p = some (.lst xs) → G' p = none → H p = none → RepL K G' xs ds → F ds → Q (.ref p) H') → XW K c H G σ X W → t σ H Q
structure OE (X : Cx) (c : Ct) (W : WX) (e : Expr) (t : TE) (m : MA) : Prop where
  p : PE X e t
  w : WO X.K c W t m
theorem nfree {H G H' G' : Hp} {dl : Dl} {p : Addr} (g : Go dl H G H' G') (h : H' p = none) : G' p = none := by
  cases z : G' p with
  | none => rfl
  | some o =>
    rw [g.sub _ _ z] at h
    cases h
/-- a fresh cell ahead was fresh before -/
theorem Go.back {dl : Dl} {H G H' G' : Hp} {p : Addr} (g : Go dl H G H' G') (d : DlOk dl H G) (h : H' p = none) : H p = none := by
  cases z : H p with
  | none => rfl
  | some o =>
    by_cases nd : NotDl dl p
    · rw [g.keep _ _ z nd] at h
      cases h
    · exfalso
      apply nd
      intro p' l' e
      obtain ⟨⟨_, _, q1, q2, _⟩, _⟩ := g.deal p' l' e
      exact ⟨fun y => (by rw [y, q1] at h; cases h), fun y => (by rw [y, q2] at h; cases h)⟩
theorem oe_lst (h : DA X c W es tr mr) : OE X c W (.List es pos) (tLst tr) (fun δ F X => mr δ (fun ds => ds.length ≤ sizeLine ∧ F ds) X) := by
  refine ⟨pe_lst h.p, fun H G σ δ F Y Q cr rs hm q x => ?_⟩
  refine h.w H G σ δ _ _ _ cr rs hm (fun vs ds H1 G1 g1 r1 h1 => ⟨r1.len_le h1.1, fun p hp => ?_⟩) x
  exact q p vs ds _ G1 (g1.trans ((Go.mine g1.sub hp).lift g1.deal)) upd_same (nfree g1 hp) (g1.back cr.dlok hp) r1 h1.2
def msOwn (i : Nat) (mo : MA) : MS := fun δ k => mo δ (fun ds => k.nx (δ.set i (.own ds))) (fun x => k.rs x δ)
theorem RS.own {H G : Hp} {σ : L2.St} {δ : List Sl} (r : RS K c H G σ δ) {p : Addr} {xs : List V} {ds : List D} (i : Nat) (h1 : H p = some (.lst xs)) (h2 : G p = none) (h3 : c.He p = none) (rl : RepL K G xs ds)
    (fr : ∀ (j : Nat) (es : List D), δ[j]? = some (.own es) → σ[j]? ≠ some (some (.ref p))) : RS K c H G (σ.set i (some (.ref p))) (δ.set i (.own ds)) where
  len := by rw [List.length_set, List.length_set]; exact r.len
  at_ := fun j t e => by
    by_cases h : i = j
    · subst h
      have hl : i < δ.length := by
        have := (List.getElem?_eq_some_iff.mp e).1
        rwa [List.length_set] at this
      rw [List.getElem?_set_self hl] at e
      cases e
      exact ⟨_, by rw [List.getElem?_set_self (by rw [r.len]; exact hl)], p, xs, rfl, h1, h2, h3, rl⟩
    · rw [List.getElem?_set_ne h] at e ⊢
      exact r.at_ j t e
  sep := fun j k q ds' es n e1 e2 h => by
    by_cases hj : i = j
    · subst hj
      have hl : i < σ.length := by
        have := (List.getElem?_eq_some_iff.mp h).1
        rwa [List.length_set] at this
      rw [List.getElem?_set_self hl] at h
      cases h
      rw [List.getElem?_set_ne n] at e2 ⊢
      exact fr k es e2
    · rw [List.getElem?_set_ne hj] at e1 h
      by_cases hk : i = k
      · subst hk
        intro z
        have hl : i < σ.length := by
          have := (List.getElem?_eq_some_iff.mp z).1
          rwa [List.length_set] at this
        rw [List.getElem?_set_self hl] at z
        cases z
        exact fr j ds' e1 h
      · rw [List.getElem?_set_ne hk] at e2 ⊢
        exact r.sep j k q ds' es n e1 e2 h
theorem He_none {H G H' G' : Hp} (cr : Cr c H G) {p : Addr} (h : H p = none) : c.He p = none := by
  cases z : c.He p with
  | none => rfl
  | some o =>
    by_cases nd : NotDl c.dl p
    · by_cases m : c.sf = some p
      · obtain ⟨C, dx, fv, e⟩ := cr.sfo p m
        rw [h] at e
        cases e
      · rw [cr.keep _ _ z nd m] at h
        cases h
    · exfalso
      apply nd
      intro p' l' e
      obtain ⟨⟨_, _, q1, q2, _⟩, _⟩ := cr.dlok p' l' e
      exact ⟨fun y => (by rw [y, q1] at h; cases h), fun y => (by rw [y, q2] at h; cases h)⟩
theorem ws_own {i : Nat} {t : TE} {mo : MA} (w : WO K c W t mo) : WS K c W (tAsg t (gName i)) (msOwn i mo) := fun H G σ δ k Y cr rs h en =>
  w H G σ δ _ _ _ cr rs h (fun p xs ds H' G' g h1 h2 h3 r f => by
    refine en.nx _ _ H' G' (cr.step g) ((rs.step cr g).own i h1 h2 (He_none (H' := H) (G' := G) cr h3) r fun j es e z => ?_) g.grow f
    obtain ⟨y, q1, p', xs', q2, q3, _⟩ := rs.at_ _ _ e
    subst q2
    rw [q1] at z
    cases z
    rw [h3] at q3
    cases q3) (en.xw cr rs)
theorem ds_own (i : Nat) {mo : MA} (hN : X.N.Nodup) (hi : X.N[i]? = some x) (hx : Loc X.env.scope x) (he : OE X c W e te mo) (hs : swapsWith e (some (.Name x pos')) pos.line X.env = pure false := by rfl) (hf : X.fn x = true ∨ X.env.scope.names.lookup x = some .local := by first | exact .inl rfl | exact .inr rfl | assumption) :
    DS X c W (.Assign [.Name x pos'] e pos) (tAsg te (gName i)) (msOwn i mo) := ⟨ps_set hN hi hx he.p hs hf, ws_own he.w⟩
end
end DL

set_option Elab.async false
set_option linter.all false
set_option maxRecDepth 100000
set_option maxHeartbeats 4000000
namespace DL
open PySem L2 PySem.Spec PyProof.Rows

/-! ### the deal -/
theorem dpAll_ints {K : Fg} {H : Hp} : ∀ ns : List Int, DpAll K H (ns.map V.int) (ns.map PyData.int)
  | [] => .nil
  | n :: r => .cons (.int n) (dpAll_ints r)
theorem shaped_ints (ns : List Int) : SeqAt.shaped (.list (ns.map PyData.int)) = true := by
  have h1 : PyData.canLayAll0 (ns.map PyData.int) = true := by
    induction ns with
    | nil => rfl
    | cons n r ih => exact ih
  have h2 : PyData.depthAll (ns.map PyData.int) = 0 := by
    induction ns with
    | nil => rfl
    | cons n r ih => show max 0 (PyData.depthAll (r.map PyData.int)) = 0; rw [ih h1]; rfl
  show (PyData.canLayAll0 (ns.map PyData.int) && decide (PyData.depthAll (ns.map PyData.int) + 1 ≤ 64)) = true
  rw [h1, h2]
  rfl
theorem eqv_ints (ns : List Int) : PyData.eqv (.list (ns.map PyData.int)) (.list []) = ns.isEmpty := by cases ns <;> rfl
def gDraw : FF := fun ds F _ => ∃ m : Int, ds = [.int m] ∧ 0 < m ∧ m < 1073741824 ∧ ∀ r : Int, 0 ≤ r → r < m → F (.int r)
section
variable {P : Program} {w : World} {K : Fg} {mg : Str → Option Value} {base : Heap} {x qual : Str} {params : Arguments} {body : List Stmt} {scope : Scope} {f : Addr} {fd : FuncData} {N ps : List Str}
abbrev rNeI (K : Fg) : R2 := rNeD K
abbrev tD0 (K : Fg) : TE := tOp (rIxL K) (tVar 0) (tC (.int 0))
abbrev tD1 (K : Fg) : TE := tOp (rIxL K) (tVar 0) (tC (.int 1))
abbrev tTest0 (K : Fg) : TT := tTest (tOp (rNeD K) (tD0 K) (tLst tNil))
abbrev tDrawW (K : Fg) : TS := tWhile (tAnd (tTest0 K) (tTest (tOp rEq (tOp (rIxL K) (tD0 K) (tUn (rU fun i => .int (-i)) (tC (.int 1)))) (tC (.int 0))))) (tDrop (tBM0 K "list" rPop (tD0 K)))
abbrev rMul' : R2 := rI CMul fun i j => .int (i * j)
abbrev rAdd' : R2 := rI0 fun i j => .int (i + j)
abbrev rMod' : R2 := rI (fun _ j => 0 < j) fun i j => .int (i % j)
abbrev rFd' : R2 := rI CDiv fun i j => .int (i / j)
abbrev rInt' : List V → Hp → VK → Prop := fun xs H Q => (∃ i, xs = [.int i] ∧ Q (.int i) H) ∨ ∃ k, xs = [.bl k] ∧ Q (.int (if k then 1 else 0)) H
abbrev tDrawIf (K : Fg) : TS := tIfS (tTest0 K) (tSeq (tAsg (tBM0 K "list" rPop (tD0 K)) (gName 2)) (tSeq (tDrop (tBM K "list" rAppend (tD0 K) (tCons (tOp rFd' (tVar 2) (tVar 1)) tNil))) (tRet (tOp rMod' (tCB rInt' (tCons (tVar 2) tNil)) (tVar 1))))) tNext
abbrev tDraw (K : Fg) : TS := tSeq (tDrawW K) (tSeq (tDrawIf K) (tSeq (tAsg (tOp rMod' (tCB rInt' (tCons (tOp rAdd' (tOp rMul' (tD1 K) (tC (.int 48271))) (tC (.int 11))) tNil)) (tC (.int 2147483647))) (gSub (tVar 0) (tC (.int 1)) rSetL))
  (tRet (tOp rMod' (tCB rInt' (tCons (tOp rFd' (tD1 K) (tC (.int 8))) tNil)) (tVar 1)))))
theorem at0 {p l : Addr} {m : Int} : atI [V.ref l, V.int m] 0 = some (.ref l) := rfl
theorem at1 {p l : Addr} {m : Int} : atI [V.ref l, V.int m] 1 = some (.int m) := rfl
structure DA2 (H H' : Hp) (p l : Addr) (ns : List Int) (k : Int) : Prop where
  keep : ∀ b o, H b = some o → b ≠ p → b ≠ l → H' b = some o
  hp : H' p = some (.lst [.ref l, .int k])
  hl : H' l = some (.lst (ns.map V.int))
  few : ns.length ≤ 1000
  k0 : 0 ≤ k
  k1 : k < 2147483647
  pos : ∀ n ∈ ns, 0 ≤ n
theorem DA2.laid {H H' : Hp} {p l q : Addr} {ns : List Int} {k : Int} {o : HO} (d : DA2 H H' p l ns k) (h : H' q = none) : DA2 H (upd H' q o) p l ns k :=
  ⟨fun b u hb n1 n2 => by rw [upd_ne (ne_of_none (d.keep b u hb n1 n2) h)]; exact d.keep b u hb n1 n2, by rw [upd_ne (ne_of_none d.hp h)]; exact d.hp, by rw [upd_ne (ne_of_none d.hl h)]; exact d.hl, d.few, d.k0, d.k1, d.pos⟩
theorem DA2.ne {H H' : Hp} {p l : Addr} {ns : List Int} {k : Int} (d : DA2 H H' p l ns k) : p ≠ l := DealAt.ne ⟨ns, k, d.hp, d.hl, d.few, d.k0, d.k1, d.pos⟩
theorem DA2.setl {H H' : Hp} {p l : Addr} {ns ms : List Int} {k : Int} (d : DA2 H H' p l ns k) (few : ms.length ≤ 1000) (pos : ∀ n ∈ ms, 0 ≤ n) : DA2 H (upd H' l (.lst (ms.map V.int))) p l ms k :=
  ⟨fun b u hb n1 n2 => by rw [upd_ne n2]; exact d.keep b u hb n1 n2, by rw [upd_ne d.ne]; exact d.hp, upd_same, few, d.k0, d.k1, pos⟩
theorem DA2.setp {H H' : Hp} {p l : Addr} {ns : List Int} {k k' : Int} (d : DA2 H H' p l ns k) (h0 : 0 ≤ k') (h1 : k' < 2147483647) : DA2 H (upd H' p (.lst [.ref l, .int k'])) p l ns k' :=
  ⟨fun b u hb n1 n2 => by rw [upd_ne n1]; exact d.keep b u hb n1 n2, upd_same, by rw [upd_ne d.ne.symm]; exact d.hl, d.few, h0, h1, d.pos⟩
/-- deal[0] != [] -/
theorem test0 {H H' : Hp} {p l : Addr} {ns : List Int} {k : Int} {σ : L2.St} {Q : Bool → Hp → Prop} (hσ : σ[0]? = some (some (.ref p))) (d : DA2 H H' p l ns k) (q : ∀ H2, DA2 H H2 p l ns k → Q (!ns.isEmpty) H2) : tTest0 K σ H' Q := by
  refine ⟨_, hσ, p, _, 0, _, rfl, rfl, SqL.of d.hp, at0 (p := p), Nat.zero_le _, fun q' hq' => ?_⟩
  have d2 := d.laid (o := .lst []) hq'
  exact ⟨.list (ns.map PyData.int), .list [], .lst (SqL.of d2.hl) (dpAll_ints ns), .lst (SqL.of upd_same) .nil, shaped_ints ns, by decide, _, by rw [eqv_ints], q _ d2⟩
theorem map_last {ns : List Int} {n : Int} : (ns ++ [n]).map V.int = ns.map V.int ++ [V.int n] := by rw [List.map_append]; rfl
theorem draw_reads {vs : List V} {H : Hp} {Q : VK} {E : XK} (h : spD K 1 true gDraw vs H Q E) : tDraw K { nx := fun _ H' => Q .non H', rt := Q } (L2.start ["_law_deal_here", "_law_many", "_law_rest"] vs) H := by
  obtain ⟨G, ds, dl, vs', F, X, hn, ⟨p, l, rfl, rfl⟩, sm, dk, r, ⟨m, rfl, m0, m1, hf⟩, hq, _⟩ := h
  obtain ⟨v, rfl, rv⟩ := r.one
  have ev := rv.int_of
  subst ev
  obtain ⟨⟨ns0, k0, b1, b2, b3, b4, b5, b6⟩, g1, g2⟩ := dk p l rfl
  have fin : ∀ (r : Int) (ns : List Int) (k : Int) (H' : Hp), DA2 H H' p l ns k → 0 ≤ r → r < m → Q (.int r) H' := fun r ns k H' d h1 h2 => hq _ _ H' G {
    keep := fun b o hb nd => by
      obtain ⟨a1, a2⟩ := nd p l rfl
      exact d.keep b o hb a1 a2
    grow := Same.refl _
    sub := fun b o hb => d.keep b o (sm _ _ hb) (ne_of_none hb g1) (ne_of_none hb g2)
    new := fun b o hb => .inl hb
    deal := fun p' l' e' => by
      cases e'
      exact ⟨⟨ns, k, d.hp, d.hl, d.few, d.k0, d.k1, d.pos⟩, g1, g2⟩ } (.int r) (hf r h1 h2)
  have es : L2.start ["_law_deal_here", "_law_many", "_law_rest"] [V.ref p, V.int m] = [some (.ref p), some (.int m), none] := rfl
  rw [es]
  have D0 : DA2 H H p l ns0 k0 := ⟨fun b o hb _ _ => hb, b1, b2, b3, b4, b5, b6⟩
  refine ⟨fun n σ H' => σ = [some (.ref p), some (.int m), none] ∧ ∃ ns k, ns.length = n ∧ DA2 H H' p l ns k, ⟨_, rfl, ns0, k0, rfl, D0⟩, ?_⟩
  rintro n σ H1 ⟨rfl, ns, k, hlen, D1⟩
  -- behind the loop
  have after : ∀ (ns : List Int) (k : Int) (H2 : Hp), DA2 H H2 p l ns k → (tSeq (tDrawIf K) (tSeq (tAsg (tOp rMod' (tCB rInt' (tCons (tOp rAdd' (tOp rMul' (tD1 K) (tC (.int 48271))) (tC (.int 11))) tNil)) (tC (.int 2147483647))) (gSub (tVar 0) (tC (.int 1)) rSetL))
      (tRet (tOp rMod' (tCB rInt' (tCons (tOp rFd' (tD1 K) (tC (.int 8))) tNil)) (tVar 1))))) { nx := fun _ H' => Q .non H', rt := Q } [some (.ref p), some (.int m), none] H2 := by
    intro ns k H2 d
    refine test0 rfl d fun H3 d3 => ?_
    have d3' := d3
    rcases List.eq_nil_or_concat ns with rfl | ⟨ms, z, rfl⟩
    · -- the mixed number
      show tNext _ _ _
      have hd1 : ∀ {H4 : Hp} {Q4 : VK} {k4 : Int}, DA2 H H4 p l [] k4 → Q4 (.int k4) H4 → tD1 K [some (.ref p), some (.int m), none] H4 Q4 := fun {H4 Q4 k4} d4 q4 => ⟨_, rfl, p, _, 1, _, rfl, rfl, SqL.of d4.hp, at1 (p := p), q4⟩
      refine hd1 d3 ⟨_, _, rfl, rfl, .inl ⟨by have := d3.k0; omega, by have := d3.k1; omega⟩, _, _, rfl, rfl, .inl ⟨_, rfl, _, _, rfl, rfl, (by decide : (0 : Int) < 2147483647), ?_⟩⟩
      refine ⟨_, rfl, p, _, 1, 1, rfl, rfl, d3.hp, rfl, ?_⟩
      have d4 := d3.setp (k' := (k * 48271 + 11) % 2147483647) (Int.emod_nonneg _ (by decide)) (Int.emod_lt_of_pos _ (by decide))
      refine hd1 d4 ⟨_, _, rfl, rfl, ⟨by decide, by decide⟩, .inl ⟨_, rfl, _, rfl, _, _, rfl, rfl, m0, ?_⟩⟩
      exact fin _ _ _ _ d4 (Int.emod_nonneg _ (by omega)) (Int.emod_lt_of_pos _ m0)
    · have e1 : (!(ms ++ [z]).isEmpty) = true := by cases ms <;> rfl
      rw [List.concat_eq_append] at d3
      have q1 : (!(ms.concat z).isEmpty) = true := by rw [List.concat_eq_append]; exact e1
      rw [q1]
      refine iteT ?_
      have hlast : ((ms ++ [z]).map V.int)[((ms ++ [z]).map V.int).length - 1]? = some (.int z) := by
        rw [map_last, List.length_append, List.length_singleton, Nat.add_sub_cancel, List.getElem?_append_right (Nat.le_refl _), Nat.sub_self]
        rfl
      have hdrop : ((ms ++ [z]).map V.int).dropLast = ms.map V.int := by rw [map_last, List.dropLast_concat]
      have hz : 0 ≤ z := d3.pos z (List.mem_append_right _ (List.mem_singleton.mpr rfl))
      have few : ms.length + 1 ≤ 1000 := by
        have := d3.few
        rw [List.length_append, List.length_singleton] at this
        exact this
      refine ⟨_, rfl, p, _, 0, _, rfl, rfl, SqL.of d3.hp, at0 (p := p), .inl ⟨rfl, _, SqL.of d3.hl⟩, l, _, _, rfl, rfl, d3.hl, hlast, ?_⟩
      rw [hdrop]
      have d4 := d3.setl (ms := ms) (by omega) fun n hn => d3.pos n (List.mem_append_left _ hn)
      show (tSeq (tDrop (tBM K "list" rAppend (tD0 K) (tCons (tOp rFd' (tVar 2) (tVar 1)) tNil))) (tRet (tOp rMod' (tCB rInt' (tCons (tVar 2) tNil)) (tVar 1)))) _ [some (.ref p), some (.int m), some (.int z)] _
      refine ⟨_, rfl, p, _, 0, _, rfl, rfl, SqL.of d4.hp, at0 (p := p), .inl ⟨rfl, _, SqL.of d4.hl⟩, _, rfl, _, rfl, z, m, rfl, rfl, ⟨m0, m1⟩, l, _, _, rfl, rfl, d4.hl, ?_, ?_⟩
      · rw [List.length_map]
        exact Nat.lt_of_le_of_lt (Nat.le_trans (Nat.le_succ _) few) (by decide)
      rw [← map_last]
      have d5 := d4.setl (ms := ms ++ [z / m]) (by rw [List.length_append, List.length_singleton]; exact few) fun n hn => by
        rcases List.mem_append.mp hn with hn | hn
        · exact d3.pos n (List.mem_append_left _ hn)
        · rw [List.mem_singleton.mp hn]
          exact Int.ediv_nonneg hz (by omega)
      refine ⟨_, rfl, .inl ⟨_, rfl, _, rfl, _, _, rfl, rfl, m0, ?_⟩⟩
      exact fin _ _ _ _ d5 (Int.emod_nonneg _ (by omega)) (Int.emod_lt_of_pos _ m0)
  refine test0 rfl D1 fun H2 d2 => ?_
  rcases List.eq_nil_or_concat ns with rfl | ⟨ms, z, e⟩
  · exact after [] k H2 d2
  · rw [List.concat_eq_append] at e
    subst e
    have e1 : (!(ms ++ [z]).isEmpty) = true := by cases ms <;> rfl
    rw [e1]
    refine iteT ?_
    have hlast : atI ((ms ++ [z]).map V.int) (-1) = some (.int z) := by rw [map_last]; exact atI_last _ _
    have hlast2 : ((ms ++ [z]).map V.int)[((ms ++ [z]).map V.int).length - 1]? = some (.int z) := by
      rw [map_last, List.length_append, List.length_singleton, Nat.add_sub_cancel, List.getElem?_append_right (Nat.le_refl _), Nat.sub_self]
      rfl
    have hdrop : ((ms ++ [z]).map V.int).dropLast = ms.map V.int := by rw [map_last, List.dropLast_concat]
    refine ⟨_, rfl, p, _, 0, _, rfl, rfl, SqL.of d2.hp, at0 (p := p), 1, rfl, l, _, _, _, rfl, rfl, SqL.of d2.hl, hlast, rfl, decide (V.int z = V.int 0), rfl, ?_⟩
    by_cases hz : V.int z = V.int 0
    · rw [decide_eq_true hz]
      refine iteT ⟨fun σ' H' => σ' = [some (.ref p), some (.int m), none] ∧ ∃ k, DA2 H H' p l ms k, fun σ' H' ⟨a, k', b⟩ => ⟨ms.length, by rw [← hlen, List.length_append, List.length_singleton]; omega, a, ms, k', rfl, b⟩, ?_⟩
      refine ⟨_, rfl, p, _, 0, _, rfl, rfl, SqL.of d2.hp, at0 (p := p), .inl ⟨rfl, _, SqL.of d2.hl⟩, l, _, _, rfl, rfl, d2.hl, hlast2, ?_⟩
      rw [hdrop]
      refine ⟨rfl, k, d2.setl (ms := ms) ?_ fun n hn => d2.pos n (List.mem_append_left _ hn)⟩
      have := d2.few
      rw [List.length_append, List.length_singleton] at this
      omega
    · rw [decide_eq_false hz]
      exact iteF (after _ k H2 d2)
end
end DL

set_option Elab.async false
set_option linter.all false
set_option maxRecDepth 100000
set_option maxHeartbeats 4000000
namespace DL
open PySem L2 PySem.Spec PyProof.Rows

/-! ### what the head looks up, as booleans -/
theorem b2 {a b : Bool} (h : (a && b) = true) : a = true ∧ b = true := Bool.and_eq_true_iff.mp h
def oexT (K : Fg) (C : Addr) : Bool := match K.lookup C with
  | some ⟨.type "type", _, .cls cd, sl⟩ => (match cd.mro, sl.toList with
    | .ref C' :: bm, [_, _, _, _, some (.builtin n), _] => C' == C && n == "ValueError.__new__" && !cd.hasDel && cd.hasDict && PySem.HandSPX.refsVE bm
    | _, _ => false)
  | _ => false
theorem oexT_ok {K : Fg} {C : Addr} (q : oexT K C = true) : ∃ nm qn N bs bm sn sub ab col dd k0 k1 k2 k3 k5, K.lookup C = some (excClassObj nm qn C N bs bm true sn sub ab col dd k0 k1 k2 k3 k5 "ValueError.__new__") ∧ PySem.HandSPX.refsVE bm = true := by
  unfold oexT at q
  split at q
  · rename_i dd cd sl ho
    split at q
    · rename_i C' bm k0 k1 k2 k3 n k5 hm hs
      simp only [Bool.and_eq_true, beq_iff_eq, Bool.not_eq_true'] at q
      obtain ⟨⟨⟨⟨rfl, rfl⟩, hdel⟩, hh⟩, ht⟩ := q
      obtain ⟨nm, bs, mro, ns, qn, hd, sn, sub, ab, col, del⟩ := cd
      dsimp only at hm hdel hh
      subst hm hdel hh
      have hsl : sl = #[k0, k1, k2, k3, some (.builtin "ValueError.__new__"), k5] := by
        obtain ⟨l⟩ := sl
        simp only at hs
        rw [hs]
      subst hsl
      exact ⟨nm, qn, ns, bs, bm, sn, sub, ab, col, dd, k0, k1, k2, k3, k5, ho, ht⟩
    · cases q
  · cases q
def eqOV (a b : Option (Option Value)) : Bool := decide (a = b)
def oexB (K : Fg) (C : Addr) : Bool := oexT K C && (eqOV (PySem.W.findIn K (.ref C) "__setattr__") (some (some (.builtin "object.__setattr__"))) && (decide (PySem.W.subIn K (.ref C) (.type "BaseException") = some true) && (decide (PySem.W.typeIn K (.ref C) = some (.type "type")) && PySem.W.keepIn K (.ref C))))
theorem oexB_ok {K : Fg} {C : Addr} (h : oexB K C = true) : OexC K C := by
  obtain ⟨h1, h⟩ := b2 h
  obtain ⟨h2, h⟩ := b2 h
  obtain ⟨h3, h⟩ := b2 h
  obtain ⟨h4, h5⟩ := b2 h
  exact ⟨oexT_ok h1, of_decide_eq_true h2, of_decide_eq_true h3, of_decide_eq_true h4, h5⟩
def cobB (K : Fg) (C : Addr) : Bool := eqOV (PySem.W.findIn K (.ref C) "__class__") (some (some (.builtin "object.__class__"))) && (eqOV (PySem.W.specialIn K (.builtin "object.__class__") "__get__") (some (some (.builtin "getset_descriptor.__get__"))) && (decide (PySem.W.takesIn K (.builtin "object.__class__") = some true) && decide (PySem.W.mroIn K C (.type "object") = some true)))
def clsB (K : Fg) (C : Addr) : Bool := PySem.W.plainGet K C Str.empty && (PySem.W.hasDictIn K C && (PySem.W.plainOver K C && eqOV (PySem.W.findIn K (.ref C) "__setattr__") (some (some (.builtin "object.__setattr__")))))
theorem clsB_ok {K : Fg} {C : Addr} (h : clsB K C = true) : Cls K C := by
  obtain ⟨c1, c⟩ := b2 h
  obtain ⟨c2, c⟩ := b2 c
  obtain ⟨c3, c4⟩ := b2 c
  exact ⟨c1, c2, c3, of_decide_eq_true c4⟩
theorem isC_ok {K : Fg} {C : Addr} (h : (clsB K C && cobB K C) = true) : IsC K C := by
  obtain ⟨h0, h⟩ := b2 h
  obtain ⟨h1, h⟩ := b2 h
  obtain ⟨h2, h⟩ := b2 h
  obtain ⟨h3, h4⟩ := b2 h
  exact ⟨clsB_ok h0, of_decide_eq_true h1, of_decide_eq_true h2, of_decide_eq_true h3, of_decide_eq_true h4⟩
theorem excC_ok {K : Fg} {C : Addr} (h : (xfB K C && cobB K C) = true) : ExcC K C := by
  obtain ⟨h0, h⟩ := b2 h
  obtain ⟨h1, h⟩ := b2 h
  obtain ⟨h2, h⟩ := b2 h
  obtain ⟨h3, h4⟩ := b2 h
  obtain ⟨x1, x2, x3, x4⟩ := xfB_ok h0
  exact ⟨x1, x2, x3, x4, of_decide_eq_true h1, of_decide_eq_true h2, of_decide_eq_true h3, of_decide_eq_true h4⟩
def initB (K : Fg) (C f : Addr) : Bool := eqOV (PySem.W.findIn K (.ref C) "__init__") (some (some (.ref f))) && decide (PySem.W.typeIn K (.ref f) = some (.type "function"))
theorem initB_ok {K : Fg} {C f : Addr} (h : initB K C f = true) : PySem.W.findIn K (.ref C) "__init__" = some (some (.ref f)) ∧ PySem.W.typeIn K (.ref f) = some (.type "function") := by
  obtain ⟨h1, h2⟩ := b2 h
  exact ⟨of_decide_eq_true h1, of_decide_eq_true h2⟩
def nofB (K : Fg) (C : Addr) (f : Str) : Bool := eqOV (PySem.W.findIn K (.ref C) f) (some none)
theorem nofB_ok {K : Fg} {C : Addr} {f : Str} (h : nofB K C f = true) : PySem.W.findIn K (.ref C) f = some none := of_decide_eq_true h
def kitB (K : Fg) (t : Value) (us : List Value) (b : Bool) : Bool := decide (PySem.W.kitAny K t us = some b)
theorem kitB_ok {K : Fg} {t : Value} {us : List Value} {b : Bool} (h : kitB K t us b = true) : PySem.W.kitAny K t us = some b := of_decide_eq_true h
theorem kit1_ok {K : Fg} {t u : Value} {b : Bool} (h : decide (PySem.W.kitOne K t u = some b) = true) : PySem.W.kitOne K t u = some b := of_decide_eq_true h
/-- a tuple in a def's defaults -/
def tupAtB (K : Fg) (a : Addr) (vs : List He.Dv) : Bool := match K.lookup a with
  | some ⟨.type c, _, .seq its _, _⟩ => decide (c = "tuple") && (decide (its.size ≤ sizeLine) && He.relAll (vs.map (He.Dv.v K)) its.toList)
  | _ => false
theorem tupAtB_ok {K : Fg} {a : Addr} {vs : List He.Dv} (h : tupAtB K a vs = true) (H : Hp) : SqT K H a (vs.map (He.Dv.v K)) := by
  unfold tupAtB at h
  split at h
  · rename_i c od its n sl e
    obtain ⟨h1, h⟩ := b2 h
    obtain ⟨h2, h3⟩ := b2 h
    have e1 := of_decide_eq_true h1
    subst e1
    exact .inr ⟨_, its, n, e, rfl, rfl, of_decide_eq_true h2, He.relAll_ok h3⟩
  · cases h
end DL

set_option Elab.async false
set_option linter.all false
set_option maxRecDepth 100000
set_option maxHeartbeats 4000000
namespace DL
open PySem L2 PySem.Spec PyProof.Rows

/-! ### a def that others call -/
structure Fn (P : Program) (w : World) (K : Fg) (mg : Str → Option Value) (base : Heap) (x : Str) (k n : Nat) (wd : Bool) (ff : FF) : Prop where
  ok : ∃ (f : Addr) (fd : FuncData) (ps : List Str), FnOk P w K mg base (L2.CX P w) k f fd ps (spD K n wd ff) ∧ mg x = some (.ref f) ∧ PySem.W.keepIn K (.ref f) = true ∧ Binds K fd ps []
section
variable {X : Cx} {c : Ct} {W : WX} {e a b : Expr} {es : List Expr} {pos p : Pos} {x : Str} {k n : Nat} {ff : FF} {mr : MA} {tr : TA}
theorem takes0 : Takes X W0 := fun u s' ⟨a, B, sI, pins, σ, H, cls, d, e, I, nb, up, sky, na, os, ag, w⟩ => w.elim
theorem de_f (C : Fn X.prog X.w X.K X.mg X.base x k n false ff) (hr : Room k X.A) (hg : Gl X x) (tk : Takes X W)
    (ha : DA X c W (e :: es) tr mr) (hdb : (x == ("__debug__" : Str)) = false := by decide) (he : starEach (e :: es) X.env = (false, eval e X.env) :: starEach es X.env := by rfl) (hpl : (backTo pos (starEach es X.env)).any (·.1) = false := by rfl) :
    DE X c W (.Call (.Name x p) (e :: es) [] pos) (tCallSD (spD X.K n false ff) [] (fun σ cls d H => W cls d σ H) tr) (mCall ff [] n mr) := by
  obtain ⟨f, fd, ps, F, hm, hk, hb⟩ := C.ok
  exact de_call F hr hg hm hk hb .nil (fun _ => .nil) tk ha hdb he hpl
theorem de_fL (i : Nat) {z : Str} {zp : Pos} (C : Fn X.prog X.w X.K X.mg X.base x k n true ff) (hr : Room k X.A) (hg : Gl X x) (tk : Takes X W)
    (hz : PE X (.Name z zp) (tVar i)) (ha : DA X c W es tr mr) (hdb : (x == ("__debug__" : Str)) = false := by decide) (he : starEach (.Name z zp :: es) X.env = (false, eval (.Name z zp) X.env) :: starEach es X.env := by rfl) (hpl : (backTo pos (starEach es X.env)).any (·.1) = false := by rfl) :
    DE X c W (.Call (.Name x p) (.Name z zp :: es) [] pos) (tCallSD (spD X.K n true ff) [] (fun σ cls d H => W cls d σ H) (tCons (tVar i) tr)) (mCallL i ff [] n mr) := by
  obtain ⟨f, fd, ps, F, hm, hk, hb⟩ := C.ok
  exact de_callL i F hr hg hm hk hb .nil (fun _ => .nil) tk hz ha hdb he hpl
end
/-- fewer levels are enough -/
theorem room_le {A : Around} {j k : Nat} (h : Room k A) (l : j ≤ k) : Room j A := by
  first | exact h.mono l | exact Room.le h l | exact h.le l
/-! ### comparing ints -/
abbrev gLe : D → D → (D → Prop) → Prop := gI0 fun i j => .bl (decide (i ≤ j))
abbrev gLt : D → D → (D → Prop) → Prop := gI0 fun i j => .bl (decide (i < j))
theorem rd_le {K : Fg} : RD K (rI0 fun i j => .bl (decide (i ≤ j))) gLe := rd_I0 fun i j G => .bl _
theorem rd_lt {K : Fg} : RD K (rI0 fun i j => .bl (decide (i < j))) gLt := rd_I0 fun i j G => .bl _

theorem de_ty {X : Cx} {c : Ct} {W : WX} {x : Str} {pos : Pos} (T : String) (hg : Gl X x) (hm : X.mg x = none) (hv : bootBuiltins x = some (.type T)) (hn : x ≠ "__name__" := by decide) (hd : (x == ("__debug__" : Str)) = false := by decide) : DE X c W (.Name x pos) (tC (.ty T)) (mC (.fx (.ty T))) :=
  de_bltn hg hm hv rfl hn hd
/-! ### == of two texts, of two ints -/
def gEqS (d e : D) (F : D → Prop) : Prop := match d, e with
  | .str a, .str b => F (.bl (decide (a = b)))
  | .int a, .int b => F (.bl (decide (a = b)))
  | _, _ => False
def gNeS (d e : D) (F : D → Prop) : Prop := match d, e with
  | .str a, .str b => F (.bl (!decide (a = b)))
  | .int a, .int b => F (.bl (!decide (a = b)))
  | _, _ => False
theorem dec_s {a b : Str} : decide (V.str a = V.str b) = decide (a = b) := decide_eq_decide.mpr ⟨fun h => V.str.inj h, fun h => h ▸ rfl⟩
theorem dec_i {a b : Int} : decide (V.int a = V.int b) = decide (a = b) := decide_eq_decide.mpr ⟨fun h => V.int.inj h, fun h => h ▸ rfl⟩
theorem rd_eqS {K : Fg} : RD K rEq gEqS := fun H G x y d e F Q s rx ry h k => by
  unfold gEqS at h
  split at h
  · rw [rx.str_of, ry.str_of]
    exact ⟨rfl, k _ _ H G (Go.refl s .no) (by rw [dec_s]; exact .bl _) h⟩
  · rw [rx.int_of, ry.int_of]
    exact ⟨rfl, k _ _ H G (Go.refl s .no) (by rw [dec_i]; exact .bl _) h⟩
  · exact h.elim
theorem rd_neS {K : Fg} : RD K rNe gNeS := fun H G x y d e F Q s rx ry h k => by
  unfold gNeS at h
  split at h
  · rw [rx.str_of, ry.str_of]
    exact ⟨rfl, k _ _ H G (Go.refl s .no) (by rw [dec_s]; exact .bl _) h⟩
  · rw [rx.int_of, ry.int_of]
    exact ⟨rfl, k _ _ H G (Go.refl s .no) (by rw [dec_i]; exact .bl _) h⟩
  · exact h.elim
/-! ### walking a list or a tuple -/
def iSeq (K : Fg) (te : TE) : TI := fun σ H R => te σ H fun x H' => ∃ q, x = .ref q ∧ (((∃ ys, SqL K H' q ys) ∧ R (Itl K q) H') ∨ ((∃ ys, SqT K H' q ys) ∧ R (Itt K q) H'))
theorem pi_seq {X : Cx} {tg l : Expr} {te : TE} (hl : PE X l te) : PI X tg l (iSeq X.K te) :=
  ⟨fun pins s σ H R I h => thn (hl.run pins s σ H _ I h) fun v t1 post => by
    obtain ⟨x, H1, I1, r1, q, e, z⟩ := post
    subst e
    cases r1
    rcases z with ⟨⟨ys, hs⟩, k⟩ | ⟨⟨ys, hs⟩, k⟩
    · obtain ⟨its, rv, pl, hz⟩ := I1.list hs
      refine wpAny_pyIter_list (pl.isList) ?_
      refine ⟨t1.heap.objs.size, [t1.heap.objs.size], _, _, H1, rfl, I1.kept (t' := t1.toks) (fun b o => Heap.get?_push_of_some _), turn_list q _, ⟨_, Heap.get?_push_size _ rfl, rfl, rfl⟩, ?_, k⟩
      intro b hb
      rw [List.mem_singleton.mp hb]
      exact I1.fpOk (Nat.le_refl _) (I1.hok.fresh (Nat.le_refl _))
    · obtain ⟨its, rv, pl, hz⟩ := I1.tuple hs
      refine wpAny_pyIter_tuple (show t1.heap.IsTuple q (its.toArray) from pl) ?_
      refine ⟨t1.heap.objs.size, [t1.heap.objs.size], _, _, H1, rfl, I1.kept (t' := t1.toks) (fun b o => Heap.get?_push_of_some _), turn_tuple q _, ⟨_, Heap.get?_push_size _ rfl, rfl, rfl⟩, ?_, k⟩
      intro b hb
      rw [List.mem_singleton.mp hb]
      exact I1.fpOk (Nat.le_refl _) (I1.hok.fresh (Nat.le_refl _))⟩
def miS (ma : ME) : MA := fun δ F X => ma δ (fun d => ∃ ds, seqD d = some ds ∧ F ds) X
section
variable {X : Cx} {c : Ct} {W : WX} {e tg : Expr} {ma : ME} {ta : TE}
theorem di_seq (h : DE X c W e ta ma) : DI X c W tg e (iSeq X.K ta) (miS ma) := by
  obtain ⟨p, w⟩ := h
  refine ⟨pi_seq p, fun H G σ δ F X R cr rs h q x => ?_⟩
  refine w H G σ δ _ _ _ cr rs h (fun v d H' G' g r f => ?_) x
  obtain ⟨ds, e1, f⟩ := f
  cases d with
  | lst l =>
    cases e1
    obtain ⟨a, xs, e1, h1, r1⟩ := r.lst_of
    exact ⟨a, e1, .inl ⟨⟨xs, SqL.of (g.sub _ _ h1)⟩, q _ _ H' G' g (walk_l h1 r1) f⟩⟩
  | tup l =>
    cases e1
    obtain ⟨a, xs, e1, h1, r1⟩ := r.tup_of
    exact ⟨a, e1, .inr ⟨⟨xs, same_t g.sub h1⟩, q _ _ H' G' g (walk_t h1 r1) f⟩⟩
  | _ => cases e1
end
theorem slot_strip : Slot "str" "strip" "str.strip" := .of (owner := "str") (n := "strip")
  (by rw [typeLookup_type, builtinLookup_eq_fast]; kernel_rfl) (by decide +kernel)
  (by decide +kernel) (by decide +kernel) (by first | exact .inl (by decide +kernel) | exact .inr (by decide +kernel))
  (by rw [isSubtype_type]; kernel_rfl)
theorem type_strip : typeOf (.builtin "str.strip") = pure (.type "method_descriptor") := by
  show builtinType _ = _
  rw [builtinType_eq_fast]
  kernel_rfl

/-! ### the rule for a def, whose reading knows the way out -/
section
variable {P : Program} {w : World} {K : Fg} {mg : Str → Option Value} {base : Heap} {x qual : Str} {params : Arguments} {body : List Stmt} {scope : Scope} {dvs : List V} {kws : List (Str × V)} {f : Addr} {fd : FuncData} {N ps : List Str} {n k : Nat} {wd : Bool} {ff : FF}
theorem fn_okE (F : FunD K x qual params body scope dvs kws f fd) (S : FnScope N ps scope) (hl : ps.length = n + dn wd) (hN : ps.length ≤ N.length)
    (hb : ∀ (c : Ct) (cdv : Value) (A : Around) (outer : List Env) (s : Shared) (H : Hp) (E : XK), Room k (A.deeper (PyProof.Rows.envOfC qual scope s.heap.objs.size f cdv)) → ∃ t ms, DSs (cxOf (L2.CX P w) P w K mg base N qual scope f cdv A outer s H E) c (WF E) body t ms ∧
      ∀ ds G X, ds.length = n → ff ds G X → ms (start0 wd ds (N.length - (n + dn wd))) { nx := fun _ => G .non, rt := G, rs := fun x _ => X x }) : FnOk P w K mg base (L2.CX P w) (k + 1) f fd ps (spD K n wd ff) := by
  refine F.ok S (fun vs H Q E h => (spD_len h).trans hl.symm) (fun cdv A outer s H vs Q E hr h => ?_)
  obtain ⟨G, ds, dl, vs', G0, X0, hn, hw, sm, dk, r, hf, hq, hx⟩ := h
  obtain ⟨t, ms, ⟨p, w'⟩, hm⟩ := hb ⟨dl, none, H, G⟩ cdv A outer s H E hr
  refine ⟨t, p, ?_⟩
  have cr : Cr ⟨dl, none, H, G⟩ H G := ⟨fun _ _ q _ _ => q, Same.refl _, sm, fun _ _ q => .inl q, dk, fun p' l' e => by
    obtain ⟨⟨_, _, q1, q2, _⟩, _⟩ := dk p' l' e
    exact ⟨fun z => (by rw [show H p' = none from z] at q1; cases q1), fun z => (by rw [show H l' = none from z] at q2; cases q2)⟩, fun _ e => nomatch e⟩
  refine w' H G _ _ _ _ cr (rs_start hn hw r (by omega)) (hm ds G0 X0 hn hf) ⟨fun σ δ H' G' a b z q => hq .non .non H' G' (a.go rfl) .non q, fun v d H' G' a b z q => hq v d H' G' (a.go rfl) b q, fun _ _ _ _ _ _ _ q => q.elim, fun _ _ _ _ _ _ _ q => q.elim,
    fun C fs d σ δ H' G' a b z e q => hx C fs d H' G' (a.go rfl) e q⟩
end
end DL

set_option Elab.async false
set_option linter.all false
set_option maxRecDepth 100000
set_option maxHeartbeats 4000000
namespace DL
open PySem L2 PySem.Spec PyProof.Rows
/-! ### what a comprehension makes -/
theorem lcD_gen {mg : MG} {mt : MT} {me : ME} {δ : List Sl} {g : D → List Sl} {p : D → Bool} {f : D → D} {F : List D → Prop} : ∀ (ds acc : List D),
    (∀ d ∈ ds, (∀ F' : List Sl → Prop, F' (g d) → mg d δ F') ∧ (∀ F' : Bool → Prop, F' (p d) → mt (g d) F' (fun _ => False)) ∧ (p d = true → ∀ F' : D → Prop, F' (f d) → me (g d) F' (fun _ => False))) →
    F (acc ++ (ds.filter p).map f) → lcD mg mt me δ F ds acc
  | [], acc, _, h => by
    rw [List.filter_nil, List.map_nil, List.append_nil] at h
    exact h
  | d :: ds, acc, hs, h => by
    obtain ⟨h1, h2, h3⟩ := hs d (List.mem_cons_self ..)
    refine h1 _ (h2 _ ?_)
    cases e : p d with
    | true =>
      rw [List.filter_cons_of_pos e, List.map_cons] at h
      show (if true = true then _ else _)
      rw [if_pos rfl]
      exact h3 e _ (lcD_gen ds _ (fun d' m => hs d' (List.mem_cons_of_mem _ m)) (by rw [List.append_assoc]; exact h))
    | false =>
      rw [List.filter_cons_of_neg (by rw [e]; decide)] at h
      show (if false = true then _ else _)
      rw [if_neg (by decide)]
      exact lcD_gen ds _ (fun d' m => hs d' (List.mem_cons_of_mem _ m)) h
/-- one name, no test -/
theorem lcD_map {i : Nat} {me : ME} {δ : List Sl} {f : D → D} {F : List D → Prop} (ds : List D) (hs : ∀ d ∈ ds, ∀ F' : D → Prop, F' (f d) → me (δ.set i (.dat d)) F' (fun _ => False)) (h : F (ds.map f)) : lcD (mgName i) mYes me δ F ds [] :=
  lcD_gen (g := fun d => δ.set i (.dat d)) (p := fun _ => true) (f := f) ds [] (fun d m => ⟨fun _ q => q, fun _ q => q, fun _ => hs d m⟩) (by rw [List.filter_eq_self.mpr fun _ _ => rfl, List.nil_append]; exact h)
/-- one name, a test -/
theorem lcD_if {i : Nat} {mt : MT} {me : ME} {δ : List Sl} {p : D → Bool} {f : D → D} {F : List D → Prop} (ds : List D) (ht : ∀ d ∈ ds, ∀ F' : Bool → Prop, F' (p d) → mt (δ.set i (.dat d)) F' (fun _ => False))
    (hs : ∀ d ∈ ds, p d = true → ∀ F' : D → Prop, F' (f d) → me (δ.set i (.dat d)) F' (fun _ => False)) (h : F ((ds.filter p).map f)) : lcD (mgName i) mt me δ F ds [] :=
  lcD_gen (g := fun d => δ.set i (.dat d)) (p := p) (f := f) ds [] (fun d m => ⟨fun _ q => q, ht d m, hs d m⟩) h
theorem bls_map {α : Type} {f : α → Bool} : ∀ ds : List α, blsD (ds.map fun d => .bl (f d)) = some (ds.map f)
  | [] => rfl
  | d :: ds => by
    show (blsD (ds.map fun d => D.bl (f d))).map (f d :: ·) = _
    rw [bls_map ds]
    rfl
theorem all_map {α : Type} {f : α → Bool} (ds : List α) : (ds.map f).all id = ds.all f := by rw [List.all_map]; rfl

section
variable {X : Cx} {c : Ct} {W : WX} {elt iter tg : Expr} {ifs : List Expr} {scope : Scope} {own : List (Str × Nat)} {pos : Pos} {ti : TI} {mi : MA} {is : List Nat} {tgg : Shared → Hp → Addr → List (Str × Addr) → List Addr → TG} {mg : Shared → Hp → Addr → List (Str × Addr) → List Addr → MG}
  {tt : Shared → Hp → Addr → List (Str × Addr) → List Addr → TT} {mt : Shared → Hp → Addr → List (Str × Addr) → List Addr → MT} {te : Shared → Hp → Addr → List (Str × Addr) → List Addr → TE} {me : Shared → Hp → Addr → List (Str × Addr) → List Addr → ME}
abbrev z5 {α : Type} (f : Shared → Hp → Addr → List (Str × Addr) → List Addr → α) : α := f {} (fun _ => none) 0 [] []
theorem de_lcF (hc : X.calm = true) (hN : X.N.Nodup) (hi : DIC X c W tg iter ti mi) (ok : BlkOk X.N X.env.scope scope own) (hv : ∀ i ∈ is, i ∈ own.map (·.2))
    (hg : ∀ (s : Shared) (H : Hp) (C : Addr) (cl : List (Str × Addr)) (fp : List Addr), DG (Blk X scope s H C cl fp) tg (tgg s H C cl fp) is (mg s H C cl fp))
    (ht : ∀ (s : Shared) (H : Hp) (C : Addr) (cl : List (Str × Addr)) (fp : List Addr), DTs (Blk X scope s H C cl fp) c W0 ifs (tt s H C cl fp) (mt s H C cl fp))
    (he : ∀ (s : Shared) (H : Hp) (C : Addr) (cl : List (Str × Addr)) (fp : List Addr), DE (Blk X scope s H C cl fp) c W0 elt (te s H C cl fp) (me s H C cl fp))
    (hs : ∀ x, foldedSetIterable iter X.env x = pure x := by intro _; rfl)
    (q1 : ∀ s H C cl fp, tgg s H C cl fp = z5 tgg := by intros; rfl) (q2 : ∀ s H C cl fp, mg s H C cl fp = z5 mg := by intros; rfl) (q3 : ∀ s H C cl fp, tt s H C cl fp = z5 tt := by intros; rfl)
    (q4 : ∀ s H C cl fp, mt s H C cl fp = z5 mt := by intros; rfl) (q5 : ∀ s H C cl fp, te s H C cl fp = z5 te := by intros; rfl) (q6 : ∀ s H C cl fp, me s H C cl fp = z5 me := by intros; rfl) :
    DE X c W (.ListComp elt [⟨tg, iter, ifs, 0⟩] scope pos) (tLc ti (z5 tgg) (z5 tt) (z5 te) (own.map (·.2))) (mLc mi (z5 mg) (z5 mt) (z5 me) (own.map (·.2))) :=
  de_lc hc hN hi ok hv (fun s H C cl fp => by rw [← q1 s H C cl fp, ← q2 s H C cl fp]; exact hg s H C cl fp) (fun s H C cl fp => by rw [← q3 s H C cl fp, ← q4 s H C cl fp]; exact ht s H C cl fp)
    (fun s H C cl fp => by rw [← q5 s H C cl fp, ← q6 s H C cl fp]; exact he s H C cl fp) hs
end

section
variable {P : Program} {w : World} {K : Fg} {mg : Str → Option Value} {base : Heap} {x qual : Str} {params : Arguments} {body : List Stmt} {scope : Scope} {dvs : List V} {kws : List (Str × V)} {f C : Addr} {fd : FuncData} {N ps : List Str} {n k : Nat} {ff : FI}
theorem fn_okIE (F : FunD K x qual params body scope dvs kws f fd) (S : FnScope N ps scope) (hl : ps.length = n + 1) (hN : ps.length ≤ N.length)
    (hb : ∀ (c : Ct) (cdv : Value) (A : Around) (outer : List Env) (s : Shared) (H : Hp) (E : XK), Room k (A.deeper (envOfC qual scope s.heap.objs.size f cdv)) → ∃ t ms, DSs (cxOf (L2.CX P w) P w K mg base N qual scope f cdv A outer s H E) c (WF E) body t ms ∧
      ∀ ds G X, ds.length = n → ff ds G X → ms (Sl.self C [] :: (ds.map Sl.dat ++ List.replicate (N.length - (n + 1)) .un)) { nx := selfIs C G, rt := fun _ => False, rs := fun x _ => X x }) : FnOk P w K mg base (L2.CX P w) (k + 1) f fd ps (spI K n C ff) := by
  refine F.ok S (fun vs H Q E h => ?_) (fun cdv A outer s H vs Q E hr h => ?_)
  · obtain ⟨G, ds, y, dx, vs', F0, X0, rfl, hn, _, _, _, r, _⟩ := h
    rw [List.length_cons, r.length, hl]
    omega
  · obtain ⟨G, ds, y, dx, vs', F0, X0, rfl, hn, h1, h2, sm, r, hf, hq, hx⟩ := h
    obtain ⟨t, ms, ⟨p, w'⟩, hm⟩ := hb ⟨none, some y, H, G⟩ cdv A outer s H E hr
    refine ⟨t, p, ?_⟩
    have cr : Cr ⟨none, some y, H, G⟩ H G := ⟨fun _ _ q _ _ => q, Same.refl _, sm, fun _ _ q => .inl q, .no, (fun _ _ e => nomatch e), fun a e => ⟨C, dx, [], (Option.some.inj (show some y = some a from e)) ▸ h1⟩⟩
    have lv := r.length
    have eN : L2.start N (V.ref y :: vs') = some (V.ref y) :: (vs'.map some ++ List.replicate (N.length - (n + 1)) none) := by
      unfold L2.start
      rw [List.length_cons, lv, hn]
      rfl
    have rs : RS K ⟨none, some y, H, G⟩ H G (L2.start N (V.ref y :: vs')) (Sl.self C [] :: (ds.map Sl.dat ++ List.replicate (N.length - (n + 1)) .un)) := by
      rw [eN]
      have at_ : ∀ (i : Nat) (s : Sl), (Sl.self C [] :: (ds.map Sl.dat ++ List.replicate (N.length - (n + 1)) .un))[i]? = some s → ∃ z, (some (V.ref y) :: (vs'.map some ++ List.replicate (N.length - (n + 1)) none))[i]? = some z ∧ SlotOk K ⟨none, some y, H, G⟩ H G z s ∧ ∀ es, s ≠ .own es := by
        intro i s e
        cases i with
        | zero =>
          cases e
          exact ⟨_, rfl, ⟨y, dx, [], rfl, rfl, h1, h2, Nat.zero_le _, .nil⟩, fun _ z => nomatch z⟩
        | succ i => exact dat_at _ i s r e
      refine ⟨by simp; omega, fun i s e => let ⟨z, a, b, _⟩ := at_ i s e; ⟨z, a, b⟩, fun i j p ds es ne h1 _ _ => ?_⟩
      obtain ⟨_, _, _, z⟩ := at_ i _ h1
      exact absurd rfl (z ds)
    have gos : ∀ {H' G' : Hp}, Cr ⟨none, some y, H, G⟩ H' G' → GoS y H G H' G' := fun {H' G'} a => ⟨fun b o q ne => a.keep b o q .non fun z => ne (Option.some.inj z).symm, a.grow, a.sub, a.new⟩
    refine w' H G _ _ _ _ cr rs (hm ds F0 X0 hn hf) ⟨fun σ δ H' G' a b z q => ?_, fun _ _ _ _ _ _ _ q => q.elim, fun _ _ _ _ _ _ _ q => q.elim, fun _ _ _ _ _ _ _ q => q.elim, fun C' fs d σ δ H' G' a b z e q => hx C' fs d H' G' (gos a) e q⟩
    have q : selfIs C F0 δ := q
    cases δ with
    | nil => exact q.elim
    | cons sl rest =>
      cases sl with
      | self C' fs =>
        obtain ⟨rfl, q3⟩ := (show C' = C ∧ F0 fs from q)
        obtain ⟨u, u1, a', dx', fv, u2, u3, u4, u5, u6, u7⟩ := b.at_ 0 _ rfl
        have u3 : some y = some a' := u3
        cases u3
        exact hq fv fs H' G' dx' (gos a) u4 u5 u7 q3
      | _ => exact q.elim
end
/-- a class that others make: its __init__ -/
structure Mkr (P : Program) (w : World) (K : Fg) (mg : Str → Option Value) (base : Heap) (x : Str) (C : Addr) (k n : Nat) (ff : FI) : Prop where
  ok : ∃ (fI : Addr) (fd : FuncData) (ps : List Str), Mk K C fI ∧ FnOk P w K mg base (L2.CX P w) k fI fd ps (spI K n C ff) ∧ mg x = some (.ref C) ∧ Binds K fd ps []
end DL

set_option Elab.async false
set_option linter.all false
set_option maxRecDepth 100000
set_option maxHeartbeats 4000000
namespace DL
open PySem L2 PySem.Spec PyProof.Rows
theorem slot_pop : Slot "list" "pop" "list.pop" := .of (owner := "list") (n := "pop")
  (by rw [typeLookup_type, builtinLookup_eq_fast]; kernel_rfl) (by decide +kernel)
  (by decide +kernel) (by decide +kernel) (by first | exact .inl (by decide +kernel) | exact .inr (by decide +kernel))
  (by rw [isSubtype_type]; kernel_rfl)
theorem type_pop : typeOf (.builtin "list.pop") = pure (.type "method_descriptor") := by
  show builtinType _ = _
  rw [builtinType_eq_fast]
  kernel_rfl
theorem slot_append : Slot "list" "append" "list.append" := .of (owner := "list") (n := "append")
  (by rw [typeLookup_type, builtinLookup_eq_fast]; kernel_rfl) (by decide +kernel)
  (by decide +kernel) (by decide +kernel) (by first | exact .inl (by decide +kernel) | exact .inr (by decide +kernel))
  (by rw [isSubtype_type]; kernel_rfl)
theorem type_append : typeOf (.builtin "list.append") = pure (.type "method_descriptor") := by
  show builtinType _ = _
  rw [builtinType_eq_fast]
  kernel_rfl

/-! ### the signs of a text, walked -/
def sigD (z : Str) : List D := z.cps.toList.map fun c => D.str ⟨#[c]⟩
theorem walk_s {K : Fg} {G : Hp} {z : Str} : IsWalk K G (Its z) (sigD z) := fun i H G' s s' => by
  refine ⟨fun d e => ?_, fun e => ?_⟩
  · unfold sigD at e
    rw [List.getElem?_map, Array.getElem?_toList] at e
    cases hc : z.cps[i]? with
    | none => rw [hc] at e; cases e
    | some c =>
      rw [hc] at e
      cases e
      have hi : i < z.cps.size := by
        obtain ⟨h, _⟩ := Array.getElem?_eq_some_iff.mp hc
        exact h
      refine ⟨hi, fun x H' ⟨e1, c2, e2, e3⟩ => ?_⟩
      rw [hc] at e2
      cases e2
      subst e1 e3
      exact ⟨G', Go.refl s' .no, .str _⟩
  · unfold sigD at e
    rw [List.length_map, Array.length_toList] at e
    exact Nat.le_of_eq e.symm
def miZ (ma : ME) : MA := fun δ F X => ma δ (fun d => match d with
  | .str z => F (sigD z)
  | _ => False) X
section
variable {X : Cx} {c : Ct} {W : WX} {e tg : Expr} {ma : ME} {ta : TE}
theorem di_str (h : DE X c W e ta ma) : DI X c W tg e (iStr ta) (miZ ma) := by
  obtain ⟨p, w⟩ := h
  refine ⟨pi_str p, fun H G σ δ F X R cr rs h q x => ?_⟩
  refine w H G σ δ _ _ _ cr rs h (fun v d H' G' g r f => ?_) x
  split at f
  · exact ⟨_, r.str_of, q _ _ H' G' g walk_s f⟩
  · exact f.elim
end
end DL

set_option Elab.async false
set_option linter.all false
set_option maxRecDepth 100000
set_option maxHeartbeats 4000000
namespace DL
open PySem L2 PySem.Spec PyProof.Rows
/-! ### a list of anything against [] -/
def rEqE (K : Fg) : R2 := fun x y H Q => ∃ a b xs, x = .ref a ∧ y = .ref b ∧ xs ≠ [] ∧ SqL K H a xs ∧ SqL K H b [] ∧ Q (.bl false) H
def rNeE (K : Fg) : R2 := fun x y H Q => ∃ a b xs, x = .ref a ∧ y = .ref b ∧ xs ≠ [] ∧ SqL K H a xs ∧ SqL K H b [] ∧ Q (.bl true) H
section
variable {X : Cx}
theorem sizes_ne {xs : List V} {us ws : List Value} (n : xs ≠ []) (r1 : Vals xs us) (r2 : Vals [] ws) : (us.toArray.size != ws.toArray.size) = true := by
  cases r2
  cases r1 with
  | nil => exact absurd rfl n
  | cons _ _ => simp
theorem op_eqE (hu : X.A.units < cLine) : OpR X (compareOp .Eq) (rEqE X.K) := by
  intro pins s σ H x y v u Q I rx ry h
  obtain ⟨a, b, xs, rfl, rfl, n, ha, hb, q⟩ := h
  cases (show v = Value.ref a from rx)
  cases (show u = Value.ref b from ry)
  obtain ⟨us, r1, p1, _⟩ := I.list ha
  obtain ⟨ws, r2, p2, _⟩ := I.list hb
  exact PySem.SeqAt.eq_list_lengthsAt p1.isList p2.isList (sizes_ne n r1 r2) hu ⟨.bl false, H, I, rfl, q⟩
theorem op_neE (hu : X.A.units < cLine) : OpR X (compareOp .NotEq) (rNeE X.K) := by
  intro pins s σ H x y v u Q I rx ry h
  obtain ⟨a, b, xs, rfl, rfl, n, ha, hb, q⟩ := h
  cases (show v = Value.ref a from rx)
  cases (show u = Value.ref b from ry)
  obtain ⟨us, r1, p1, _⟩ := I.list ha
  obtain ⟨ws, r2, p2, _⟩ := I.list hb
  exact PySem.SeqAt.RcNeAt.lists_lengths p1.isList p2.isList (sizes_ne n r1 r2) hu X.prog X.w _ _ ⟨.bl true, H, I, rfl, q⟩
def rEqL (K : Fg) : R2 := fun x y H Q => rEqD K x y H Q ∨ rEqE K x y H Q
def rNeL (K : Fg) : R2 := fun x y H Q => rNeD K x y H Q ∨ rNeE K x y H Q
theorem op_eqL (hu : X.A.units + 64 < cLine) : OpR X (compareOp .Eq) (rEqL X.K) := (op_eqD hu).or (op_eqE (by omega))
theorem op_neL (hu : X.A.units + 64 < cLine) : OpR X (compareOp .NotEq) (rNeL X.K) := (op_neD hu).or (op_neE (by omega))
end
def gEqL (d e : D) (F : D → Prop) : Prop := match d, e with
  | .lst xs, .lst [] => F (.bl xs.isEmpty)
  | _, _ => False
def gNeL (d e : D) (F : D → Prop) : Prop := match d, e with
  | .lst xs, .lst [] => F (.bl (!xs.isEmpty))
  | _, _ => False
theorem rd_eqL {K : Fg} : RD K (rEqL K) gEqL := fun H G x y d e F Q s rx ry h k => by
  unfold gEqL at h
  split at h
  · rename_i xs
    obtain ⟨a, vs, e1, g1, r1⟩ := rx.lst_of
    obtain ⟨b, ws, e2, g2, r2⟩ := ry.lst_of
    cases r2
    cases r1 with
    | nil => exact .inl ⟨.list [], .list [], by rw [e1]; exact .lst (SqL.of (s _ _ g1)) .nil, by rw [e2]; exact .lst (SqL.of (s _ _ g2)) .nil, rfl, rfl, k _ _ H G (Go.refl s .no) (.bl _) h⟩
    | cons c1 c2 => exact .inr ⟨a, b, _, e1, e2, List.cons_ne_nil _ _, SqL.of (s _ _ g1), SqL.of (s _ _ g2), k _ _ H G (Go.refl s .no) (.bl _) h⟩
  · exact h.elim
theorem rd_neL {K : Fg} : RD K (rNeL K) gNeL := fun H G x y d e F Q s rx ry h k => by
  unfold gNeL at h
  split at h
  · rename_i xs
    obtain ⟨a, vs, e1, g1, r1⟩ := rx.lst_of
    obtain ⟨b, ws, e2, g2, r2⟩ := ry.lst_of
    cases r2
    cases r1 with
    | nil => exact .inl ⟨.list [], .list [], by rw [e1]; exact .lst (SqL.of (s _ _ g1)) .nil, by rw [e2]; exact .lst (SqL.of (s _ _ g2)) .nil, rfl, rfl, k _ _ H G (Go.refl s .no) (.bl _) h⟩
    | cons c1 c2 => exact .inr ⟨a, b, _, e1, e2, List.cons_ne_nil _ _, SqL.of (s _ _ g1), SqL.of (s _ _ g2), k _ _ H G (Go.refl s .no) (.bl _) h⟩
  · exact h.elim
end DL

set_option Elab.async false
set_option linter.all false
set_option maxRecDepth 100000
set_option maxHeartbeats 4000000
namespace DL
open PySem L2 PySem.Spec PyProof.Rows
/-! ### what is never reached -/
section
variable {X : Cx} {c : Ct} {W : WX} {st : Stmt} {e a b : Expr} {es : List Expr} {pos p p2 q : Pos} {ma : ME} {ta : TE} {mr : MA} {tr : TA}
theorem ds_never : DS X c W st (fun _ _ _ => False) (fun _ _ => False) := ⟨⟨fun _ _ _ _ _ _ h => h.elim⟩, fun _ _ _ _ _ _ _ _ h _ => h.elim⟩
theorem de_never : DE X c W e (fun _ _ _ => False) (fun _ _ _ => False) := ⟨⟨fun _ _ _ _ _ _ h => h.elim⟩, fun _ _ _ _ _ _ _ _ _ h _ _ => h.elim⟩
/-! ### sorted(set(x)) of an empty list -/
def gSort0 (d : D) (F : D → Prop) : Prop := match d with
  | .lst [] => F (.lst [])
  | _ => False
theorem de_sortSet0 (hc : X.calm = true) (hu : X.A.units + 64 < cLine) (hg : Gl X "sorted") (hm : X.mg "sorted" = none) (hg2 : Gl X "set") (hm2 : X.mg "set" = none) (ha : DE X c W a ta ma)
    (h2 : starEach [a] X.env = (false, eval a X.env) :: starEach [] X.env := by rfl)
    (h1 : starEach [.Call (.Name "set" p2) [a] [] q] X.env = (false, eval (.Call (.Name "set" p2) [a] [] q) X.env) :: starEach [] X.env := by rfl) :
    DE X c W (.Call (.Name "sorted" p) [.Call (.Name "set" p2) [a] [] q] [] pos) (tCB (rSortedT X.K X.prog X.w) (tCons (tCB (rSetOfT X.K X.prog X.w) (tCons ta tNil)) tNil)) (fun δ F Y => ma δ (fun d => gSort0 d F) Y) := by
  refine ⟨pe_callB (cr_sortedT hc) hg hm (by decide +kernel) (pa_cons (pe_callTy (cr_setOfT hc hu) hg2 hm2 (by decide +kernel) (pa_cons ha.p pa_nil h2) (by decide) (by decide) h2 (by rfl)) pa_nil h1) (by decide) (by decide) h1 (by rfl), fun H G σ δ F Y Q cr rs h k x => ?_⟩
  refine ha.w H G σ δ _ _ _ cr rs h (fun v d H1 G1 g1 r1 f => ?_) x
  unfold gSort0 at f
  split at f
  · obtain ⟨l, xs, rfl, h3, r2⟩ := r1.lst_of
    cases r2
    refine ⟨l, [], rfl, SqL.of (g1.sub _ _ h3), (fun _ z => by cases z), by decide, fun s L hs hL _ => ?_⟩
    have e : L = [] := List.eq_nil_iff_forall_not_mem.mpr fun z hz => by cases hL z hz
    subst e
    refine ⟨s, [], 1, 0, rfl, upd_same, (fun _ z => by cases z), by decide, (fun _ z => by cases z), fun L' t hp _ _ _ ht => ?_⟩
    have e : L' = [] := List.perm_nil.mp hp
    subst e
    have g2 := Go.mine (o := SetTO X.prog X.w s []) g1.sub hs
    have g3 := Go.laid (o := .lst []) g2.sub ht
    exact k (.ref t) (.lst []) _ _ ((g1.trans (g2.lift g1.deal)).trans (g3.lift (g2.lift g1.deal).deal)) (.lst upd_same .nil) f
  · exact f.elim
end

/-! ### two loops in one list, the outer one over nothing -/
section
variable {X : Cx} {c : Ct} {W : WX} {elt iter tg iter1 tg1 : Expr} {scope : Scope} {own : List (Str × Nat)} {pos : Pos} {ti : TI} {mi : MA}
theorem de_lc2E (hc : X.calm = true) (hN : X.N.Nodup) (hi : DIC X c W tg iter ti mi) (ok : BlkOk X.N X.env.scope scope own) (hs : ∀ x, foldedSetIterable iter X.env x = pure x := by intro _; rfl) (hs1 : ∀ env x, foldedSetIterable iter1 env x = pure x := by intro _ _; rfl) :
    DE X c W (.ListComp elt [⟨tg, iter, [], 0⟩, ⟨tg1, iter1, [], 0⟩] scope pos) (tLc2 ti (fun _ _ _ _ => False) tYes (fun _ _ _ => False) (fun _ _ _ _ => False) tYes (fun _ _ _ => False) (own.map (·.2)) []) (fun δ F Y => mi δ (fun ds => ds = [] ∧ F (.lst [])) Y) := by
  refine ⟨pe_lc2 hc hN hi.p ok (fun _ z => by cases z) (fun _ _ _ _ _ => ⟨fun _ _ _ _ _ _ _ _ _ h => h.elim⟩) (fun _ _ _ _ _ => pts_nil) (fun _ _ _ _ _ => ⟨fun _ _ _ _ _ _ h => h.elim⟩) (fun _ _ _ _ _ => ⟨fun _ _ _ _ _ _ _ _ _ h => h.elim⟩) (fun _ _ _ _ _ => pts_nil) (fun _ _ _ _ _ => ⟨fun _ _ _ _ _ _ h => h.elim⟩) hs hs1, fun H G σ δ F Y Q cr rs h q x => ?_⟩
  refine hi.w H G σ δ _ _ _ cr rs h (fun J ds H1 G1 g1 wk f => ?_) x
  obtain ⟨rfl, f⟩ := f
  intro D hD
  refine ⟨fun i m H' => i = 0 ∧ H' = upd H1 D (.lst []), ⟨0, rfl, rfl⟩, ?_⟩
  rintro i m H2 ⟨rfl, rfl⟩
  have g2 := Go.laid (o := .lst []) g1.sub hD
  have g3 := g2.lift g1.deal
  exact .inl ⟨(wk 0 _ _ g3).2 rfl, q (.ref D) (.lst []) _ _ (g1.trans g3) (.lst upd_same .nil) f⟩
end

section
variable {X : Cx} {c : Ct} {W : WX} {ss : List Stmt} {es : List Expr} {elt iter tg : Expr} {ifs : List Expr} {scope : Scope} {own : List (Str × Nat)} {pos : Pos} {ti : TI} {mi : MA} {is : List Nat} {tgg : Shared → Hp → Addr → List (Str × Addr) → List Addr → TG} {mg : Shared → Hp → Addr → List (Str × Addr) → List Addr → MG}
  {tt : Shared → Hp → Addr → List (Str × Addr) → List Addr → TT} {mt : Shared → Hp → Addr → List (Str × Addr) → List Addr → MT} {te : Shared → Hp → Addr → List (Str × Addr) → List Addr → TE} {me : Shared → Hp → Addr → List (Str × Addr) → List Addr → ME}
theorem dss_never : DSs X c W ss (fun _ _ _ => False) (fun _ _ => False) := ⟨⟨fun _ _ _ _ _ _ h => h.elim⟩, fun _ _ _ _ _ _ _ _ h _ => h.elim⟩
theorem dts_never : DTs X c W es (fun _ _ _ => False) (fun _ _ _ => False) := ⟨⟨fun _ _ _ _ _ _ h => h.elim⟩, fun _ _ _ _ _ _ _ _ _ h _ _ => h.elim⟩
theorem ds_setLcF (i : Nat) {y : Str} {py spos : Pos} (hc : X.calm = true) (hN : X.N.Nodup) (hy : X.N[i]? = some y) (hyl : X.env.scope.names.lookup y = some .local)
    (hsw : swapsWith (.ListComp elt [⟨tg, iter, ifs, 0⟩] scope pos) (some (.Name y py)) spos.line X.env = pure true) (hi : DIC X c W tg iter ti mi) (ok : BlkOk X.N X.env.scope scope own) (hv : ∀ i ∈ is, i ∈ own.map (·.2))
    (hg : ∀ (s : Shared) (H : Hp) (C : Addr) (cl : List (Str × Addr)) (fp : List Addr), DG (Blk X scope s H C cl fp) tg (tgg s H C cl fp) is (mg s H C cl fp))
    (ht : ∀ (s : Shared) (H : Hp) (C : Addr) (cl : List (Str × Addr)) (fp : List Addr), DTs (Blk X scope s H C cl fp) c W0 ifs (tt s H C cl fp) (mt s H C cl fp))
    (he : ∀ (s : Shared) (H : Hp) (C : Addr) (cl : List (Str × Addr)) (fp : List Addr), DE (Blk X scope s H C cl fp) c W0 elt (te s H C cl fp) (me s H C cl fp))
    (hs : ∀ x, foldedSetIterable iter X.env x = pure x := by intro _; rfl)
    (q1 : ∀ s H C cl fp, tgg s H C cl fp = z5 tgg := by intros; rfl) (q2 : ∀ s H C cl fp, mg s H C cl fp = z5 mg := by intros; rfl) (q3 : ∀ s H C cl fp, tt s H C cl fp = z5 tt := by intros; rfl)
    (q4 : ∀ s H C cl fp, mt s H C cl fp = z5 mt := by intros; rfl) (q5 : ∀ s H C cl fp, te s H C cl fp = z5 te := by intros; rfl) (q6 : ∀ s H C cl fp, me s H C cl fp = z5 me := by intros; rfl) :
    DS X c W (.Assign [.Name y py] (.ListComp elt [⟨tg, iter, ifs, 0⟩] scope pos) spos) (tAsg (tLc ti (z5 tgg) (z5 tt) (z5 te) (own.map (·.2))) (gName i)) (msSet i (mLc mi (z5 mg) (z5 mt) (z5 me) (own.map (·.2)))) :=
  ds_setLc i hc hN hy hyl hsw hi ok hv (fun s H C cl fp => by rw [← q1 s H C cl fp, ← q2 s H C cl fp]; exact hg s H C cl fp) (fun s H C cl fp => by rw [← q3 s H C cl fp, ← q4 s H C cl fp]; exact ht s H C cl fp)
    (fun s H C cl fp => by rw [← q5 s H C cl fp, ← q6 s H C cl fp]; exact he s H C cl fp) hs
end
end DL

set_option Elab.async false
set_option linter.all false
set_option maxRecDepth 100000
set_option maxHeartbeats 4000000
namespace DL
open PySem L2 PySem.Spec PyProof.Rows
/-- a class that others make, with the defaults that fill up -/
structure MkrD (P : Program) (w : World) (K : Fg) (mg : Str → Option Value) (base : Heap) (x : Str) (C : Addr) (k n : Nat) (ff : FI) (dvs : List V) (dd : List D) : Prop where
  ok : ∃ (fI : Addr) (fd : FuncData) (ps : List Str) (ds : List Value), Mk K C fI ∧ FnOk P w K mg base (L2.CX P w) k fI fd ps (spI K n C ff) ∧ mg x = some (.ref C) ∧ Vals dvs ds ∧ Binds K fd ps ds ∧ ∀ G, RepL K G dvs dd
section
variable {X : Cx} {c : Ct} {E : XK} {e : Expr} {es : List Expr} {pos p : Pos} {x : Str} {mr : MA} {tr : TA} {C : Addr} {k n : Nat} {dvs : List V} {dd : List D} {ff : FI}
theorem de_mk (M : Mkr X.prog X.w X.K X.mg X.base x C k n ff) (hr : Room (k + 1) X.A) (hg : Gl X x) (tk : Takes X (WF E)) (ha : DA X c (WF E) (e :: es) tr mr)
    (hdb : (x == ("__debug__" : Str)) = false := by decide) (he : starEach (e :: es) X.env = (false, eval e X.env) :: starEach es X.env := by rfl) (hpl : (backTo pos (starEach es X.env)).any (·.1) = false := by rfl) :
    DE X c (WF E) (.Call (.Name x p) (e :: es) [] pos) (tMake C (spI X.K n C ff) [] (fun cls d H => ∀ σ, WF E cls d σ H) tr) (mMake C ff [] n mr) := by
  obtain ⟨fI, fd, ps, m, F, hm, hb⟩ := M.ok
  exact de_make m F hr hg hm hb .nil (fun _ => .nil) tk (fun _ _ _ _ _ h => h) ha hdb he hpl
theorem de_mkD (M : MkrD X.prog X.w X.K X.mg X.base x C k n ff dvs dd) (hr : Room (k + 1) X.A) (hg : Gl X x) (tk : Takes X (WF E)) (ha : DA X c (WF E) (e :: es) tr mr)
    (hdb : (x == ("__debug__" : Str)) = false := by decide) (he : starEach (e :: es) X.env = (false, eval e X.env) :: starEach es X.env := by rfl) (hpl : (backTo pos (starEach es X.env)).any (·.1) = false := by rfl) :
    DE X c (WF E) (.Call (.Name x p) (e :: es) [] pos) (tMake C (spI X.K n C ff) dvs (fun cls d H => ∀ σ, WF E cls d σ H) tr) (mMake C ff dd n mr) := by
  obtain ⟨fI, fd, ps, ds, m, F, hm, hd, hb, hdd⟩ := M.ok
  exact de_make m F hr hg hm hb hd hdd tk (fun _ _ _ _ _ h => h) ha hdb he hpl
end
end DL

set_option Elab.async false
set_option linter.all false
set_option maxRecDepth 100000
set_option maxHeartbeats 4000000
namespace DL
open PySem L2 PySem.Spec PyProof.Rows
section
variable {X : Cx} {c : Ct} {W : WX} {pos pos' : Pos} {x : Str} {C : Addr}
abbrev ob0 : Obj := { cls := .none, data := .fields #[] }
theorem ds_tryF (i : Nat) {n : Str} {np : Pos} {body suite : List Stmt} {b0 : Stmt} {tb : WX → List (Addr × Obj) → (Value → Shared → Prop) → TS} {ts : Addr → Obj → Option Addr → List (Addr × Obj) → TS} {mb : WX → List (Addr × Obj) → (Value → Shared → Prop) → MS} {ms : Addr → Obj → Option Addr → List (Addr × Obj) → MS} {cv : Value}
    (hs : X.stack = X.env :: X.outer) (hf : X.env.frame = some X.env.locals) (hN : X.N.Nodup) (hi : X.N[i]? = some n) (hln : X.env.kindOf n = some .local) (hc : Names X x cv) (tk : Takes X W)
    (hC : PySem.W.exmOne X.K (.ref C) cv = some true)
    (hb : ∀ (W2 : WX) (pn : List (Addr × Obj)) (xe : Value → Shared → Prop), Takes (X.tr pn xe) W2 → DSs (X.tr pn xe) c W2 body (tb W2 pn xe) (mb W2 pn xe))
    (hsu : ∀ (a : Addr) (oe : Obj) (d : Option Addr) (pn : List (Addr × Obj)), Zc (.ref C) d oe → (∃ vs, oe.data = .fields vs) → DSs (X.suite a ((a, oe) :: pn)) c W0 (b0 :: suite) (ts a oe d pn) (ms a oe d pn))
    (q1 : ∀ W2 pn xe, tb W2 pn xe = tb W2 [] X.xe := by intros; rfl) (q2 : ∀ W2 pn xe, mb W2 pn xe = mb W0 [] X.xe := by intros; rfl)
    (q3 : ∀ a oe d pn, ts a oe d pn = ts a ob0 d [] := by intros; rfl) (q4 : ∀ a oe d pn, ms a oe d pn = ms a ob0 d [] := by intros; rfl) :
    DS X c W (.Try body [.ExceptHandler (some (.Name x np)) (some n) (b0 :: suite) pos'] [] [] pos) (fun Y σ H => tb (wAs X.K cv i (tsOnly C fun a d => ts a ob0 d []) W Y) [] X.xe Y σ H) (msTry X.K i C cv (mb W0 [] X.xe) fun a d => ms a ob0 d []) :=
  ds_try i (pos2 := pos) (tb := fun W2 => tb W2 [] X.xe) (ts := fun a d => ts a ob0 d []) hs hf hN hi hln hc tk hC (fun W2 pn xe t => by rw [← q1 W2 pn xe, ← q2 W2 pn xe]; exact hb W2 pn xe t)
    (fun a oe d pn hz h => by rw [← q3 a oe d pn, ← q4 a oe d pn]; exact hsu a oe d pn hz h)
end
end DL

set_option Elab.async false
set_option linter.all false
set_option maxRecDepth 100000
set_option maxHeartbeats 4000000
namespace DL
open PySem L2 PySem.Spec PyProof.Rows
/-! ### more of integers -/
abbrev gGe : D → D → (D → Prop) → Prop := gI0 fun i j => .bl (decide (j ≤ i))
abbrev gGt : D → D → (D → Prop) → Prop := gI0 fun i j => .bl (decide (j < i))
theorem rd_ge {K : Fg} : RD K (rI0 fun i j => .bl (decide (j ≤ i))) gGe := rd_I0 fun i j G => .bl _
theorem rd_gt {K : Fg} : RD K (rI0 fun i j => .bl (decide (j < i))) gGt := rd_I0 fun i j G => .bl _
abbrev gMod : D → D → (D → Prop) → Prop := gI (fun _ j => 0 < j) fun i j => .int (i % j)
theorem rd_mod {K : Fg} : RD K (rI (fun _ j => 0 < j) fun i j => .int (i % j)) gMod := rd_I fun i j G => .int _
abbrev gPow : D → D → (D → Prop) → Prop := gI CPow fun i j => .int (i ^ j.toNat)
theorem rd_pow {K : Fg} : RD K (rI CPow fun i j => .int (i ^ j.toNat)) gPow := rd_I fun i j G => .int _
/-! ### loops by what stays true -/
theorem forD_inv {mg : MG} {mb : MS} {k : MK} (I : List Sl → Prop) : ∀ (ds : List D) (δ : List Sl), (∀ d ∈ ds, ∀ δ, I δ → ∀ k' : MK, (∀ δ2, I δ2 → k'.nx δ2) → mg d δ fun δ' => mb δ' k') → I δ → (∀ δ, I δ → k.nx δ) → forD mg mb ds δ k
  | [], δ, _, i, h => h δ i
  | d :: ds, δ, st, i, h => by
    refine st d (by simp) δ i _ fun δ2 i2 => ?_
    exact forD_inv I ds δ2 (fun e he => st e (by simp [he])) i2 h
/-! ### own lists -/
theorem flat_rep {K : Fg} {G G' : Hp} {v : V} {d : D} (r : Rep K G v d) (h : flatD d = true) : Rep K G' v d := by
  cases r with
  | non => exact .non
  | bl b => exact .bl b
  | int i => exact .int i
  | str x => exact .str x
  | _ => cases h
theorem notDl_own {c : Ct} {H G : Hp} (cr : Cr c H G) {p : Addr} (h : c.He p = none) : NotDl c.dl p := fun p' l' e => by
  obtain ⟨h1, h2⟩ := cr.he p' l' e
  exact ⟨fun z => h1 (z ▸ h), fun z => h2 (z ▸ h)⟩
/-- known for the time of a call -/
theorem Go.lend {dl : Dl} {H G H' G' : Hp} {p : Addr} {o : HO} (s : Same G H) (d : DlOk dl H G) (hp : H p = some o) (np : G p = none) (b : Go none H (upd G p o) H' G') : Go dl H G H' G where
  keep := fun a u h _ => b.keep a u h .non
  grow := Same.refl _
  sub := fun a u h => b.keep a u (s _ _ h) .non
  new := fun _ _ h => .inl h
  deal := fun p' l' e => by
    obtain ⟨⟨ns, m, h1, h2, h3⟩, g1, g2⟩ := d p' l' e
    exact ⟨⟨ns, m, b.keep _ _ h1 .non, b.keep _ _ h2 .non, h3⟩, g1, g2⟩
def mCallO (j : Nat) (ff : FF) (ma : ME) : ME := fun δ F X => ma δ (fun d => match δ[j]? with
  | some (.own bs) => ff [d, .lst bs] (fun r => flatD r = true ∧ F r) (fun _ => False)
  | _ => False) X
section
variable {X : Cx} {c : Ct} {W : WX} {e a b tg : Expr} {es : List Expr} {pos p : Pos} {x : Str} {k n : Nat} {ff : FF} {ma mb me : ME} {mr : MA} {ta tb te : TE} {tr : TA} {K : Fg}
theorem we_callO {j : Nat} (wa : WE K c W ta ma) : WE K c W (tCallSD (spD K 2 false ff) [] (fun σ cls d H => W cls d σ H) (tCons ta (tCons (tVar j) tNil))) (mCallO j ff ma) := fun H G σ δ F X Q cr rs h q x => by
  refine wa H G σ δ _ _ _ cr rs h (fun v d H1 G1 g1 r1 h1 => ?_) x
  have rs1 := rs.step cr g1
  have cr1 := cr.step g1
  split at h1
  · rename_i bs ej
    obtain ⟨y, q1, p', ys, q2, q3, q4, q5, q6⟩ := rs1.at_ _ _ ej
    subst q2
    refine ⟨_, q1, ?_⟩
    have sm : Same G1 (upd G1 p' (.lst ys)) := fun a u z => by rw [upd_ne (ne_of_none z q4)]; exact z
    have sub : Same (upd G1 p' (.lst ys)) H1 := fun a u z => by
      by_cases e : a = p'
      · subst e
        rw [upd_same] at z
        cases z
        exact q3
      · rw [upd_ne e] at z
        exact g1.sub _ _ z
    refine ⟨upd G1 p' (.lst ys), [d, .lst bs], none, [v, .ref p'], _, _, rfl, ⟨rfl, rfl⟩, sub, .no, .cons (r1.mono sm) (.cons (.lst upd_same (q6.mono sm)) .nil), h1, fun v2 d2 H2 G2 g2 r2 f2 => ?_, fun _ _ _ _ _ _ _ f2 => f2.elim⟩
    exact q v2 d2 H2 G1 (g1.trans (Go.lend g1.sub g1.deal q3 q4 g2)) (flat_rep r2 f2.1) f2.2
  · exact h1.elim
theorem de_fO (j : Nat) {z : Str} {zp : Pos} (C : Fn X.prog X.w X.K X.mg X.base x k 2 false ff) (hr : Room k X.A) (hg : Gl X x) (tk : Takes X W)
    (ha : DE X c W e ta ma) (hz : PE X (.Name z zp) (tVar j)) (hdb : (x == ("__debug__" : Str)) = false := by decide) (he1 : starEach [.Name z zp] X.env = [(false, eval (.Name z zp) X.env)] := by rfl) (he : starEach [e, .Name z zp] X.env = (false, eval e X.env) :: starEach [.Name z zp] X.env := by rfl) (hpl : (backTo pos (starEach [.Name z zp] X.env)).any (·.1) = false := by rfl) :
    DE X c W (.Call (.Name x p) [e, .Name z zp] [] pos) (tCallSD (spD X.K 2 false ff) [] (fun σ cls d H => W cls d σ H) (tCons ta (tCons (tVar j) tNil))) (mCallO j ff ma) := by
  obtain ⟨f, fd, ps, F, hm, hk, hb⟩ := C.ok
  exact ⟨pe_callSD F hr hg hm hk hb .nil (passAt tk) (pa_cons ha.p (pa_cons hz pa_nil he1) he) hdb he hpl, we_callO ha.w⟩
/-- len of an own list -/
def mLenO (j : Nat) : ME := fun δ F _ => match δ[j]? with
  | some (.own bs) => F (.int bs.length)
  | _ => False
abbrev rLenX (K : Fg) : List V → Hp → VK → Prop := fun xs H Q => ∃ x n, xs = [x] ∧ LenV K x H n ∧ Q (.int n) H
theorem de_lenO (j : Nat) {z : Str} {zp : Pos} (hg : Gl X "len") (hm : X.mg "len" = none) (hv : bootBuiltins "len" = some (.builtin "len")) (hz : PE X (.Name z zp) (tVar j)) (he1 : starEach [.Name z zp] X.env = [(false, eval (.Name z zp) X.env)] := by rfl) :
    DE X c W (.Call (.Name "len" p) [.Name z zp] [] pos) (tCB (rLenX X.K) (tCons (tVar j) tNil)) (mLenO j) := by
  refine ⟨pe_callB call_len hg hm hv (pa_cons hz pa_nil he1), fun H G σ δ F Y Q cr rs h q _ => ?_⟩
  unfold mLenO at h
  split at h
  · rename_i bs ej
    obtain ⟨y, q1, p', ys, q2, q3, q4, q5, q6⟩ := rs.at_ _ _ ej
    subst q2
    refine ⟨_, q1, _, ys.length, rfl, Or.inl ⟨_, SqL.of q3, rfl⟩, ?_⟩
    refine q _ _ H G cr.rfl' (.int _) ?_
    rw [q6.length]
    exact h
  · exact h.elim
/-- xs[i] = e, xs an own list -/
theorem Cr.setOwn {H G : Hp} (cr : Cr c H G) {p : Addr} {xs ys : List V} (h1 : H p = some (.lst xs)) (h2 : G p = none) (h3 : c.He p = none) : Cr c (upd H p (.lst ys)) G where
  keep := fun a o z nd m => by rw [upd_ne (ne_of_none z h3)]; exact cr.keep a o z nd m
  grow := cr.grow
  sub := fun a o z => by rw [upd_ne (ne_of_none z h2)]; exact cr.sub a o z
  new := cr.new
  dlok := fun p' l' e => by
    obtain ⟨⟨ns, m, q1, q2, q3⟩, g1, g2⟩ := cr.dlok p' l' e
    obtain ⟨n1, n2⟩ := notDl_own cr h3 p' l' e
    exact ⟨⟨ns, m, by rw [upd_ne (Ne.symm n1)]; exact q1, by rw [upd_ne (Ne.symm n2)]; exact q2, q3⟩, g1, g2⟩
  he := cr.he
  sfo := fun a e => by
    obtain ⟨C, dx, fv, z⟩ := cr.sfo a e
    refine ⟨C, dx, fv, ?_⟩
    rw [upd_ne (fun y => by rw [y, h1] at z; cases z)]
    exact z
theorem RS.setOwn {H G : Hp} {σ : L2.St} {δ : List Sl} (r : RS K c H G σ δ) (cr : Cr c H G) {j : Nat} {p : Addr} {xs ys : List V} {ds es : List D} (hj : δ[j]? = some (.own ds)) (hs : σ[j]? = some (some (.ref p))) (h1 : H p = some (.lst xs)) (h2 : G p = none) (h3 : c.He p = none) (rl : RepL K G ys es) :
    RS K c (upd H p (.lst ys)) G σ (δ.set j (.own es)) where
  len := by rw [List.length_set]; exact r.len
  at_ := fun i t e => by
    by_cases hij : j = i
    · subst hij
      have hl : j < δ.length := (List.getElem?_eq_some_iff.mp hj).1
      rw [List.getElem?_set_self hl] at e
      cases e
      exact ⟨_, hs, p, ys, rfl, upd_same, h2, h3, rl⟩
    · rw [List.getElem?_set_ne hij] at e
      obtain ⟨x, q1, q2⟩ := r.at_ i t e
      refine ⟨x, q1, ?_⟩
      cases t with
      | un => trivial
      | dat d => exact q2
      | own fs =>
        obtain ⟨p', xs', a1, a2, a3, a4, a5⟩ := q2
        subst a1
        have ne : p' ≠ p := fun z => by
          subst z
          exact r.sep j i p' ds fs hij hj e hs q1
        exact ⟨p', xs', rfl, by rw [upd_ne ne]; exact a2, a3, a4, a5⟩
      | odc fs =>
        obtain ⟨p', xs', a1, a2, a3, a4, a5⟩ := q2
        exact ⟨p', xs', a1, by rw [upd_ne (fun z => by rw [z, h1] at a2; cases a2)]; exact a2, a3, a4, a5⟩
      | odl fs =>
        obtain ⟨p', od', xs', a1, a2, a3, a4, a5⟩ := q2
        exact ⟨p', od', xs', a1, by rw [upd_ne (fun z => by rw [z, h1] at a2; cases a2)]; exact a2, a3, a4, a5⟩
      | deal => exact q2
      | exn a C d fs => exact q2
      | self C fs =>
        obtain ⟨a, dx, fv, a1, a2, a3, a4, a5⟩ := q2
        refine ⟨a, dx, fv, a1, a2, ?_, a4, a5⟩
        rw [upd_ne (fun z => by rw [z, h1] at a3; cases a3)]
        exact a3
  sep := fun i k q ds' fs n e1 e2 h => by
    have up : ∀ (i : Nat) (ds' : List D), (δ.set j (.own es))[i]? = some (.own ds') → ∃ ds2, δ[i]? = some (.own ds2) := fun i ds' e => by
      by_cases hij : j = i
      · subst hij
        exact ⟨_, hj⟩
      · rw [List.getElem?_set_ne hij] at e
        exact ⟨_, e⟩
    obtain ⟨_, z1⟩ := up i ds' e1
    obtain ⟨_, z2⟩ := up k fs e2
    exact r.sep i k q _ _ n z1 z2 h
def msSetO (j : Nat) (me mi : ME) : MS := fun δ k => me δ (fun d => match δ[j]? with
  | some (.own ds) => mi δ (fun i => match i with
    | .int i => 0 ≤ i ∧ i < ds.length ∧ k.nx (δ.set j (.own (ds.set i.toNat d)))
    | _ => False) (fun x => k.rs x δ)
  | _ => False) (fun x => k.rs x δ)
theorem ixN_in {n : Nat} {i : Int} (h0 : 0 ≤ i) (h1 : i < n) : ixN n i = some i.toNat := by
  unfold ixN
  split <;> first | rfl | (split <;> first | rfl | omega) | omega
theorem ds_setO (j : Nat) {z : Str} {zp sp : Pos} {ti : TE} {mi : ME} {i : Expr} (hz : PE X (.Name z zp) (tVar j)) (he : DE X c W e te me) (hi : DE X c W i ti mi)
    (hp : PE X (.Name z zp) (tVar j) → PE X i ti → PG X (.Subscript (.Name z zp) i sp) (gSub (tVar j) ti rSetL) := by exact fun a b => pg_sub a b set_list)
    (hs : swapsWithSole [.Subscript (.Name z zp) i sp] e pos.line X.env = pure false := by rfl) (hw : swappedStores [.Subscript (.Name z zp) i sp] e X.env = pure none := by rfl)
    (h1 : (assignEach [.Subscript (.Name z zp) i sp] X.env).map (·.2) = [assign (.Subscript (.Name z zp) i sp) X.env] := by rfl) :
    DS X c W (.Assign [.Subscript (.Name z zp) i sp] e pos) (tAsg te (gSub (tVar j) ti rSetL)) (msSetO j me mi) := by
  refine ⟨ps_asg he.p (hp hz hi.p) hs hw h1, fun H G σ δ k Y cr rs h en => ?_⟩
  refine he.w H G σ δ _ _ _ cr rs h (fun v d H1 G1 g1 r1 h2 => ?_) (en.xw cr rs)
  have cr1 := cr.step g1
  have rs1 := rs.step cr g1
  split at h2
  · rename_i ds ej
    obtain ⟨y, q1, p0, _, q2, _⟩ := rs1.at_ _ _ ej
    subst q2
    refine ⟨_, q1, ?_⟩
    refine hi.w H1 G1 σ δ _ _ _ cr1 rs1 h2 (fun u b H2 G2 g2 r2 h3 => ?_) ((en.mono g1.grow).xw cr1 rs1)
    split at h3
    · rename_i n
      obtain ⟨n0, n1, h3⟩ := h3
      have cr2 := cr1.step g2
      have rs2 := rs1.step cr1 g2
      obtain ⟨y, u1, p', ys, u2, u3, u4, u5, u6⟩ := rs2.at_ _ _ ej
      rw [q1] at u1
      cases u1
      cases u2
      refine ⟨p0, ys, n, n.toNat, rfl, r2.int_of, u3, ixN_in n0 (by rw [u6.length]; exact n1), ?_⟩
      have r1' := r1.mono g2.grow
      exact en.nx _ _ _ G2 (cr2.setOwn u3 u4 u5) (rs2.setOwn cr2 ej q1 u3 u4 u5 (u6.set _ r1')) (g1.grow.trans g2.grow) h3
    · exact h3.elim
  · exact h2.elim
/-- a comprehension that is one's own -/
def moLc (mi : MA) (mg : MG) (mt : MT) (me : ME) (vs : List Nat) : MA := fun δ F X => mi δ (fun ds => ds.length < sizeLine ∧ lcD mg mt me (wipeD δ vs) F ds []) X
theorem wo_lc {wi : TI} {g : TG} {tt : TT} {is vs : List Nat} {mi : MA} {mg : MG} {mt : MT} (hv : ∀ i ∈ is, i ∈ vs) (ww : WIC K c W wi mi) (wg : WG K g is mg) (wt : WT K c W0 tt mt) (we : WE K c W0 te me) :
    WO K c W (tLc wi g tt te vs) (moLc mi mg mt me vs) := fun H G σ δ F X Q cr rs h q x => by
  refine ww H G σ δ _ X _ cr rs h (fun J ds H1 G1 g1 wk f => ?_) x
  obtain ⟨hz, f⟩ := f
  have cr1 := cr.step g1
  have rs1 := (rs.step cr g1).wipe vs
  intro D hD
  have nD : G1 D = none := by
    cases z : G1 D with
    | none => rfl
    | some o =>
      rw [g1.sub _ _ z] at hD
      cases hD
  refine ⟨fun i n H' => n = ds.length - i ∧ i ≤ ds.length ∧ ∃ G' acc rr, Go c.dl H1 G1 H' G' ∧ H' D = some (.lst acc) ∧ G' D = none ∧ RepL K G' acc rr ∧ acc.length ≤ i ∧ lcD mg mt me (wipeD δ vs) F (ds.drop i) rr,
    ⟨ds.length, by simp, Nat.zero_le _, G1, [], [], (Go.mine cr1.sub hD).lift cr1.dlok, upd_same, nD, .nil, Nat.le_refl _, f⟩, ?_⟩
  rintro i n H2 ⟨rfl, hi, G2, acc, rr, g2, hA, nG, ra, hl, f2⟩
  obtain ⟨w1, w2⟩ := wk i H2 G2 g2
  by_cases hlt : i < ds.length
  · right
    have hd : ds[i]? = some ds[i] := List.getElem?_eq_getElem hlt
    obtain ⟨go, y⟩ := w1 _ hd
    rw [List.drop_eq_getElem_cons hlt] at f2
    refine ⟨go, fun H' => ∃ G' acc rr, Go c.dl H1 G1 H' G' ∧ H' D = some (.lst acc) ∧ G' D = none ∧ RepL K G' acc rr ∧ acc.length ≤ i + 1 ∧ lcD mg mt me (wipeD δ vs) F (ds.drop (i + 1)) rr,
      fun H' z => ⟨ds.length - (i + 1), by omega, rfl, hlt, z⟩, fun v H3 hy => ?_⟩
    obtain ⟨G3, g3, r3⟩ := y v H3 hy
    have cr2 : Cr c H2 G2 := cr1.step g2
    have rs2 := rs1.step cr1 g2
    have g3' := g3.lift cr2.dlok
    have step : ∀ {H4 G4 : Hp}, Go c.dl H2 G2 H4 G4 → H4 D = some (.lst acc) ∧ G4 D = none := fun {H4 G4} g4 => by
      refine ⟨g4.keep _ _ hA fun p l e => ?_, ?_⟩
      · obtain ⟨⟨_, _, q1, q2, _⟩, _⟩ := cr1.dlok p l e
        exact ⟨fun z => (by rw [z, q1] at hD; cases hD), fun z => (by rw [z, q2] at hD; cases hD)⟩
      · cases z : G4 D with
        | none => rfl
        | some o => rcases g4.new _ _ z with y | y
                    · rw [nG] at y; cases y
                    · rw [hA] at y; cases y
    refine wg c H3 G3 (L2.wipe σ vs) (wipeD δ vs) v _ _ _ g3.sub (rs2.step cr2 g3') r3 f2 fun σ4 δ4 rs4 z4 f4 => ⟨?_, ?_⟩
    · rw [z4 vs hv]
      exact wipe_wipe σ vs vs fun _ h => h
    refine wt H3 G3 σ4 δ4 _ _ _ (cr2.step g3') rs4 f4 (fun b H5 G5 g5 f5 => ?_) XW.no
    have g5' := g3'.trans g5
    cases b with
    | true =>
      show te σ4 H5 _
      refine we H5 G5 σ4 δ4 _ _ _ ((cr2.step g3').step g5) (rs4.step (cr2.step g3') g5) f5 (fun u d H6 G6 g6 r6 f6 => ?_) XW.no
      have g6' := g5'.trans g6
      obtain ⟨h6, n6⟩ := step g6'
      refine ⟨acc, h6, Nat.lt_of_le_of_lt hl (Nat.lt_trans hlt hz), G6, acc ++ [u], rr ++ [d], (g2.trans g6').mut cr1.dlok hD n6, upd_same, n6, (ra.mono g6'.grow).append (.cons r6 .nil), ?_, f6⟩
      rw [List.length_append, List.length_singleton]
      omega
    | false =>
      show (if false = true then _ else _)
      refine iteF ?_
      obtain ⟨h6, n6⟩ := step g5'
      exact ⟨G5, acc, rr, g2.trans g5', h6, n6, ra.mono g5'.grow, by omega, f5⟩
  · left
    have he : i = ds.length := by omega
    refine ⟨w2 he, ?_⟩
    rw [he, List.drop_length] at f2
    exact q D acc rr H2 G2 (g1.trans g2) hA nG (g1.back cr.dlok hD) ra f2
end
section
variable {X : Cx} {c : Ct} {W : WX} {elt iter tg : Expr} {ifs : List Expr} {scope : Scope} {own : List (Str × Nat)} {pos : Pos} {ti : TI} {mi : MA} {is : List Nat} {tgg : Shared → Hp → Addr → List (Str × Addr) → List Addr → TG} {mg : Shared → Hp → Addr → List (Str × Addr) → List Addr → MG}
  {tt : Shared → Hp → Addr → List (Str × Addr) → List Addr → TT} {mt : Shared → Hp → Addr → List (Str × Addr) → List Addr → MT} {te : Shared → Hp → Addr → List (Str × Addr) → List Addr → TE} {me : Shared → Hp → Addr → List (Str × Addr) → List Addr → ME}
theorem ds_ownLcF (i : Nat) {y : Str} {py spos : Pos} (hc : X.calm = true) (hN : X.N.Nodup) (hy : X.N[i]? = some y) (hyl : X.env.scope.names.lookup y = some .local)
    (hsw : swapsWith (.ListComp elt [⟨tg, iter, ifs, 0⟩] scope pos) (some (.Name y py)) spos.line X.env = pure true) (hi : DIC X c W tg iter ti mi) (ok : BlkOk X.N X.env.scope scope own) (hv : ∀ i ∈ is, i ∈ own.map (·.2))
    (hg : ∀ (s : Shared) (H : Hp) (C : Addr) (cl : List (Str × Addr)) (fp : List Addr), DG (Blk X scope s H C cl fp) tg (tgg s H C cl fp) is (mg s H C cl fp))
    (ht : ∀ (s : Shared) (H : Hp) (C : Addr) (cl : List (Str × Addr)) (fp : List Addr), DTs (Blk X scope s H C cl fp) c W0 ifs (tt s H C cl fp) (mt s H C cl fp))
    (he : ∀ (s : Shared) (H : Hp) (C : Addr) (cl : List (Str × Addr)) (fp : List Addr), DE (Blk X scope s H C cl fp) c W0 elt (te s H C cl fp) (me s H C cl fp))
    (hs : ∀ x, foldedSetIterable iter X.env x = pure x := by intro _; rfl)
    (q1 : ∀ s H C cl fp, tgg s H C cl fp = z5 tgg := by intros; rfl) (q2 : ∀ s H C cl fp, mg s H C cl fp = z5 mg := by intros; rfl) (q3 : ∀ s H C cl fp, tt s H C cl fp = z5 tt := by intros; rfl)
    (q4 : ∀ s H C cl fp, mt s H C cl fp = z5 mt := by intros; rfl) (q5 : ∀ s H C cl fp, te s H C cl fp = z5 te := by intros; rfl) (q6 : ∀ s H C cl fp, me s H C cl fp = z5 me := by intros; rfl) :
    DS X c W (.Assign [.Name y py] (.ListComp elt [⟨tg, iter, ifs, 0⟩] scope pos) spos) (tAsg (tLc ti (z5 tgg) (z5 tt) (z5 te) (own.map (·.2))) (gName i)) (msOwn i (moLc mi (z5 mg) (z5 mt) (z5 me) (own.map (·.2)))) :=
  ⟨ps_setLc hc hN hy hyl hsw hi.p ok (fun s H C cl fp => by rw [← q1 s H C cl fp]; exact (hg s H C cl fp).p) (fun s H C cl fp => by rw [← q3 s H C cl fp]; exact (ht s H C cl fp).p) (fun s H C cl fp => by rw [← q5 s H C cl fp]; exact (he s H C cl fp).p) hs,
    ws_own (wo_lc hv hi.w (hg {} (fun _ => none) 0 [] []).w (ht {} (fun _ => none) 0 [] []).w (he {} (fun _ => none) 0 [] []).w)⟩
end
/-! ### zip of a known list and an own one -/
section
variable {X : Cx} {c : Ct} {W : WX} {pos p tpos : Pos} {elts : List Expr} {kk : Nat} {K : Fg}
def miZipO (i j : Nat) : MA := fun δ F _ => match δ[i]?, δ[j]? with
  | some (.dat (.lst as)), some (.own bs) => F (List.zipWith (fun a b => D.tup [a, b]) as bs)
  | _, _ => False
theorem walk_zipO {dl : Dl} {H0 G0 : Hp} {a b : Addr} {xs ys : List V} {as bs : List D} (ha : G0 a = some (.lst xs)) (ra : RepL K G0 xs as) (hb : H0 b = some (.lst ys)) (nb : NotDl dl b) (rb : RepL K G0 ys bs) :
    IsWalkC K dl H0 G0 (Itz K a b) (List.zipWith (fun a b => D.tup [a, b]) as bs) := fun i H G g => by
  have hA : SqL K H a xs := SqL.of (g.sub _ _ (g.grow _ _ ha))
  have hB : SqL K H b ys := SqL.of (g.keep _ _ hb nb)
  refine ⟨fun d e => ?_, fun e => ?_⟩
  · obtain ⟨u, z, e1, e2, e3⟩ : ∃ u z, as[i]? = some u ∧ bs[i]? = some z ∧ d = D.tup [u, z] := by
      rw [List.getElem?_zipWith] at e
      cases e1 : as[i]? with
      | none => rw [e1] at e; cases e
      | some u =>
        cases e2 : bs[i]? with
        | none => rw [e1, e2] at e; cases e
        | some z =>
          rw [e1, e2] at e
          cases e
          exact ⟨u, z, rfl, rfl, rfl⟩
    obtain ⟨x, f1, r1⟩ := ra.get e1
    obtain ⟨y, f2, r2⟩ := rb.get e2
    refine ⟨⟨xs, ys, x, y, hA, hB, f1, f2⟩, fun v H' ⟨T, x', y', h1, h2, h3, h4, h5⟩ => ?_⟩
    subst h1 h3 e3
    have h4 := h4 _ hA
    have h5 := h5 _ hB
    rw [f1] at h4
    rw [f2] at h5
    cases h4
    cases h5
    have gl := Go.laid (o := .tup [x, y]) g.sub h2
    exact ⟨_, gl, .tup (SqT.of upd_same) (.cons ((r1.mono g.grow).mono gl.grow) (.cons ((r2.mono g.grow).mono gl.grow) .nil))⟩
  · rw [List.length_zipWith] at e
    refine ⟨xs, ys, hA, hB, ?_⟩
    rw [ra.length, rb.length]
    omega
theorem di_zipO (i j : Nat) {x y : Str} {xp yp : Pos} (hg : Gl X "zip") (hm : X.mg "zip" = none) (hx : PE X (.Name x xp) (tVar i)) (hy : PE X (.Name y yp) (tVar j)) (he1 : starEach [.Name y yp] X.env = [(false, eval (.Name y yp) X.env)] := by rfl)
    (he : starEach [.Name x xp, .Name y yp] X.env = (false, eval (.Name x xp) X.env) :: starEach [.Name y yp] X.env := by rfl) (hpl : (backTo pos (starEach [.Name y yp] X.env)).any (·.1) = false := by rfl) :
    DIC X c W (.Tuple elts kk tpos) (.Call (.Name "zip" p) [.Name x xp, .Name y yp] [] pos) (iZip X.K (tCons (tVar i) (tCons (tVar j) tNil))) (miZipO i j) := by
  refine ⟨pi_zip hg hm (pa_cons hx (pa_cons hy pa_nil he1) he) he hpl, fun H G σ δ F Y R cr rs h q _ => ?_⟩
  unfold miZipO at h
  split at h
  · rename_i as bs e1 e2
    obtain ⟨v, q1, u, q2, q3⟩ := rs.at_ _ _ e1
    subst q2
    obtain ⟨a, xs, q4, q5, q6⟩ := q3.lst_of
    subst q4
    obtain ⟨v, u1, p', ys, u2, u3, u4, u5, u6⟩ := rs.at_ _ _ e2
    subst u2
    refine ⟨_, q1, _, u1, a, p', xs, ys, rfl, SqL.of (cr.sub _ _ q5), SqL.of u3, ?_⟩
    exact q _ _ H G cr.rfl' (walk_zipO q5 q6 u3 (notDl_own cr u5) u6) h
  · exact h.elim
end
end DL

set_option Elab.async false
set_option linter.all false
set_option maxRecDepth 100000
set_option maxHeartbeats 4000000
namespace DL
open PySem L2 PySem.Spec PyProof.Rows
/-! ### a law: its first statement lays the deal -/
structure DSw (X : Cx) (c : Ct) (W : WX) (ss : List Stmt) (t1 t2 : TS) (m1 m2 : MS) : Prop where
  p : PSs X ss (tSeq t1 t2)
  w1 : WS X.K c W t1 m1
  w2 : ∀ c1 : Ct, WS X.K c1 W t2 m2
theorem dsw {X : Cx} {c : Ct} {W : WX} {st : Stmt} {rest : List Stmt} {t1 t2 : TS} {m1 m2 : MS} (h1 : DS X c W st t1 m1) (h2 : ∀ c1 : Ct, DSs X c1 W rest t2 m2) : DSw X c W (st :: rest) t1 t2 m1 m2 :=
  ⟨pss_cons h1.p (h2 c).p, h1.w, fun c1 => (h2 c1).w⟩
theorem reps_ints {K : Fg} {G : Hp} : ∀ ns : List Int, RepL K G (ns.map V.int) (ns.map D.int)
  | [] => .nil
  | n :: ns => .cons (.int n) (reps_ints ns)
theorem ints_reps {K : Fg} {G : Hp} : ∀ {ns : List Int} {vs : List V}, RepL K G vs (ns.map D.int) → vs = ns.map V.int
  | [], _, .nil => rfl
  | n :: ns, _, .cons a r => by rw [a.int_of, ints_reps r]; rfl
def spLawD (K : Fg) : Sp := fun vs H Q _ => ∃ (a : Addr) (ns : List Int), vs = [.ref a] ∧ ns.length ≤ 63 ∧ SqL K H a (ns.map V.int) ∧ ∀ H', Q (.bl true) H'
def dealt (n : Nat) : List Sl → Prop := fun δ => δ.length = n ∧ ∃ (ms : List Int) (m : Int), ms.length ≤ 1000 ∧ (∀ n ∈ ms, 0 ≤ n) ∧ 0 ≤ m ∧ m < 2147483647 ∧ δ[1]? = some (.dat (.lst [.lst (ms.map D.int), .int m]))
section
variable {P : Program} {w : World} {K : Fg} {mg : Str → Option Value} {base : Heap} {x qual : Str} {params : Arguments} {body : List Stmt} {scope : Scope} {dvs : List V} {kws : List (Str × V)} {f : Addr} {fd : FuncData} {N : List Str} {x0 : Str} {k : Nat}
theorem fn_law (F : FunD K x qual params body scope dvs kws f fd) (S : FnScope N [x0] scope) (hN : 2 ≤ N.length)
    (hb : ∀ (cdv : Value) (A : Around) (outer : List Env) (s : Shared) (H : Hp) (E : XK), Room k (A.deeper (PyProof.Rows.envOfC qual scope s.heap.objs.size f cdv)) → ∃ t1 t2 m1 m2, (∀ c, DSw (cxOf (L2.CX P w) P w K mg base N qual scope f cdv A outer s H E) c (WF E) body t1 t2 m1 m2) ∧
      (∀ ns : List Int, ns.length ≤ 63 → m1 (start0 false [.scr (ns.map D.int)] (N.length - 1)) { nx := dealt N.length, rt := fun _ => False }) ∧
      m2 (.un :: .deal :: List.replicate (N.length - 2) .un) { nx := fun _ => False, rt := fun d => d = .bl true }) : FnOk P w K mg base (L2.CX P w) (k + 1) f fd [x0] (spLawD K) := by
  refine F.ok S (fun vs H Q E h => ?_) (fun cdv A outer s H vs Q E hr h => ?_)
  · obtain ⟨a, ns, rfl, _⟩ := h
    rfl
  obtain ⟨a, ns, rfl, hl, hS, hq⟩ := h
  obtain ⟨t1, t2, m1, m2, hd, hm1, hm2⟩ := hb cdv A outer s H E hr
  have d0 := hd ⟨none, none, H, H⟩
  refine ⟨_, d0.p, ?_⟩
  have cr : Cr ⟨none, none, H, H⟩ H H := ⟨fun _ _ q _ _ => q, Same.refl _, Same.refl _, fun _ _ q => .inl q, .no, (fun _ _ e => nomatch e), fun _ e => nomatch e⟩
  have rs := rs_start (N := N) (wd := false) (dl := none) (n := 1) (ds := [D.scr (ns.map D.int)]) (vs := [V.ref a]) (vs' := [V.ref a]) (K := K) (H := H) (G := H) rfl ⟨rfl, rfl⟩ (.cons (.scr hS (reps_ints ns)) .nil) (by show 1 ≤ N.length; omega)
  refine d0.w1 H H _ _ _ _ cr rs (hm1 ns hl) ⟨fun σ δ H' G' a1 b1 z q => ?_, fun _ _ _ _ _ _ _ q => q.elim, fun _ _ _ _ _ _ _ q => q.elim, fun _ _ _ _ _ _ _ q => q.elim, fun _ _ _ _ _ _ _ _ _ _ _ q => q.elim⟩
  obtain ⟨hlen, ms, m, l1, l2, l3, l4, e1⟩ := q
  obtain ⟨v, q1, v', q2, q3⟩ := b1.at_ _ _ e1
  subst q2
  obtain ⟨p, xs, rfl, g1, r1⟩ := q3.lst_of
  obtain ⟨v1, v2, rfl, r2, r3⟩ := r1.two
  obtain ⟨l, ys, rfl, g2, r4⟩ := r2.lst_of
  have e3 := r3.int_of
  subst e3
  have e4 := ints_reps r4
  subst e4
  have hD : DealAt H' p l := ⟨ms, m, a1.sub _ _ g1, a1.sub _ _ g2, l1, l3, l4, l2⟩
  have hp : H' p ≠ none := fun z => (by rw [a1.sub _ _ g1] at z; cases z)
  have hl' : H' l ≠ none := fun z => (by rw [a1.sub _ _ g2] at z; cases z)
  have cr1 : Cr ⟨some (p, l), none, H', fun _ => none⟩ H' (fun _ => none) :=
    ⟨fun _ _ q _ _ => q, Same.refl _, (fun _ _ q => nomatch q), (fun _ _ q => nomatch q), fun p' l' e => (by cases e; exact ⟨hD, rfl, rfl⟩), fun p' l' e => (by cases e; exact ⟨hp, hl'⟩), fun _ e => nomatch e⟩
  have ls : σ.length = N.length := by rw [b1.len]; exact hlen
  have at0 : ∀ i : Nat, i < N.length → (Sl.un :: Sl.deal :: List.replicate (N.length - 2) Sl.un)[i]? = some (if i = 1 then .deal else .un) := fun i hi => by
    match i with
    | 0 => rfl
    | 1 => rfl
    | i + 2 =>
      show (List.replicate (N.length - 2) Sl.un)[i]? = _
      rw [List.getElem?_replicate, if_pos (by omega), if_neg (by omega)]
  have len0 : (Sl.un :: Sl.deal :: List.replicate (N.length - 2) Sl.un).length = N.length := by
    rw [List.length_cons, List.length_cons, List.length_replicate]
    omega
  have rs1 : RS K ⟨some (p, l), none, H', fun _ => none⟩ H' (fun _ => none) σ (Sl.un :: Sl.deal :: List.replicate (N.length - 2) Sl.un) := by
    refine ⟨ls.trans len0.symm, fun i t e => ?_, fun i j q ds es n h1 h2 h3 => ?_⟩
    · have hi : i < N.length := by
        have := (List.getElem?_eq_some_iff.mp e).1
        rwa [len0] at this
      rw [at0 i hi] at e
      by_cases h1 : i = 1
      · subst h1
        rw [if_pos rfl] at e
        cases e
        exact ⟨_, q1, p, l, rfl, rfl⟩
      · rw [if_neg h1] at e
        cases e
        exact ⟨_, List.getElem?_eq_getElem (by rw [ls]; exact hi), trivial⟩
    · have hi : i < N.length := by
        have := (List.getElem?_eq_some_iff.mp h1).1
        rwa [len0] at this
      rw [at0 i hi] at h1
      split at h1 <;> cases h1
  exact d0.w2 _ H' _ σ _ _ _ cr1 rs1 hm2 ⟨fun _ _ _ _ _ _ _ q => q.elim, fun v d H2 G2 a2 b2 z q => by
      have q : d = .bl true := q
      subst q
      rw [b2.bl_of]
      exact hq H2, fun _ _ _ _ _ _ _ q => q.elim, fun _ _ _ _ _ _ _ q => q.elim, fun _ _ _ _ _ _ _ _ _ _ _ q => q.elim⟩
end
/-! ### comprehensions whose elements are some of several -/
def All2 {α β : Type} (R : α → β → Prop) : List α → List β → Prop
  | [], [] => True
  | a :: as, b :: bs => R a b ∧ All2 R as bs
  | _, _ => False
theorem lcD_any {mg : MG} {me : ME} {δ : List Sl} {R : D → D → Prop} {F : List D → Prop} : ∀ (ds acc : List D),
    (∀ d ∈ ds, ∀ F' : D → Prop, (∀ e, R d e → F' e) → mg d δ fun δ1 => me δ1 F' (fun _ => False)) →
    (∀ es, All2 R ds es → F (acc ++ es)) → lcD mg (fun _ F _ => F true) me δ F ds acc
  | [], acc, _, h => by
    have := h [] trivial
    rw [List.append_nil] at this
    exact this
  | d :: ds, acc, hs, h => by
    show mg d δ fun δ1 => (if true = true then me δ1 (fun r => lcD mg (fun _ F _ => F true) me δ F ds (acc ++ [r])) (fun _ => False) else _)
    refine hs d (by simp) (fun r => lcD mg (fun _ F _ => F true) me δ F ds (acc ++ [r])) fun e he => ?_
    refine lcD_any ds _ (fun d' m => hs d' (List.mem_cons_of_mem _ m)) fun es h2 => ?_
    rw [List.append_assoc]
    exact h _ ⟨he, h2⟩
end DL

set_option Elab.async false
set_option linter.all false
set_option maxRecDepth 100000
set_option maxHeartbeats 4000000
namespace DL
open PySem L2 PySem.Spec PyProof.Rows HandSHeadRun
/-! ### what the module's names reach, each address looked at once -/
def addF {α : Type} (k : Nat → List Addr → α) : List Addr → Nat → List Addr → α
  | [], m, acc => k m acc
  | a :: as, m, acc => frNat a fun a => match Nat.beq (Nat.land (Nat.shiftRight m a) 1) 1 with
    | true => addF k as m acc
    | false => frNat (Nat.lor m (Nat.shiftLeft 1 a)) fun m => addF k as m (a :: acc)
def growF (g : Addr → Option Obj) : Nat → Nat → List Addr → List Addr → List Addr
  | 0, _, all, _ => all
  | n + 1, m, all, fr => addF (fun m new => growF g n m (new ++ all) new) (fr.flatMap fun a => match g a with
    | some o => He.refsD o
    | none => []) m []
def asF (g : Addr → Option Obj) (n : Nat) : List Addr := growF g n (Nat.shiftLeft 1 mainGlobals) [mainGlobals] [mainGlobals]
abbrev AlF : Type := He.AlD × Bool
def obsF (n : Nat) (fa : List He.Fa) (fn : List He.DefD) (ex : Fg → Bool) (g : Addr → Option Obj) : AlF := (He.obsD fa fn (He.frG g (asF g n)), ex (He.frG g (asF g n)))
def hookF (n : Nat) (fa : List He.Fa) (fn : List He.DefD) (ex : Fg → Bool) : PySem.W.Hook where
  α := AlF
  obs := fun s => obsF n fa fn ex s.heap.get?
  val := fun _ => (He.valD fn, true)
  says := fun _ h => ∃ K : Fg, K.In h ∧ He.SaysD fa fn K ∧ ex K = true
  of := fun _ _ e => ⟨_, He.frG_in, congrArg (fun z : AlF => z.1) e, congrArg (fun z : AlF => z.2) e⟩
  keeps := fun _ _ _ ⟨K, hK, c⟩ k => ⟨K, PySem.W.Frag.In.keeps hK k, c⟩
theorem obsF_eq {n : Nat} {fa : List He.Fa} {fn : List He.DefD} {ex : Fg → Bool} {g : Addr → Option Obj} {s : Shared} (h : ∀ a, g a = s.heap.get? a) : obsF n fa fn ex g = (hookF n fa fn ex).obs s := by
  have e : g = s.heap.get? := funext h
  rw [e] <;> rfl
end DL

set_option Elab.async false
set_option linter.all false
set_option maxRecDepth 100000
set_option maxHeartbeats 4000000
namespace DL
open PySem L2 PySem.Spec PyProof.Rows
theorem spD_mono {K : Fg} {n : Nat} {wd : Bool} {ff : FF} {vs : List V} {H : Hp} {Q Q' : VK} {E : XK} (h : spD K n wd ff vs H Q E) (q : ∀ v H', Q v H' → Q' v H') : spD K n wd ff vs H Q' E := by
  obtain ⟨G, ds, dl, vs', F, X, h1, h2, h3, h4, h5, h6, h7, h8⟩ := h
  exact ⟨G, ds, dl, vs', F, X, h1, h2, h3, h4, h5, h6, fun v d H' G' g r f => q _ _ (h7 v d H' G' g r f), h8⟩
/-! ### what a class answers itself: str(x), x == y, x != y -/
section
variable {X : Cx} {pins : List (Addr × Obj)} {σ : L2.St} {H : Hp} {s : Shared} {A : Around} {E : Value → Shared → Prop} {k : Nat} {f : Addr} {fd : FuncData} {ps : List Str} {sp : Sp}
theorem run_at {us : List Value} {vs : List V} {Q : VK} (F : FnOk X.prog X.w X.K X.mg X.base (L2.CX X.prog X.w) k f fd ps sp) (hr : Room k A) (fr : A.frames = X.A.frames) (hb : Binds X.K fd ps []) (I : Inv X pins σ H s) (r : Vals vs us)
    (h : sp vs H Q (fun _ _ _ => False)) : wpAny (model X.prog X.w) A (call (.ref f) us) (EP X pins σ Q) E s := by
  have e0 : Env0 X.prog X.w X.K X.mg X.base A X.stack s H := by
    have e := I.env0
    exact ⟨by rw [fr]; exact e.frames, e.mod, e.bs, e.bsz, e.funs, e.frf, e.hok, e.bare⟩
  have hl : (us ++ []).length = ps.length := by rw [List.append_nil, ← r.length]; exact F.len _ _ _ _ h
  refine wpAny_call (codeAny_mono (F.run A X.stack s H ⟨us, []⟩ us vs Q _ hr e0 (by have := hb s us I.kIn hl; simpa using this) r h) fun q s' hq => ?_)
  cases q with
  | error e =>
    obtain ⟨_, _, _, _, _, _, _, _, _, _, _, _, z⟩ := hq
    exact z.elim
  | ok fl =>
    cases fl with
    | ret u => exact I.after hq
    | next => exact False.elim hq
    | brk => exact False.elim hq
    | cont => exact False.elim hq
theorem strOf_own {a C dx : Addr} {fs : List (Str × V)} {Q : VK} (F : FnOk X.prog X.w X.K X.mg X.base (L2.CX X.prog X.w) k f fd ps sp) (hr : Room k A) (fr : A.frames = X.A.frames) (hb : Binds X.K fd ps []) (I : Inv X pins σ H s) (ha : H a = some (.ins C dx fs))
    (hs : PySem.W.findIn X.K (.ref C) "__str__" = some (some (.ref f))) (tf : PySem.W.typeIn X.K (.ref f) = some (.type "function")) (h : sp [.ref a] H (fun v H' => (∃ y, v = .str y) ∧ Q v H') (fun _ _ _ => False)) :
    wpAny (model X.prog X.w) A (Builtin.Str.strOf (.ref a)) (EP X pins σ Q) E s := by
  obtain ⟨mA, J, _⟩ := ins_get I.hok ha
  obtain ⟨od, J, _⟩ := J.look
  unfold Builtin.Str.strOf
  rw [show Builtin.Str.isExactStr (.ref a) = false from rfl]
  simp only [Bool.false_eq_true, if_false, pure_bind]
  refine wpAny_bind (wpAny_cRoomFor hr.units0 ?_)
  refine wpAny_bind ?_
  unfold callSpecial? specialOf
  refine wpAny_bind (wpAny_bind (J.type.here ((PySem.W.looks_findIn I.kIn hs).here ?_)))
  refine wpAny_holding (wpAny_bind ((PySem.W.bind_fn I.kIn (.ref a) tf).here ?_))
  refine wpAny_bind (wpAny_mono (run_at (E := E) F hr fr hb I (vs := [.ref a]) (us := [.ref a]) (.cons rfl .nil) h) (fun v s' hq => ?_) fun _ _ z => z)
  obtain ⟨y, H', I', r, ⟨z, rfl⟩, q⟩ := hq
  obtain ⟨t, rfl⟩ := (show ∃ t, v = Value.str z t from r)
  refine wpAny_pure ?_
  exact wpAny_bind (wpAny_pure (wpAny_pure ⟨.str z, H', I', ⟨t, rfl⟩, q⟩))
theorem str_new_in {v : Value} : MeetsIn X.prog X.w (Builtin.«str.__new__» ⟨[.type "str", v], []⟩) (fun A' R s' => wpAny (model X.prog X.w) A'.in1 (Builtin.Str.strOf v) (fun r s2 => R (.ok (.ret r)) s2) (fun e s2 => R (.error e) s2) s') := by
  refine MeetsIn.of_wp fun A' R s' h => ?_
  rw [str_new_tree v]
  refine wpAny_bind (wpAny_pure (wpAny_bind (wpAny_of_eq isSubtype_str_str ?_)))
  exact wpAny_bind (wpAny_mono h (fun r s2 h2 => wpAny_pure ⟨_, rfl, h2⟩) fun _ _ e => e)
/-- the contract of a method that a class's instances answer by -/
structure Own1 (P : Program) (w : World) (K : Fg) (mg : Str → Option Value) (base : Heap) (C : Addr) (m : Str) (k n : Nat) (ff : FF) : Prop where
  ok : ∃ (f : Addr) (fd : FuncData) (ps : List Str), PySem.W.findIn K (.ref C) m = some (some (.ref f)) ∧ PySem.W.typeIn K (.ref f) = some (.type "function") ∧ Binds K fd ps [] ∧ FnOk P w K mg base (L2.CX P w) k f fd ps (spD K n false ff)
def rStrO (X : Cx) (k : Nat) : List V → Hp → VK → Prop := fun xs H Q => ∃ (a C dx : Addr) (fs : List (Str × V)) (ff : FF), xs = [.ref a] ∧ H a = some (.ins C dx fs) ∧ Own1 X.prog X.w X.K X.mg X.base C "__str__" k 1 ff ∧ spD X.K 1 false ff [.ref a] H (fun v H' => (∃ y, v = .str y) ∧ Q v H') (fun _ _ _ => False)
/-- str(x), x an instance whose class has a __str__ -/
theorem call_strO {k : Nat} (hr : Room (k + 2) X.A) : CallR X (.type "str") (rStrO X k) := by
  intro pins s σ H xs us Q I r h
  obtain ⟨a, C, dx, fs, ff, rfl, ha, ⟨f, fd, ps, hs, tf, hb, FO⟩, h⟩ := h
  obtain ⟨u, rfl, r1⟩ := vals1 r
  cases r1
  refine callType_newIn PySem.F.called_str (by decide) (PySem.F.typeCall_str_1 _) (PySem.F.newCall_str_1 _) (fun obj => PySem.F.args_object_init_2 obj _) PySem.F.entry_str_new str_new_in ?_
  refine wpAny_mono (strOf_own (E := X.xe) (A := X.A.in1.in1) FO hr.in1.in1 rfl hb I ha hs tf (Q := fun v H' => (∃ y, v = .str y) ∧ Q v H') ?_) (fun v s' hq => ?_) fun _ _ z => z
  · exact spD_mono h fun v H' q => ⟨q.1, q⟩
  · obtain ⟨y, H', I', rv, ⟨z, rfl⟩, q⟩ := hq
    obtain ⟨t, rfl⟩ := (show ∃ t, v = Value.str z t from rv)
    exact ⟨typeIs_str _ _ _, .str z, H', I', ⟨t, rfl⟩, q⟩
/-! types of values, by looking -/
def tyD : D → Value
  | .non => .type "NoneType"
  | .bl _ => .type "bool"
  | .int _ => .type "int"
  | .str _ => .type "str"
  | .lst _ => .type "list"
  | .tup _ => .type "tuple"
  | .obj C _ => .ref C
  | _ => .none
def knownD : D → Bool
  | .fx _ => false
  | .scr _ => false
  | .ext _ _ => false
  | _ => true
theorem lk_ty {G : Hp} {v : V} {u : Value} {d : D} (I : Inv X pins σ H s) (sm : Same G H) (r : Rep X.K G v d) (ru : L2.RelV v u) (hk : knownD d = true) : PySem.W.Looks (model X.prog X.w) s.heap (typeOf u) (tyD d) := by
  cases r with
  | non => cases (show u = Value.none from ru); exact .of_pure rfl
  | bl b => cases (show u = Value.bool b from ru); exact .of_pure rfl
  | int i => obtain ⟨t, rfl⟩ := (show ∃ t, u = Value.int i t from ru); exact .of_pure rfl
  | str x => obtain ⟨t, rfl⟩ := (show ∃ t, u = Value.str x t from ru); exact .of_pure rfl
  | @lst a xs ds h r =>
    cases (show u = Value.ref a from ru)
    obtain ⟨its, n, _, e, _⟩ := I.lst (sm _ _ h)
    exact (PySem.W.Looks.ld e).andThen .now
  | @tup a xs ds h r =>
    cases (show u = Value.ref a from ru)
    obtain ⟨its, _, ⟨o, e, c, _⟩, _⟩ := I.tuple (same_t sm h)
    show PySem.W.Looks (model X.prog X.w) s.heap (typeOf (.ref a)) (Value.type "tuple")
    rw [← c]
    exact (PySem.W.Looks.ld e).andThen .now
  | @obj a C dx fs ds h r =>
    cases (show u = Value.ref a from ru)
    obtain ⟨mA, J, _⟩ := ins_get I.hok (sm _ _ h)
    obtain ⟨od, J, _⟩ := J.look
    exact J.type
  | fx v => cases hk
  | scr h r => cases hk
  | ext h r => cases hk
/-! x == y by an own __eq__ -/
def rEqO (X : Cx) (k : Nat) : R2 := fun x y H Q => ∃ (a C dx : Addr) (fs : List (Str × V)) (ff : FF) (G : Hp) (d : D), x = .ref a ∧ H a = some (.ins C dx fs) ∧ Same G H ∧ Rep X.K G y d ∧ knownD d = true ∧ PySem.W.notFirst X.K C (tyD d) = true ∧
  Own1 X.prog X.w X.K X.mg X.base C "__eq__" k 2 ff ∧ spD X.K 2 false ff [x, y] H (fun v H' => (∃ b, v = .bl b) ∧ Q v H') (fun _ _ _ => False)
theorem typeIn_isFn {K : Fg} {f : Addr} (h : PySem.W.typeIn K (.ref f) = some (.type "function")) : PySem.W.isFn K (.ref f) = true := by
  unfold PySem.W.isFn
  rw [h]
  exact beq_self_eq_true _
theorem op_eqO {k : Nat} (hr : Room k X.A) : OpR X (compareOp .Eq) (rEqO X k) := by
  intro pins s σ H x y v u Q I rx ry h
  obtain ⟨a, C, dx, fs, ff, G, d, rfl, ha, sm, rd, hk, hn, ⟨f, fd, ps, hs, tf, hb, FO⟩, h⟩ := h
  cases (show v = Value.ref a from rx)
  obtain ⟨mA, J, _⟩ := ins_get I.hok ha
  obtain ⟨od, J, _⟩ := J.look
  obtain ⟨m, hF⟩ := I.fr
  refine PySem.W.cmp_K (op := .Eq) (tb := tyD d) hr.units0 hF I.ok.mod.kin J (lk_ty I sm rd ry hk) hn hs (typeIn_isFn tf) ?_
  refine wpAny_mono (run_at (E := X.xe) (A := X.A) FO hr rfl hb I (vs := [.ref a, y]) (us := [.ref a, u]) (.cons rfl (.cons ry .nil)) h) (fun w s' hq => ?_) fun _ _ z => z
  obtain ⟨z, H', I', rz, ⟨b, rfl⟩, q⟩ := hq
  cases (show w = Value.bool b from rz)
  exact ⟨.bl b, H', I', rfl, q⟩
/-! x != y where the class says == alone -/
theorem ifBound_ne {M : Model} {K : Fg} {x C : Addr} {ox : Obj} {od : Option Obj} {us : List Value} {Q : Option Value → Shared → Prop} (kin : K.In s.heap) (J : PySem.W.InstAt s.heap x ox C od) (hs : PySem.W.findIn K (.ref C) "__ne__" = some (some (.builtin "object.__ne__")))
    (h : wpAny M A (call (.builtin "object.__ne__") (.ref x :: us)) (fun v => Q (some v)) E s) : wpAny M A (callSpecialIfBound? (.ref x) "__ne__" us) Q E s := by
  have fin : wpAny M A (call (.builtin "object.__ne__") ([.ref x] ++ us) >>= fun v => pure (some v)) Q E s := wpAny_bind (wpAny_mono h (fun v s2 q => wpAny_pure q) fun _ _ q => q)
  simp only [callSpecialIfBound?, bindSpecialIfBound?]
  refine wpAny_holding (wpAny_bind (wpAny_bind (wpAny_bind (J.type.here ((PySem.W.looks_findIn kin hs).here (wpAny_bind (wpAny_askSetting (wpAny_ite ?_))))))))
  split
  · refine wpAny_bind (wpAny_of_eq (PySem.F.cmp_object.ne.bind _) (wpAny_pure ?_))
    exact fin
  · refine wpAny_tryCatch (wpAny_bind (wpAny_of_eq (PySem.F.cmp_object.ne.bind _) (wpAny_pure ?_)))
    exact fin
theorem obj_ne {M : Model} {K : Fg} {x C f : Addr} {ox : Obj} {od : Option Obj} {b : Value} {Q : Fin → Shared → Prop} (hu : A.units < cLine) (kin : K.In s.heap) (J : PySem.W.InstAt s.heap x ox C od) (hs : PySem.W.findIn K (.ref C) "__eq__" = some (some (.ref f))) (hf : PySem.W.isFn K (.ref f) = true)
    (h : wpAny M A (call (.ref f) [.ref x, b]) (fun v s2 => ∃ r, v = .bool r ∧ Q (.done (.ret (.bool (!r)))) s2) E s) : wpAny M A (Builtin.«object.__ne__» ⟨[.ref x, b], []⟩) Q E s := by
  unfold Builtin.«object.__ne__»
  refine wpAny_bind (m := slotArgs "__ne__" 1 _) (wpAny_pure ?_)
  refine wpAny_bind (wpAny_cRoomFor hu ?_)
  refine wpAny_bind (PySem.W.ifBound_K kin J hs hf (wpAny_mono h (fun v s2 q => ?_) fun _ _ q => q))
  obtain ⟨r, rfl, q⟩ := q
  exact wpAny_bind (wpAny_truthy_bool (wpAny_pure q))
theorem rich_one {M : Model} {K : Fg} {op : CmpOp} {x C : Addr} {ox : Obj} {od : Option Obj} {b tb : Value} {Q : Value → Shared → Prop} (hu : A.units < cLine) (kin : K.In s.heap) (J : PySem.W.InstAt s.heap x ox C od) (lb : PySem.W.Looks M s.heap (typeOf b) tb) (hn : PySem.W.notFirst K C tb = true)
    (one : wpAny M A (tryCompare (.ref x) (cmpInfo op).2.1 b) (fun r s2 => ∃ v, r = some v ∧ Q v s2) E s) : wpAny M A (richCompare op (.ref x) b) Q E s := by
  have last : wpAny M A (tryCompare (.ref x) (cmpInfo op).2.1 b) (fun r s2 => wpAny M A (match r with
      | some v => pure v
      | none => pure .none) Q E s2) E s := wpAny_mono one (fun r s2 z => by obtain ⟨v, rfl, q⟩ := z; exact wpAny_pure q) fun _ _ q => q
  unfold richCompare
  simp only [oneThing_ref]
  refine wpAny_holding (wpAny_bind (wpAny_cRoomFor hu (wpAny_bind (J.type.here (wpAny_bind (lb.here ?_))))))
  split
  · rename_i q
    have hsub : PySem.W.subIn K tb (.ref C) = some false := by
      rcases Bool.or_eq_true_iff.mp hn with z | z
      · rw [beq_iff_eq.mp z] at q
        simp at q
      · exact beq_iff_eq.mp z
    refine wpAny_bind ((PySem.W.looks_subIn kin hsub).here ?_)
    simp only [Bool.false_eq_true, if_false]
    exact wpAny_bind (wpAny_mono one (fun r s2 z => by obtain ⟨v, rfl, q⟩ := z; exact wpAny_pure q) fun _ _ z => z)
  · refine wpAny_bind (wpAny_pure ?_)
    simp only [Bool.false_eq_true, if_false]
    exact wpAny_bind (wpAny_mono one (fun r s2 z => by obtain ⟨v, rfl, q⟩ := z; exact wpAny_pure q) fun _ _ z => z)
def rNeO (X : Cx) (k : Nat) : R2 := fun x y H Q => ∃ (a C dx : Addr) (fs : List (Str × V)) (ff : FF) (G : Hp) (d : D), x = .ref a ∧ H a = some (.ins C dx fs) ∧ Same G H ∧ Rep X.K G y d ∧ knownD d = true ∧ PySem.W.notFirst X.K C (tyD d) = true ∧
  PySem.W.findIn X.K (.ref C) "__ne__" = some (some (.builtin "object.__ne__")) ∧ PySem.W.mroIn X.K C (.type "object") = some true ∧
  Own1 X.prog X.w X.K X.mg X.base C "__eq__" k 2 ff ∧ spD X.K 2 false ff [x, y] H (fun v H' => ∃ b, v = .bl b ∧ Q (.bl (!b)) H') (fun _ _ _ => False)
theorem op_neO {k : Nat} (hr : Room (k + 1) X.A) : OpR X (compareOp .NotEq) (rNeO X k) := by
  intro pins s σ H x y v u Q I rx ry h
  obtain ⟨a, C, dx, fs, ff, G, d, rfl, ha, sm, rd, hk, hn, hne, hmr, ⟨f, fd, ps, hs, tf, hb, FO⟩, h⟩ := h
  cases (show v = Value.ref a from rx)
  obtain ⟨mA, J, _⟩ := ins_get I.hok ha
  obtain ⟨od, J, _⟩ := J.look
  show wpAny (model X.prog X.w) X.A (richCompare .NotEq (.ref a) u) (EP X pins σ Q) X.xe s
  refine rich_one (op := .NotEq) hr.units0 I.kIn J (lk_ty I sm rd ry hk) hn ?_
  show wpAny (model X.prog X.w) X.A (tryCompare (.ref a) "__ne__" u) _ X.xe s
  unfold tryCompare
  refine wpAny_bind (ifBound_ne I.kIn J hne ?_)
  refine wpAny_call (codeAny_call_builtin PySem.F.cmp_object.ne.plain PySem.F.cmpEntry_ne (PySem.W.check_slot PySem.F.cmpKind_ne PySem.F.cmpSplit_ne (J.type.andThen (PySem.W.looks_mroIn I.kIn hmr)) (PySem.F.cmpArgs_ne _ _) ?_))
  refine obj_ne hr.in1.units0 I.kIn J hs (typeIn_isFn tf) ?_
  refine wpAny_mono (run_at (A := X.A.in1) FO hr.in1 rfl hb I (vs := [.ref a, y]) (us := [.ref a, u]) (.cons rfl (.cons ry .nil)) h) (fun w s2 hq => ?_) fun _ _ z => z
  obtain ⟨z, H', I', rz, b, rfl, q⟩ := hq
  cases (show w = Value.bool b from rz)
  refine ⟨b, rfl, ?_⟩
  exact wpAny_pure ⟨_, rfl, .bl (!b), H', I', rfl, q⟩
end
end DL

set_option Elab.async false
set_option linter.all false
set_option maxRecDepth 100000
set_option maxHeartbeats 4000000
namespace DL
open PySem L2 PySem.Spec PyProof.Rows
open StX (tStar pa_star)
section
variable {X : Cx} {c : Ct} {W : WX} {e a b : Expr} {es : List Expr} {pos p sp : Pos} {ma mb me : ME} {mr : MA} {ta tb te : TE} {tr : TA} {K : Fg}
/-! ### [a, *xs] -/
def maStar (ma : ME) (mr : MA) : MA := fun δ F X => ma δ (fun d => ∃ l, seqD d = some l ∧ mr δ (fun ds => F (l ++ ds)) X) X
theorem da_star (ha : DE X c W e ta ma) (hr : DA X c W es tr mr) (hs : starEach (.Starred e p :: es) X.env = (true, eval e X.env) :: starEach es X.env := by rfl) : DA X c W (.Starred e p :: es) (tStar X.K ta tr) (maStar ma mr) := by
  refine ⟨pa_star ha.p hr.p hs, fun H G σ δ F Y Q cr rs h q x => ?_⟩
  refine ha.w H G σ δ _ _ _ cr rs h (fun v d H1 G1 g1 r1 h1 => ?_) x
  obtain ⟨l, el, h1⟩ := h1
  have go : ∀ {xs : List V}, RepL X.K G1 xs l → tr σ H1 fun ys H2 => Q (xs ++ ys) H2 := fun {xs} rx =>
    hr.w H1 G1 σ δ _ _ _ (cr.step g1) (rs.step cr g1) h1 (fun vs ds H2 G2 g2 r2 f => q _ _ H2 G2 (g1.trans g2) ((rx.mono g2.grow).append r2) f) (x.step g1)
  cases d with
  | lst ds =>
    cases el
    obtain ⟨a, xs, rfl, g2, r2⟩ := r1.lst_of
    exact ⟨a, xs, rfl, .inr (SqL.of (g1.sub _ _ g2)), go r2⟩
  | tup ds =>
    cases el
    obtain ⟨a, xs, rfl, g2, r2⟩ := r1.tup_of
    exact ⟨a, xs, rfl, .inl (same_t g1.sub g2), go r2⟩
  | _ => cases el
/-! ### f'..' -/
def mFmt (ma : ME) : ME := fun δ F X => ma δ (fun d => match d with
  | .str z => z.length ≤ sizeLine ∧ F (.str z)
  | _ => False) X
theorem de_fmt (ha : DE X c W e ta ma) : DE X c W (.FormattedValue e (-1) none pos) (tFmt ta) (mFmt ma) := by
  refine ⟨pe_fmt ha.p, fun H G σ δ F Y Q cr rs h q x => ?_⟩
  refine ha.w H G σ δ _ _ _ cr rs h (fun v d H1 G1 g1 r1 h1 => ?_) x
  split at h1
  · exact .inl ⟨_, r1.str_of, h1.1, q _ _ H1 G1 g1 (.str _) h1.2⟩
  · exact h1.elim
def mJs : List ME → Str → List Sl → (Str → Prop) → XC → Prop
  | [], acc, _, F, _ => F acc
  | m :: ms, acc, δ, F, X => m δ (fun d => match d with
    | .str y => (acc ++ y).length ≤ sizeLine ∧ mJs ms (acc ++ y) δ F X
    | _ => False) X
inductive DJ (X : Cx) (c : Ct) (W : WX) : List Expr → List TE → List ME → Prop where
  | nil : DJ X c W [] [] []
  | cons {e : Expr} {t : TE} {m : ME} {es : List Expr} {ts : List TE} {ms : List ME} (h : DE X c W e t m) (r : DJ X c W es ts ms) : DJ X c W (e :: es) (t :: ts) (m :: ms)
theorem DJ.pj {ts : List TE} {ms : List ME} (h : DJ X c W es ts ms) : PJ X es ts := by
  induction h with
  | nil => exact .nil
  | cons h _ ih => exact .cons h.p ih
theorem DJ.wj {ts : List TE} {ms : List ME} (h : DJ X c W es ts ms) : ∀ (acc : Str) (H G : Hp) (σ : L2.St) (δ : List Sl) (F : Str → Prop) (Y : XC) (Q : Str → Hp → Prop), Cr c H G → RS X.K c H G σ δ → mJs ms acc δ F Y → (∀ out H' G', Go c.dl H G H' G' → F out → Q out H') → XW X.K c H G σ Y W → tJs ts acc σ H Q := by
  induction h with
  | nil => exact fun acc H G σ δ F Y Q cr rs h q x => q acc H G cr.rfl' h
  | @cons e t m es ts ms h _ ih =>
    intro acc H G σ δ F Y Q cr rs hm q x
    refine h.w H G σ δ _ _ _ cr rs hm (fun v d H1 G1 g1 r1 h1 => ?_) x
    split at h1
    · exact ⟨_, r1.str_of, h1.1, ih _ H1 G1 σ δ F Y Q (cr.step g1) (rs.step cr g1) h1.2 (fun out H' G' g f => q out H' G' (g1.trans g) f) (x.step g1)⟩
    · exact h1.elim
def mJoined (ms : List ME) : ME := fun δ F X => mJs ms Str.empty δ (fun out => F (.str out)) X
theorem de_joined {v1 v2 : Expr} {rest : List Expr} {ts : List TE} {ms : List ME} (h : DJ X c W (v1 :: v2 :: rest) ts ms) : DE X c W (.JoinedStr (v1 :: v2 :: rest) pos) (fun σ H Q => tJs ts Str.empty σ H fun out H1 => Q (.str out) H1) (mJoined ms) :=
  ⟨pe_joined h.pj, fun H G σ δ F Y Q cr rs hm q x => h.wj Str.empty H G σ δ _ _ _ cr rs hm (fun out H' G' g f => q _ _ H' G' g (.str _) f) x⟩
/-! ### str(x), x == y, x != y of own classes -/
structure OwnM (P : Program) (w : World) (K : Fg) (mg : Str → Option Value) (base : Heap) (good : Addr → Prop) (m : Str) (k n : Nat) (ff : Addr → FF) : Prop where
  ok : ∀ C, good C → Own1 P w K mg base C m k n (ff C)
def gStrO (good : Addr → Prop) (ff : Addr → FF) (ds : List D) (F : D → Prop) : Prop := match ds with
  | [.obj C fs] => good C ∧ ff C [.obj C fs] (fun r => (∃ z, r = .str z) ∧ F r) (fun _ => False)
  | _ => False
theorem cd_strO {good : Addr → Prop} {k : Nat} {ff : Addr → FF} (M : OwnM X.prog X.w X.K X.mg X.base good "__str__" k 1 ff) : CD X.K (rStrO X k) (gStrO good ff) := fun H G vs ds F Q s r h q => by
  unfold gStrO at h
  split at h
  · rename_i C fs
    obtain ⟨v, rfl, r1⟩ := r.one
    obtain ⟨a, dx, fv, rfl, g1, r2⟩ := r1.obj_of
    refine ⟨a, C, dx, fv, ff C, rfl, s _ _ g1, M.ok C h.1, ?_⟩
    refine ⟨G, [.obj C fs], none, [.ref a], _, _, rfl, ⟨rfl, rfl⟩, s, .no, .cons r1 .nil, h.2, fun v d H' G' g r f => ?_, fun _ _ _ _ _ _ _ z => z.elim⟩
    obtain ⟨⟨z, rfl⟩, f⟩ := f
    exact ⟨⟨z, r.str_of⟩, q _ _ H' G' g r f⟩
  · exact h.elim
theorem de_strO {k : Nat} {good : Addr → Prop} {ff : Addr → FF} (M : OwnM X.prog X.w X.K X.mg X.base good "__str__" k 1 ff) (hr : Room (k + 2) X.A) (hg : Gl X "str") (hm : X.mg "str" = none) (ha : DA X c W (e :: es) tr mr)
    (he : starEach (e :: es) X.env = (false, eval e X.env) :: starEach es X.env := by rfl) (hpl : (backTo pos (starEach es X.env)).any (·.1) = false := by rfl) :
    DE X c W (.Call (.Name "str" p) (e :: es) [] pos) (tCB (rStrO X k) tr) (mCB (gStrO good ff) mr) :=
  de_callTy (call_strO hr) (cd_strO M) hg hm (by decide +kernel) ha (he := he) (hpl := hpl)
def gEqO (K : Fg) (good : Addr → Prop) (ff : Addr → FF) (d e : D) (F : D → Prop) : Prop := match d with
  | .obj C fs => good C ∧ knownD e = true ∧ PySem.W.notFirst K C (tyD e) = true ∧ ff C [.obj C fs, e] (fun r => (∃ b, r = .bl b) ∧ F r) (fun _ => False)
  | _ => False
theorem rd_eqO {good : Addr → Prop} {k : Nat} {ff : Addr → FF} (M : OwnM X.prog X.w X.K X.mg X.base good "__eq__" k 2 ff) : RD X.K (rEqO X k) (gEqO X.K good ff) := fun H G x y d e F Q s rx ry h q => by
  unfold gEqO at h
  split at h
  · rename_i C fs
    obtain ⟨a, dx, fv, rfl, g1, r2⟩ := rx.obj_of
    refine ⟨a, C, dx, fv, ff C, G, e, rfl, s _ _ g1, s, ry, h.2.1, h.2.2.1, M.ok C h.1, ?_⟩
    refine ⟨G, [.obj C fs, e], none, [.ref a, y], _, _, rfl, ⟨rfl, rfl⟩, s, .no, .cons rx (.cons ry .nil), h.2.2.2, fun v d H' G' g r f => ?_, fun _ _ _ _ _ _ _ z => z.elim⟩
    obtain ⟨⟨z, rfl⟩, f⟩ := f
    exact ⟨⟨z, r.bl_of⟩, q _ _ H' G' g r f⟩
  · exact h.elim
def gNeO (K : Fg) (good : Addr → Prop) (ff : Addr → FF) (d e : D) (F : D → Prop) : Prop := match d with
  | .obj C fs => good C ∧ knownD e = true ∧ PySem.W.notFirst K C (tyD e) = true ∧ ff C [.obj C fs, e] (fun r => ∃ b, r = .bl b ∧ F (.bl (!b))) (fun _ => False)
  | _ => False
theorem rd_neO {good : Addr → Prop} {k : Nat} {ff : Addr → FF} (M : OwnM X.prog X.w X.K X.mg X.base good "__eq__" k 2 ff) (hN : ∀ C, good C → PySem.W.findIn X.K (.ref C) "__ne__" = some (some (.builtin "object.__ne__")) ∧ PySem.W.mroIn X.K C (.type "object") = some true) : RD X.K (rNeO X k) (gNeO X.K good ff) := fun H G x y d e F Q s rx ry h q => by
  unfold gNeO at h
  split at h
  · rename_i C fs
    obtain ⟨a, dx, fv, rfl, g1, r2⟩ := rx.obj_of
    refine ⟨a, C, dx, fv, ff C, G, e, rfl, s _ _ g1, s, ry, h.2.1, h.2.2.1, (hN C h.1).1, (hN C h.1).2, M.ok C h.1, ?_⟩
    refine ⟨G, [.obj C fs, e], none, [.ref a, y], _, _, rfl, ⟨rfl, rfl⟩, s, .no, .cons rx (.cons ry .nil), h.2.2.2, fun v d H' G' g r f => ?_, fun _ _ _ _ _ _ _ z => z.elim⟩
    obtain ⟨b, rfl, f⟩ := f
    exact ⟨b, r.bl_of, q _ _ H' G' g (.bl _) f⟩
  · exact h.elim
end
end DL

set_option Elab.async false
set_option linter.all false
set_option maxRecDepth 100000
set_option maxHeartbeats 4000000
namespace DL
open PySem L2 PySem.Spec PyProof.Rows
/-- one name over a list that is made of others, no test -/
theorem lcD_mapA {α : Type} {i : Nat} {me : ME} {δ : List Sl} {F : List D → Prop} (g f : α → D) : ∀ (ss : List α) (acc : List D), (∀ s ∈ ss, ∀ F' : D → Prop, F' (f s) → me (δ.set i (.dat (g s))) F' (fun _ => False)) → F (acc ++ ss.map f) → lcD (mgName i) mYes me δ F (ss.map g) acc
  | [], acc, _, h => by
    rw [List.map_nil, List.append_nil] at h
    exact h
  | s :: ss, acc, hs, h => by
    show (if true = true then me (δ.set i (.dat (g s))) (fun r => lcD (mgName i) mYes me δ F (ss.map g) (acc ++ [r])) (fun _ => False) else lcD (mgName i) mYes me δ F (ss.map g) acc)
    rw [if_pos rfl]
    refine hs s (by simp) _ ?_
    refine lcD_mapA g f ss _ (fun t ht => hs t (List.mem_cons_of_mem _ ht)) ?_
    rw [List.append_assoc]
    exact h
theorem strsD_map : ∀ xs : List Str, strsD (xs.map D.str) = some xs
  | [] => rfl
  | x :: xs => by
    show (strsD (xs.map D.str)).map (x :: ·) = _
    rw [strsD_map xs]
    rfl
end DL

set_option Elab.async false
set_option linter.all false
set_option maxRecDepth 100000
set_option maxHeartbeats 4000000
namespace DL
open PySem L2 PySem.Spec PyProof.Rows
/-! ### own lists: shown for good, shown for the time of an expression -/
def delP (G : Hp) (p : Addr) : Hp := fun a => if a = p then none else G a
theorem delP_ne {G : Hp} {a p : Addr} (h : a ≠ p) : delP G p a = G a := if_neg h
theorem delP_at {G : Hp} {p : Addr} : delP G p p = none := if_pos rfl
theorem delP_some {G : Hp} {a p : Addr} {o : HO} (h : delP G p a = some o) : a ≠ p ∧ G a = some o := by
  by_cases e : a = p
  · rw [e, delP_at] at h
    cases h
  · rw [delP_ne e] at h
    exact ⟨e, h⟩
mutual
def noL : D → Bool
  | .lst _ => false
  | .scr _ => false
  | .ext _ _ => false
  | .tup xs => noLs xs
  | .obj _ fs => noLf fs
  | _ => true
def noLs : List D → Bool
  | [] => true
  | d :: r => noL d && noLs r
def noLf : List (Str × D) → Bool
  | [] => true
  | (_, d) :: r => noL d && noLf r
end
section
variable {K : Fg} {G : Hp} {p : Addr} {zs : List V}
theorem sqT_del (hp : G p = some (.lst zs)) {a : Addr} {xs : List V} (h : SqT K G a xs) : SqT K (delP G p) a xs := by
  have ne : ∀ {o : HO}, G a = some o → (∀ ys, o ≠ .lst ys) → delP G p a = some o := fun {o} e n => by
    by_cases ea : a = p
    · rw [ea, hp] at e
      cases e
      exact absurd rfl (n zs)
    · rw [delP_ne ea]
      exact e
  rcases h with (h | ⟨o, h⟩) | h
  · exact .inl (.inl (ne h fun _ z => nomatch z))
  · exact .inl (.inr ⟨o, ne h fun _ z => nomatch z⟩)
  · exact .inr h
mutual
theorem rep_del (hp : G p = some (.lst zs)) : ∀ {v : V} {d : D}, Rep K G v d → noL d = true → Rep K (delP G p) v d
  | _, _, .non, _ => .non
  | _, _, .bl b, _ => .bl b
  | _, _, .int i, _ => .int i
  | _, _, .str x, _ => .str x
  | _, _, .fx v, _ => .fx v
  | _, _, .lst _ _, n => by cases n
  | _, _, .scr _ _, n => by cases n
  | _, _, .ext _ _, n => by cases n
  | _, _, .tup h r, n => .tup (sqT_del hp h) (repL_del hp r (by unfold noL at n; exact n))
  | _, _, .obj (a := a) h r, n => .obj (a := a) (by
      by_cases ea : a = p
      · rw [ea, hp] at h
        cases h
      · rw [delP_ne ea]
        exact h) (repF_del hp r (by unfold noL at n; exact n))
theorem repL_del (hp : G p = some (.lst zs)) : ∀ {vs : List V} {ds : List D}, RepL K G vs ds → noLs ds = true → RepL K (delP G p) vs ds
  | _, _, .nil, _ => .nil
  | _, _, .cons a r, n => by
    unfold noLs at n
    obtain ⟨n1, n2⟩ := Bool.and_eq_true_iff.mp n
    exact .cons (rep_del hp a n1) (repL_del hp r n2)
theorem repF_del (hp : G p = some (.lst zs)) : ∀ {vs : List (Str × V)} {ds : List (Str × D)}, RepF K G vs ds → noLf ds = true → RepF K (delP G p) vs ds
  | _, _, .nil, _ => .nil
  | _, _, .cons a r, n => by
    unfold noLf at n
    obtain ⟨n1, n2⟩ := Bool.and_eq_true_iff.mp n
    exact .cons (rep_del hp a n1) (repF_del hp r n2)
end
end
section
variable {X : Cx} {c : Ct} {W : WX} {K : Fg} {e a b : Expr} {es : List Expr} {pos : Pos} {st : Stmt} {ss : List Stmt} {ma mb me : ME} {mr : MA} {ta tb te : TE} {tr : TA} {ts : TS} {ms : MS}
theorem Cr.shown {H G : Hp} (cr : Cr c H G) {p : Addr} {ys : List V} (h1 : H p = some (.lst ys)) (h2 : G p = none) (h3 : c.He p = none) : Cr c H (upd G p (.lst ys)) where
  keep := cr.keep
  grow := fun a o z => by rw [upd_ne (ne_of_none (cr.grow _ _ z) h2)]; exact cr.grow _ _ z
  sub := fun a o z => by
    by_cases ea : a = p
    · subst ea
      rw [upd_same] at z
      cases z
      exact h1
    · rw [upd_ne ea] at z
      exact cr.sub _ _ z
  new := fun a o z => by
    by_cases ea : a = p
    · subst ea
      exact .inr h3
    · rw [upd_ne ea] at z
      exact cr.new _ _ z
  dlok := fun p' l' q => by
    obtain ⟨d, g1, g2⟩ := cr.dlok p' l' q
    obtain ⟨n1, n2⟩ := notDl_own cr h3 p' l' q
    exact ⟨d, by rw [upd_ne (Ne.symm n1)]; exact g1, by rw [upd_ne (Ne.symm n2)]; exact g2⟩
  he := cr.he
  sfo := cr.sfo
theorem RS.shown {H G : Hp} {σ : L2.St} {δ : List Sl} (r : RS K c H G σ δ) {j : Nat} {p : Addr} {ys : List V} {bs : List D} (hj : δ[j]? = some (.own bs)) (hs : σ[j]? = some (some (.ref p))) (h1 : H p = some (.lst ys)) (h2 : G p = none) (rl : RepL K G ys bs) :
    RS K c H (upd G p (.lst ys)) σ (δ.set j (.dat (.lst bs))) := by
  have sm : Same G (upd G p (.lst ys)) := fun a o z => by rw [upd_ne (ne_of_none z h2)]; exact z
  refine ⟨by rw [List.length_set]; exact r.len, fun i t e => ?_, fun i k q ds' fs n e1 e2 h => ?_⟩
  · by_cases hij : j = i
    · subst hij
      have hl : j < δ.length := (List.getElem?_eq_some_iff.mp hj).1
      rw [List.getElem?_set_self hl] at e
      cases e
      exact ⟨_, hs, _, rfl, .lst upd_same (rl.mono sm)⟩
    · rw [List.getElem?_set_ne hij] at e
      obtain ⟨x, q1, q2⟩ := r.at_ i t e
      refine ⟨x, q1, ?_⟩
      cases t with
      | un => trivial
      | dat d =>
        obtain ⟨v, e1, e2⟩ := q2
        exact ⟨v, e1, e2.mono sm⟩
      | own fs =>
        obtain ⟨p', xs', a1, a2, a3, a4, a5⟩ := q2
        subst a1
        have ne : p' ≠ p := fun z => by
          subst z
          exact r.sep j i p' bs fs hij hj e hs q1
        exact ⟨p', xs', rfl, a2, by rw [upd_ne ne]; exact a3, a4, a5.mono sm⟩
      | odc fs =>
        obtain ⟨p', xs', a1, a2, a3, a4, a5⟩ := q2
        exact ⟨p', xs', a1, a2, by rw [upd_ne (fun z => by rw [z, h1] at a2; cases a2)]; exact a3, a4, a5.mono sm⟩
      | odl fs =>
        obtain ⟨p', od', xs', a1, a2, a3, a4, a5⟩ := q2
        exact ⟨p', od', xs', a1, a2, by rw [upd_ne (fun z => by rw [z, h1] at a2; cases a2)]; exact a3, a4, a5.mono sm⟩
      | deal => exact q2
      | exn a C d fs =>
        obtain ⟨a1, a2⟩ := q2
        exact ⟨a1, a2.mono sm⟩
      | self C fs =>
        obtain ⟨a, dx, fv, a1, a2, a3, a4, a5, a6⟩ := q2
        refine ⟨a, dx, fv, a1, a2, a3, ?_, a5, a6.mono sm⟩
        rw [upd_ne (fun z => by rw [z, h1] at a3; cases a3)]
        exact a4
  · have up : ∀ (i : Nat) (ds' : List D), (δ.set j (.dat (.lst bs)))[i]? = some (.own ds') → δ[i]? = some (.own ds') := fun i ds' e => by
      by_cases hij : j = i
      · subst hij
        have hl : j < δ.length := (List.getElem?_eq_some_iff.mp hj).1
        rw [List.getElem?_set_self hl] at e
        cases e
      · rw [List.getElem?_set_ne hij] at e
        exact e
    exact r.sep i k q _ _ n (up i ds' e1) (up k fs e2) h
/-- an own list is shown for good -/
def msPub (j : Nat) (m : MS) : MS := fun δ k => match δ[j]? with
  | some (.own bs) => m (δ.set j (.dat (.lst bs))) k
  | _ => False
theorem ws_pub (j : Nat) (h : WS K c W ts ms) : WS K c W ts (msPub j ms) := fun H G σ δ k Y cr rs hm en => by
  unfold msPub at hm
  split at hm
  · rename_i bs ej
    obtain ⟨y, q1, p, ys, q2, q3, q4, q5, q6⟩ := rs.at_ _ _ ej
    subst q2
    exact h H _ σ _ k Y (cr.shown q3 q4 q5) (rs.shown ej q1 q3 q4 q6) hm (en.mono fun a o z => by rw [upd_ne (ne_of_none z q4)]; exact z)
  · exact hm.elim
theorem ds_pub (j : Nat) (h : DS X c W st ts ms) : DS X c W st ts (msPub j ms) := ⟨h.p, ws_pub j h.w⟩
theorem dss_pub (j : Nat) (h : DSs X c W ss ts ms) : DSs X c W ss ts (msPub j ms) := ⟨h.p, ws_pub j h.w⟩
/-- .. for the time of an expression, what comes of it holding no list -/
theorem Go.unlend {dl : Dl} {H G H' G' : Hp} {p : Addr} {ys : List V} (g : Go dl H (upd G p (.lst ys)) H' G') (h2 : G p = none) : Go dl H G H' (delP G' p) where
  keep := g.keep
  grow := fun a o z => by
    have ne := ne_of_none z h2
    rw [delP_ne ne]
    exact g.grow _ _ (by rw [upd_ne ne]; exact z)
  sub := fun a o z => g.sub _ _ (delP_some z).2
  new := fun a o z => by
    obtain ⟨ne, z⟩ := delP_some z
    rcases g.new _ _ z with y | y
    · rw [upd_ne ne] at y
      exact .inl y
    · exact .inr y
  deal := fun p' l' q => by
    obtain ⟨d, g1, g2⟩ := g.deal p' l' q
    have e : ∀ a, G' a = none → delP G' p a = none := fun a z => by
      cases y : delP G' p a with
      | none => rfl
      | some o =>
        rw [(delP_some y).2] at z
        cases z
    exact ⟨d, e _ g1, e _ g2⟩
def mLend (j : Nat) (me : ME) : ME := fun δ F _ => match δ[j]? with
  | some (.own bs) => me (δ.set j (.dat (.lst bs))) (fun d => noL d = true ∧ F d) (fun _ => False)
  | _ => False
theorem we_lend (j : Nat) (h : WE K c W te me) : WE K c W te (mLend j me) := fun H G σ δ F Y Q cr rs hm q _ => by
  unfold mLend at hm
  split at hm
  · rename_i bs ej
    obtain ⟨y, q1, p, ys, q2, q3, q4, q5, q6⟩ := rs.at_ _ _ ej
    subst q2
    refine h H _ σ _ _ _ _ (cr.shown q3 q4 q5) (rs.shown ej q1 q3 q4 q6) hm (fun v d H' G' g r f => ?_) XW.no
    have hp : G' p = some (.lst ys) := g.grow _ _ upd_same
    exact q v d H' _ (g.unlend q4) (rep_del hp r f.1) f.2
  · exact hm.elim
theorem de_lend (j : Nat) (h : DE X c W e te me) : DE X c W e te (mLend j me) := ⟨h.p, we_lend j h.w⟩
/-! own lists made by list(..), two at once -/
theorem oe_list {p : Pos} (hg : Gl X "list") (hm : X.mg "list" = none) (ha : DA X c W (e :: es) tr mr) (he : starEach (e :: es) X.env = (false, eval e X.env) :: starEach es X.env := by rfl) (hpl : (backTo pos (starEach es X.env)).any (·.1) = false := by rfl) :
    OE X c W (.Call (.Name "list" p) (e :: es) [] pos) (tCB (fun xs H Q => ∃ p ys, xs = [.ref p] ∧ (SqL X.K H p ys ∨ SqT X.K H p ys) ∧ ∀ l, H l = none → Q (.ref l) (upd H l (.lst ys))) tr) (fun δ F Y => mr δ (fun ds => ∃ d l, ds = [d] ∧ seqD d = some l ∧ F l) Y) := by
  refine ⟨pe_callTy call_list_of hg hm (by decide +kernel) ha.p (he := he) (hpl := hpl), fun H G σ δ F Y Q cr rs h q x => ?_⟩
  refine ha.w H G σ δ _ _ _ cr rs h (fun vs ds H1 G1 g1 r1 h1 => ?_) x
  obtain ⟨d, l, rfl, el, f⟩ := h1
  obtain ⟨v, rfl, r2⟩ := r1.one
  have fin : ∀ {ys : List V}, RepL X.K G1 ys l → ∀ l0, H1 l0 = none → Q (.ref l0) (upd H1 l0 (.lst ys)) := fun {ys} ry l0 hl0 =>
    q l0 ys l _ G1 (g1.trans ((Go.mine g1.sub hl0).lift g1.deal)) upd_same (nfree g1 hl0) (g1.back cr.dlok hl0) ry f
  cases d with
  | lst ds =>
    cases el
    obtain ⟨a, xs, rfl, g2, r3⟩ := r2.lst_of
    exact ⟨a, xs, rfl, .inl (SqL.of (g1.sub _ _ g2)), fin r3⟩
  | tup ds =>
    cases el
    obtain ⟨a, xs, rfl, g2, r3⟩ := r2.tup_of
    exact ⟨a, xs, rfl, .inr (same_t g1.sub g2), fin r3⟩
  | _ => cases el
def msParOO (i j : Nat) (ma mb : MA) : MS := fun δ k => ma δ (fun xs => mb δ (fun ys => k.nx ((δ.set i (.own xs)).set j (.own ys))) (fun _ => False)) (fun _ => False)
theorem ds_parOO (i j : Nat) {x y : Str} {ma mb : MA} {px py pt : Pos} {kt k2 pt2} (hc : X.calm = true) (hN : X.N.Nodup) (hi : X.N[i]? = some x) (hj : X.N[j]? = some y) (hij : i ≠ j)
    (hx : X.env.scope.names.lookup x = some .local) (hy : X.env.scope.names.lookup y = some .local) (ha : OE X c W a ta ma) (hb : OE X c W b tb mb)
    (s1 : starEach [b] X.env = [(false, eval b X.env)] := by rfl) (s2 : starEach [a, b] X.env = (false, eval a X.env) :: starEach [b] X.env := by rfl)
    (hw : swappedStores [.Tuple [.Name x px, .Name y py] kt pt] (.Tuple [a, b] k2 pt2) X.env = pure (some [x, y]) := by rfl)
    (hs : swapsWithSole [.Tuple [.Name x px, .Name y py] kt pt] (.Tuple [a, b] k2 pt2) pos.line X.env = pure false := by rfl) :
    DS X c W (.Assign [.Tuple [.Name x px, .Name y py] kt pt] (.Tuple [a, b] k2 pt2) pos) (tPar i j (tCons ta (tCons tb tNil))) (msParOO i j ma mb) := by
  refine ⟨ps_par hc hN hi hj hij hx hy (pa_cons ha.p (pa_cons hb.p pa_nil s1) s2) hw hs, fun H G σ δ k Y cr rs h en => ?_⟩
  refine ha.w H G σ δ _ _ _ cr rs h (fun p xs ds H1 G1 g1 h1 h2 h3 r1 f1 => ?_) XW.no
  have cr1 := cr.step g1
  have rs1 := rs.step cr g1
  refine hb.w H1 G1 σ δ _ _ _ cr1 rs1 f1 (fun q ys es H2 G2 g2 k1 k2 k3 r2 f2 => ?_) XW.no
  have cr2 := cr1.step g2
  have rs2 := rs1.step cr1 g2
  have hep : c.He p = none := He_none (H' := H) (G' := G) cr h3
  have heq : c.He q = none := He_none (H' := H1) (G' := G1) cr1 k3
  have hp2 : H2 p = some (.lst xs) := g2.keep _ _ h1 (notDl_own cr1 hep)
  have gp2 : G2 p = none := by
    cases z : G2 p with
    | none => rfl
    | some o => rcases g2.new _ _ z with y | y
                · rw [h2] at y; cases y
                · rw [h1] at y; cases y
  refine ⟨_, _, rfl, ?_⟩
  have neq : ∀ {z : Addr}, (∀ o, H z = some o → False) → ∀ (j' : Nat) (es' : List D), δ[j']? = some (.own es') → σ[j']? ≠ some (some (.ref z)) := fun {z} hz j' es' e' w => by
    obtain ⟨y', q1, p', xs', q2, q3, _⟩ := rs.at_ _ _ e'
    subst q2
    rw [q1] at w
    cases w
    exact hz _ q3
  have rs3 := rs2.own (p := p) (xs := xs) (ds := ds) i hp2 gp2 hep (r1.mono g2.grow) (neq fun o z => by rw [h3] at z; cases z)
  have Hq : H q = none := by
    cases z : H q with
    | none => rfl
    | some o =>
      by_cases nd : NotDl c.dl q
      · rw [g1.keep _ _ z nd] at k3
        cases k3
      · exact absurd (notDl_own cr1 heq) nd
  have rs4 := rs3.own (p := q) (xs := ys) (ds := es) j k1 k2 heq r2 fun j' es' e' w => by
    by_cases ei : i = j'
    · subst ei
      have hl : i < σ.length := by
        have := (List.getElem?_eq_some_iff.mp w).1
        rwa [List.length_set] at this
      rw [List.getElem?_set_self hl] at w
      cases w
      rw [h1] at k3
      cases k3
    · rw [List.getElem?_set_ne ei] at e' w
      exact neq (fun o z => by rw [Hq] at z; cases z) j' es' e' w
  exact en.nx _ _ H2 G2 cr2 rs4 (g1.grow.trans g2.grow) f2
end
end DL

set_option Elab.async false
set_option linter.all false
set_option maxRecDepth 100000
set_option maxHeartbeats 4000000
namespace DL
open PySem L2 PySem.Spec PyProof.Rows
/-! ### own lists changed -/
theorem slot_extend : Slot "list" "extend" "list.extend" := PySem.F.slot_list_extend
theorem slot_reverse : Slot "list" "reverse" "list.reverse" := PySem.F.slot_list_reverse
section
variable {X : Cx} {c : Ct} {W : WX} {K : Fg} {e i : Expr} {pos : Pos} {me mi : ME} {te ti : TE}
def msAppO (j : Nat) (me : ME) : MS := fun δ k => match δ[j]? with
  | some (.own ds) => me δ (fun d => ds.length < sizeLine ∧ k.nx (δ.set j (.own (ds ++ [d])))) (fun x => k.rs x δ)
  | _ => False
theorem ws_appO (j : Nat) (he : WE K c W te me) : WS K c W (tDrop (tBM K "list" rAppend (tVar j) (tCons te tNil))) (msAppO j me) := fun H G σ δ k Y cr rs hm en => by
  unfold msAppO at hm
  split at hm
  · rename_i ds ej
    obtain ⟨y, q1, p, ys, q2, q3, q4, q5, q6⟩ := rs.at_ _ _ ej
    subst q2
    refine ⟨_, q1, .inl ⟨rfl, _, SqL.of q3⟩, ?_⟩
    refine he H G σ δ _ _ _ cr rs hm (fun v d H1 G1 g1 r1 h1 => ?_) (en.xw cr rs)
    have cr1 := cr.step g1
    have rs1 := rs.step cr g1
    obtain ⟨y, u1, p', ys', u2, u3, u4, u5, u6⟩ := rs1.at_ _ _ ej
    rw [q1] at u1
    cases u1
    cases u2
    refine ⟨p, ys', v, rfl, rfl, u3, by rw [u6.length]; exact h1.1, ?_⟩
    exact en.nx _ _ _ G1 (cr1.setOwn u3 u4 u5) (rs1.setOwn cr1 ej q1 u3 u4 u5 (u6.append (.cons r1 .nil))) g1.grow h1.2
  · exact hm.elim
theorem ds_appO (j : Nat) {z : Str} {zp ap cp : Pos} (hz : PE X (.Name z zp) (tVar j)) (he : DE X c W e te me)
    (hbase : attributeBase (.Name z zp) "append" X.env (eval (.Name z zp) X.env) = eval (.Name z zp) X.env := by rfl)
    (hfew : ((backTo cp (starEach [e] X.env)).all (fun x => !x.1) && (backToKw cp (keywordEach [] X.env)).all (fun x => x.1.isSome)
      && decide ([e].length + ([] : List Keyword).length + (if ([] : List Keyword).isEmpty then 0 else 1) < 30)) = true := by rfl)
    (hline : (ap.endLine == cp.line) = true := by rfl) (h1 : starEach [e] X.env = (false, eval e X.env) :: starEach [] X.env := by rfl) (h2 : (backTo cp (starEach [] X.env)).any (·.1) = false := by rfl)
    (hs : swapsWith (.Call (.Attribute (.Name z zp) "append" ap) [e] [] cp) none pos.line X.env = pure false := by rfl) :
    DS X c W (.Expr (.Call (.Attribute (.Name z zp) "append" ap) [e] [] cp) pos) (tDrop (tBM X.K "list" rAppend (tVar j) (tCons te tNil))) (msAppO j me) :=
  ⟨ps_expr (pe_bm PySem.F.plainAttrs_list slot_append type_append mt_append hz (pa_cons he.p pa_nil h1) hbase hfew hline h1 h2) hs, ws_appO j he.w⟩
def msExtO (j : Nat) (me : ME) : MS := fun δ k => match δ[j]? with
  | some (.own ds) => me δ (fun d => match d with
    | .lst l => ds.length + l.length ≤ sizeLine ∧ k.nx (δ.set j (.own (ds ++ l)))
    | _ => False) (fun x => k.rs x δ)
  | _ => False
theorem ws_extO (j : Nat) (he : WE K c W te me) : WS K c W (tDrop (tBM K "list" rExtend (tVar j) (tCons te tNil))) (msExtO j me) := fun H G σ δ k Y cr rs hm en => by
  unfold msExtO at hm
  split at hm
  · rename_i ds ej
    obtain ⟨y, q1, p, ys, q2, q3, q4, q5, q6⟩ := rs.at_ _ _ ej
    subst q2
    refine ⟨_, q1, .inl ⟨rfl, _, SqL.of q3⟩, ?_⟩
    refine he H G σ δ _ _ _ cr rs hm (fun v d H1 G1 g1 r1 h1 => ?_) (en.xw cr rs)
    have cr1 := cr.step g1
    have rs1 := rs.step cr g1
    obtain ⟨y, u1, p', ys', u2, u3, u4, u5, u6⟩ := rs1.at_ _ _ ej
    rw [q1] at u1
    cases u1
    cases u2
    split at h1
    · obtain ⟨a, xs, rfl, g2, r2⟩ := r1.lst_of
      refine ⟨p, a, ys', xs, rfl, rfl, u3, g1.sub _ _ g2, by rw [u6.length, r2.length]; exact h1.1, ?_⟩
      exact en.nx _ _ _ G1 (cr1.setOwn u3 u4 u5) (rs1.setOwn cr1 ej q1 u3 u4 u5 (u6.append r2)) g1.grow h1.2
    · exact h1.elim
  · exact hm.elim
theorem ds_extO (j : Nat) {z : Str} {zp ap cp : Pos} (hz : PE X (.Name z zp) (tVar j)) (he : DE X c W e te me)
    (hbase : attributeBase (.Name z zp) "extend" X.env (eval (.Name z zp) X.env) = eval (.Name z zp) X.env := by rfl)
    (hfew : ((backTo cp (starEach [e] X.env)).all (fun x => !x.1) && (backToKw cp (keywordEach [] X.env)).all (fun x => x.1.isSome)
      && decide ([e].length + ([] : List Keyword).length + (if ([] : List Keyword).isEmpty then 0 else 1) < 30)) = true := by rfl)
    (hline : (ap.endLine == cp.line) = true := by rfl) (h1 : starEach [e] X.env = (false, eval e X.env) :: starEach [] X.env := by rfl) (h2 : (backTo cp (starEach [] X.env)).any (·.1) = false := by rfl)
    (hs : swapsWith (.Call (.Attribute (.Name z zp) "extend" ap) [e] [] cp) none pos.line X.env = pure false := by rfl) :
    DS X c W (.Expr (.Call (.Attribute (.Name z zp) "extend" ap) [e] [] cp) pos) (tDrop (tBM X.K "list" rExtend (tVar j) (tCons te tNil))) (msExtO j me) :=
  ⟨ps_expr (pe_bm PySem.F.plainAttrs_list slot_extend PySem.F.type_list_extend mt_extend hz (pa_cons he.p pa_nil h1) hbase hfew hline h1 h2) hs, ws_extO j he.w⟩
def msRevO (j : Nat) : MS := fun δ k => match δ[j]? with
  | some (.own ds) => k.nx (δ.set j (.own ds.reverse))
  | _ => False
theorem ws_revO (j : Nat) : WS K c W (tDrop (tBM0 K "list" rReverse (tVar j))) (msRevO j) := fun H G σ δ k Y cr rs hm en => by
  unfold msRevO at hm
  split at hm
  · rename_i ds ej
    obtain ⟨y, q1, p, ys, q2, q3, q4, q5, q6⟩ := rs.at_ _ _ ej
    subst q2
    refine ⟨_, q1, .inl ⟨rfl, _, SqL.of q3⟩, p, ys, rfl, rfl, q3, ?_⟩
    exact en.nx _ _ _ G (cr.setOwn q3 q4 q5) (rs.setOwn cr ej q1 q3 q4 q5 q6.rev) (Same.refl _) hm
  · exact hm.elim
theorem ds_revO (j : Nat) {z : Str} {zp ap cp : Pos} (hz : PE X (.Name z zp) (tVar j)) (hbase : attributeBase (.Name z zp) "reverse" X.env (eval (.Name z zp) X.env) = eval (.Name z zp) X.env := by rfl) (hline : (ap.endLine == cp.line) = true := by rfl)
    (hs : swapsWith (.Call (.Attribute (.Name z zp) "reverse" ap) [] [] cp) none pos.line X.env = pure false := by rfl) :
    DS X c W (.Expr (.Call (.Attribute (.Name z zp) "reverse" ap) [] [] cp) pos) (tDrop (tBM0 X.K "list" rReverse (tVar j))) (msRevO j) :=
  ⟨ps_expr (pe_bm0 PySem.F.plainAttrs_list slot_reverse PySem.F.type_list_reverse mt_reverse hz hbase hline) hs, ws_revO j⟩
/-! found.append(rest.pop(i)) -/
def msAppPop (f r : Nat) (mi : ME) : MS := fun δ k => match δ[f]?, δ[r]? with
  | some (.own fs), some (.own rs) => mi δ (fun i => match i with
    | .int i => 0 ≤ i ∧ i < rs.length ∧ rs.length < 1000 ∧ fs.length < 1000 ∧ ∀ d, rs[i.toNat]? = some d → k.nx ((δ.set r (.own (rs.eraseIdx i.toNat))).set f (.own (fs ++ [d])))
    | _ => False) (fun x => k.rs x δ)
  | _, _ => False
theorem ws_appPop (f r : Nat) (hfr : f ≠ r) (hi : WE K c W ti mi) : WS K c W (tDrop (tBM K "list" rAppend (tVar f) (tCons (tBM K "list" rPopAt (tVar r) (tCons ti tNil)) tNil))) (msAppPop f r mi) := fun H G σ δ k Y cr rs hm en => by
  unfold msAppPop at hm
  split at hm
  · rename_i fs rr ef er
    obtain ⟨y, q1, p, ys, q2, q3, q4, q5, q6⟩ := rs.at_ _ _ ef
    subst q2
    obtain ⟨y, w1, p2, zs, w2, w3, w4, w5, w6⟩ := rs.at_ _ _ er
    subst w2
    refine ⟨_, q1, .inl ⟨rfl, _, SqL.of q3⟩, _, w1, .inl ⟨rfl, _, SqL.of w3⟩, ?_⟩
    refine hi H G σ δ _ _ _ cr rs hm (fun v d H1 G1 g1 r1 h1 => ?_) (en.xw cr rs)
    have cr1 := cr.step g1
    have rs1 := rs.step cr g1
    obtain ⟨y, u1, p', ys', u2, u3, u4, u5, u6⟩ := rs1.at_ _ _ ef
    rw [q1] at u1
    cases u1
    cases u2
    obtain ⟨y, x1, p', zs', x2, x3, x4, x5, x6⟩ := rs1.at_ _ _ er
    rw [w1] at x1
    cases x1
    cases x2
    split at h1
    · rename_i n
      obtain ⟨n0, n1, l1, l2, h1⟩ := h1
      have hn : n.toNat < rr.length := by omega
      have hd : rr[n.toNat]? = some rr[n.toNat] := List.getElem?_eq_getElem hn
      obtain ⟨y, hy, ry⟩ := x6.get hd
      have lz := x6.length
      have hi2 : n < 2 ^ 63 := by
        have : (1000 : Int) < 2 ^ 63 := by decide
        omega
      refine ⟨p2, zs', n, n.toNat, y, rfl, by rw [r1.int_of], x3, by omega, hi2, seqIndex_of n0 (by omega), hy, ?_⟩
      have ne : p ≠ p2 := fun z => by
        subst z
        exact rs1.sep f r p fs rr hfr ef er q1 w1
      have cr2 := cr1.setOwn (ys := zs'.eraseIdx n.toNat) x3 x4 x5
      have rs2 := rs1.setOwn cr1 er w1 x3 x4 x5 (x6.erase n.toNat)
      have u3' : upd H1 p2 (.lst (zs'.eraseIdx n.toNat)) p = some (.lst ys') := by rw [upd_ne ne]; exact u3
      refine ⟨p, ys', y, rfl, rfl, u3', by rw [u6.length]; exact Nat.lt_trans l2 (by decide), ?_⟩
      have ef2 : (δ.set r (.own (rr.eraseIdx n.toNat)))[f]? = some (.own fs) := by rw [List.getElem?_set_ne (Ne.symm hfr)]; exact ef
      exact en.nx _ _ _ G1 (cr2.setOwn u3' u4 u5) (rs2.setOwn cr2 ef2 q1 u3' u4 u5 (u6.append (.cons ry .nil))) g1.grow (h1 _ hd)
    · exact h1.elim
  · exact hm.elim
theorem ds_appPop (f r : Nat) {z y : Str} {zp ap cp yp bp dp : Pos} (hfr : f ≠ r) (hz : PE X (.Name z zp) (tVar f)) (hy : PE X (.Name y yp) (tVar r)) (hi : DE X c W i ti mi)
    (hp : PE X (.Name y yp) (tVar r) → PE X i ti → PE X (.Call (.Attribute (.Name y yp) "pop" bp) [i] [] dp) (tBM X.K "list" rPopAt (tVar r) (tCons ti tNil)) := by exact fun a b => pe_bm PySem.F.plainAttrs_list slot_pop type_pop mt_popAt a (pa_cons b pa_nil))
    (hbase : attributeBase (.Name z zp) "append" X.env (eval (.Name z zp) X.env) = eval (.Name z zp) X.env := by rfl)
    (hfew : ((backTo cp (starEach [.Call (.Attribute (.Name y yp) "pop" bp) [i] [] dp] X.env)).all (fun x => !x.1) && (backToKw cp (keywordEach [] X.env)).all (fun x => x.1.isSome)
      && decide ([Expr.Call (.Attribute (.Name y yp) "pop" bp) [i] [] dp].length + ([] : List Keyword).length + (if ([] : List Keyword).isEmpty then 0 else 1) < 30)) = true := by rfl)
    (hline : (ap.endLine == cp.line) = true := by rfl) (h1 : starEach [.Call (.Attribute (.Name y yp) "pop" bp) [i] [] dp] X.env = (false, eval (.Call (.Attribute (.Name y yp) "pop" bp) [i] [] dp) X.env) :: starEach [] X.env := by rfl) (h2 : (backTo cp (starEach [] X.env)).any (·.1) = false := by rfl)
    (hs : swapsWith (.Call (.Attribute (.Name z zp) "append" ap) [.Call (.Attribute (.Name y yp) "pop" bp) [i] [] dp] [] cp) none pos.line X.env = pure false := by rfl) :
    DS X c W (.Expr (.Call (.Attribute (.Name z zp) "append" ap) [.Call (.Attribute (.Name y yp) "pop" bp) [i] [] dp] [] cp) pos) (tDrop (tBM X.K "list" rAppend (tVar f) (tCons (tBM X.K "list" rPopAt (tVar r) (tCons ti tNil)) tNil))) (msAppPop f r mi) :=
  ⟨ps_expr (pe_bm PySem.F.plainAttrs_list slot_append type_append mt_append hz (pa_cons (hp hy hi.p) pa_nil h1) hbase hfew hline h1 h2) hs, ws_appPop f r hfr hi.w⟩
end
theorem perm_at {α : Type} : ∀ {l : List α} {i : Nat} (h : i < l.length), (l[i] :: l.eraseIdx i).Perm l
  | _ :: _, 0, _ => .refl _
  | x :: l, i + 1, h => by
    have h' : i < l.length := by simpa using h
    show (l[i] :: x :: l.eraseIdx i).Perm (x :: l)
    exact (List.Perm.swap _ _ _).trans ((perm_at h').cons x)
/-- a loop that counts down -/
theorem forD_cnt {mg : MG} {mb : MS} {k : MK} (I : Nat → List Sl → Prop) : ∀ (ds : List D) (δ : List Sl), (∀ d ∈ ds, ∀ n δ, I (n + 1) δ → ∀ k' : MK, (∀ δ2, I n δ2 → k'.nx δ2) → mg d δ fun δ' => mb δ' k') → I ds.length δ → (∀ δ, I 0 δ → k.nx δ) → forD mg mb ds δ k
  | [], δ, _, i, h => h δ i
  | d :: ds, δ, st, i, h => by
    refine st d (by simp) ds.length δ i _ fun δ2 i2 => ?_
    exact forD_cnt I ds δ2 (fun e he => st e (by simp [he])) i2 h
end DL

set_option Elab.async false
set_option linter.all false
set_option maxRecDepth 100000
set_option maxHeartbeats 4000000
namespace DL
open PySem L2 PySem.Spec PyProof.Rows
abbrev gSub : D → D → (D → Prop) → Prop := gI0 fun i j => .int (i - j)
theorem rd_sub {K : Fg} : RD K (rI0 fun i j => .int (i - j)) gSub := rd_I0 fun i j G => .int _
section
variable {X : Cx} {c : Ct} {W : WX} {e a b d : Expr} {es : List Expr} {pos p tpos : Pos} {ma : ME} {mr : MA} {ta : TE} {tr : TA} {elts : List Expr} {kk : Nat} {K : Fg}
def mNeg (ma : ME) : ME := fun δ F X => ma δ (fun d => match d with
  | .int i => F (.int (-i))
  | _ => False) X
theorem de_neg (ha : DE X c W a ta ma) : DE X c W (.UnaryOp .USub a pos) (tUn (rU fun i => .int (-i)) ta) (mNeg ma) := by
  refine ⟨pe_un un_neg ha.p, fun H G σ δ F Y Q cr rs h q x => ?_⟩
  refine ha.w H G σ δ _ _ _ cr rs h (fun v d H1 G1 g1 r1 h1 => ?_) x
  split at h1
  · exact ⟨_, r1.int_of, q _ _ H1 G1 g1 (.int _) h1⟩
  · exact h1.elim
def gMin (ds : List D) (F : D → Prop) : Prop := match ds with
  | [.int i, .int j] => F (.int (if j < i then j else i))
  | _ => False
theorem cd_min : CD K (fun xs H Q => ∃ i j, xs = [.int i, .int j] ∧ Q (.int (if j < i then j else i)) H) gMin := fun H G vs ds F Q s r h q => by
  unfold gMin at h
  split at h
  · obtain ⟨v, u, rfl, r1, r2⟩ := r.two
    exact ⟨_, _, by rw [r1.int_of, r2.int_of], q _ _ H G (Go.refl s .no) (.int _) h⟩
  · exact h.elim
/-! enumerate(xs), zip(xs, ys) of known lists -/
def enumD : Nat → List D → List D
  | _, [] => []
  | k, d :: r => .tup [.int k, d] :: enumD (k + 1) r
theorem enumD_get : ∀ (ds : List D) (k i : Nat), (enumD k ds)[i]? = ds[i]?.map fun d => .tup [.int ((k + i : Nat) : Int), d]
  | [], _, _ => by simp [enumD]
  | d :: ds, k, 0 => by simp [enumD]
  | d :: ds, k, i + 1 => by
    show (enumD (k + 1) ds)[i]? = ds[i]?.map _
    rw [enumD_get ds (k + 1) i, show k + 1 + i = k + (i + 1) by omega]
theorem enumD_len : ∀ (ds : List D) (k : Nat), (enumD k ds).length = ds.length
  | [], _ => rfl
  | d :: ds, k => congrArg Nat.succ (enumD_len ds (k + 1))
theorem walk_enum {G0 : Hp} {a : Addr} {xs : List V} {as : List D} (ha : G0 a = some (.lst xs)) (ra : RepL K G0 xs as) : IsWalk K G0 (Ite K a) (enumD 0 as) := fun i H G s sg => by
  have hA : SqL K H a xs := SqL.of (sg _ _ (s _ _ ha))
  refine ⟨fun d e => ?_, fun e => ⟨xs, hA, by rw [enumD_len] at e; rw [ra.length]; omega⟩⟩
  rw [enumD_get] at e
  cases e1 : as[i]? with
  | none => rw [e1] at e; cases e
  | some u =>
    rw [e1] at e
    cases e
    obtain ⟨x, f1, r1⟩ := ra.get e1
    refine ⟨⟨xs, x, hA, f1⟩, fun v H' ⟨T, x', h1, h2, h3, h4⟩ => ?_⟩
    subst h1 h3
    have h4 := h4 _ hA
    rw [f1] at h4
    cases h4
    have gl := Go.laid (o := .tup [.int (i : Nat), x]) sg h2
    refine ⟨_, gl, .tup (SqT.of upd_same) (.cons ?_ (.cons ((r1.mono s).mono gl.grow) .nil))⟩
    rw [Nat.zero_add]
    exact .int _
def miEnum (ma : ME) : MA := fun δ F X => ma δ (fun d => match d with
  | .lst ds => F (enumD 0 ds)
  | _ => False) X
theorem di_enum (hg : Gl X "enumerate") (hm : X.mg "enumerate" = none) (ha : DE X c W e ta ma) (hs : starEach [e] X.env = [(false, eval e X.env)] := by rfl) :
    DI X c W (.Tuple elts kk tpos) (.Call (.Name "enumerate" p) [e] [] pos) (iEnum X.K (tCons ta tNil)) (miEnum ma) := by
  refine ⟨pi_enum hg hm (pa_cons ha.p pa_nil hs) hs, fun H G σ δ F Y R cr rs h q x => ?_⟩
  refine ha.w H G σ δ _ _ _ cr rs h (fun v d H1 G1 g1 r1 h1 => ?_) x
  split at h1
  · obtain ⟨a, xs, rfl, g2, r2⟩ := r1.lst_of
    exact ⟨a, xs, rfl, SqL.of (g1.sub _ _ g2), q _ _ H1 G1 g1 (walk_enum g2 r2) h1⟩
  · exact h1.elim
theorem walk_zipK {G0 : Hp} {a b : Addr} {xs ys : List V} {as bs : List D} (ha : G0 a = some (.lst xs)) (ra : RepL K G0 xs as) (hb : G0 b = some (.lst ys)) (rb : RepL K G0 ys bs) :
    IsWalk K G0 (Itz K a b) (List.zipWith (fun a b => D.tup [a, b]) as bs) := fun i H G s sg => by
  have := walk_zipO (K := K) (dl := none) (H0 := H) (G0 := G) (s _ _ ha) (ra.mono s) (sg _ _ (s _ _ hb)) .non (rb.mono s) i H G (Go.refl sg .no)
  exact this
def miZipK (mr : MA) : MA := fun δ F X => mr δ (fun ds => match ds with
  | [.lst as, .lst bs] => F (List.zipWith (fun a b => D.tup [a, b]) as bs)
  | _ => False) X
theorem di_zipK {e2 : Expr} (hg : Gl X "zip") (hm : X.mg "zip" = none) (ha : DA X c W [e, e2] tr mr) (hs : starEach [e, e2] X.env = (false, eval e X.env) :: starEach [e2] X.env := by rfl) (hpl : (backTo pos (starEach [e2] X.env)).any (·.1) = false := by rfl) :
    DI X c W (.Tuple elts kk tpos) (.Call (.Name "zip" p) [e, e2] [] pos) (iZip X.K tr) (miZipK mr) := by
  refine ⟨pi_zip hg hm ha.p hs hpl, fun H G σ δ F Y R cr rs h q x => ?_⟩
  refine ha.w H G σ δ _ _ _ cr rs h (fun vs ds H1 G1 g1 r1 h1 => ?_) x
  split at h1
  · obtain ⟨u, v, rfl, ru, rv⟩ := r1.two
    obtain ⟨a, xs, rfl, g2, r2⟩ := ru.lst_of
    obtain ⟨b, ys, rfl, g3, r3⟩ := rv.lst_of
    exact ⟨a, b, xs, ys, rfl, SqL.of (g1.sub _ _ g2), SqL.of (g1.sub _ _ g3), q _ _ H1 G1 g1 (walk_zipK g2 r2 g3 r3) h1⟩
  · exact h1.elim
/-- a, b, d = x, y, z -/
def msPar3 (i j l : Nat) (ma : MA) : MS := fun δ k => ma δ (fun ds => match ds with
  | [d, e, f] => k.nx (((δ.set i (.dat d)).set j (.dat e)).set l (.dat f))
  | _ => False) (fun x => k.rs x δ)
theorem ds_par3 (i j l : Nat) {x y z : Str} {px py pz pt : Pos} {kt k2 pt2} (hc : X.calm = true) (hN : X.N.Nodup) (hi : X.N[i]? = some x) (hj : X.N[j]? = some y) (hl : X.N[l]? = some z) (hij : i ≠ j) (hil : i ≠ l) (hjl : j ≠ l)
    (hx : X.env.scope.names.lookup x = some .local) (hy : X.env.scope.names.lookup y = some .local) (hz : X.env.scope.names.lookup z = some .local) (ha : DA X c W [a, b, d] tr mr)
    (hw : swappedStores [.Tuple [.Name x px, .Name y py, .Name z pz] kt pt] (.Tuple [a, b, d] k2 pt2) X.env = pure (some [x, y, z]) := by rfl)
    (hs : swapsWithSole [.Tuple [.Name x px, .Name y py, .Name z pz] kt pt] (.Tuple [a, b, d] k2 pt2) pos.line X.env = pure false := by rfl) :
    DS X c W (.Assign [.Tuple [.Name x px, .Name y py, .Name z pz] kt pt] (.Tuple [a, b, d] k2 pt2) pos) (tPar3 i j l tr) (msPar3 i j l mr) := by
  refine ⟨ps_par3 hc hN hi hj hl hij hil hjl hx hy hz ha.p hw hs, fun H G σ δ k Y cr rs h en => ?_⟩
  refine ha.w H G σ δ _ _ _ cr rs h (fun vs ds H1 G1 g1 r1 h1 => ?_) (en.xw cr rs)
  split at h1
  · cases r1 with
    | cons q1 r1 =>
      cases r1 with
      | cons q2 r1 =>
        cases r1 with
        | cons q3 r1 =>
          cases r1
          exact ⟨_, _, _, rfl, en.nx _ _ H1 G1 (cr.step g1) ((((rs.step cr g1).set i q1).set j q2).set l q3) g1.grow h1⟩
  · exact h1.elim
end
end DL

set_option Elab.async false
set_option linter.all false
set_option maxRecDepth 100000
set_option maxHeartbeats 4000000
namespace DL
open PySem L2 PySem.Spec PyProof.Rows
/-- a comprehension over a list that is made of others, with tests, names bound in any way -/
theorem lcD_gA {α : Type} {mg : MG} {mt : MT} {me : ME} {δ : List Sl} {F : List D → Prop} (g : α → D) (gd : α → List Sl) (p : α → Bool) (f : α → D) : ∀ (ss : List α) (acc : List D),
    (∀ s ∈ ss, (∀ F' : List Sl → Prop, F' (gd s) → mg (g s) δ F') ∧ (∀ F' : Bool → Prop, F' (p s) → mt (gd s) F' (fun _ => False)) ∧ (p s = true → ∀ F' : D → Prop, F' (f s) → me (gd s) F' (fun _ => False))) →
    F (acc ++ (ss.filter p).map f) → lcD mg mt me δ F (ss.map g) acc
  | [], acc, _, h => by
    rw [List.filter_nil, List.map_nil, List.append_nil] at h
    exact h
  | s :: ss, acc, hs, h => by
    obtain ⟨h1, h2, h3⟩ := hs s (List.mem_cons_self ..)
    refine h1 _ (h2 _ ?_)
    cases e : p s with
    | true =>
      rw [List.filter_cons_of_pos e, List.map_cons] at h
      show (if true = true then me (gd s) (fun r => lcD mg mt me δ F (ss.map g) (acc ++ [r])) (fun _ => False) else lcD mg mt me δ F (ss.map g) acc)
      rw [if_pos rfl]
      exact h3 e _ (lcD_gA g gd p f ss _ (fun t m => hs t (List.mem_cons_of_mem _ m)) (by rw [List.append_assoc]; exact h))
    | false =>
      rw [List.filter_cons_of_neg (by rw [e]; decide)] at h
      show (if false = true then me (gd s) (fun r => lcD mg mt me δ F (ss.map g) (acc ++ [r])) (fun _ => False) else lcD mg mt me δ F (ss.map g) acc)
      rw [if_neg (by decide)]
      exact lcD_gA g gd p f ss _ (fun t m => hs t (List.mem_cons_of_mem _ m)) h
theorem cut_take {α : Type} {xs : List α} {j : Int} (h : 0 ≤ j) : cutD xs none (some j) = xs.take j.toNat := by
  unfold cutD
  have e1 : HT.sIx xs.length 0 none = 0 := rfl
  have e2 : HT.sIx xs.length xs.length (some j) = min j.toNat xs.length := by
    unfold HT.sIx
    dsimp only
    split <;> omega
  rw [e1, e2, List.drop_zero, Nat.sub_zero]
  rcases Nat.le_total j.toNat xs.length with q | q
  · rw [Nat.min_eq_left q]
  · rw [Nat.min_eq_right q, List.take_of_length_le (Nat.le_refl _), List.take_of_length_le q]
theorem cut_drop {α : Type} {xs : List α} {j : Int} (h : 0 ≤ j) : cutD xs (some j) none = xs.drop j.toNat := by
  unfold cutD
  have e1 : HT.sIx xs.length xs.length none = xs.length := rfl
  have e2 : HT.sIx xs.length 0 (some j) = min j.toNat xs.length := by
    unfold HT.sIx
    dsimp only
    split <;> omega
  rw [e1, e2]
  rcases Nat.le_total j.toNat xs.length with q | q
  · rw [Nat.min_eq_left q, List.take_of_length_le (by rw [List.length_drop]; omega)]
  · rw [Nat.min_eq_right q, List.drop_of_length_le q, List.drop_of_length_le (Nat.le_refl _), List.take_nil]
theorem inD_strs (x : Str) : ∀ xs : List Str, inD (.str x) (xs.map .str) = decide (x ∈ xs)
  | [] => rfl
  | y :: xs => by
    show (eqD (.str y) (.str x) || inD (.str x) (xs.map .str)) = _
    rw [inD_strs x xs]
    have e : eqD (.str y) (.str x) = decide (y = x) := rfl
    rw [e]
    by_cases h : y = x
    · subst h
      simp
    · have h' : ¬ x = y := fun z => h z.symm
      simp [h, h']
theorem flat_strs (xs : List Str) : (xs.map D.str).all flatD = true := List.all_eq_true.mpr fun d hd => by
  obtain ⟨x, _, rfl⟩ := List.mem_map.mp hd
  rfl
theorem perm_strs {l : List D} {xs : List Str} (h : l.Perm (xs.map .str)) : ∃ ys : List Str, l = ys.map D.str ∧ ys.Perm xs := by
  have un : ∀ zs : List Str, (zs.map D.str).map (fun d => match d with
    | .str z => z
    | _ => "") = zs := fun zs => by
    rw [List.map_map]
    exact List.map_id zs
  refine ⟨l.map (fun d => match d with
    | .str z => z
    | _ => ""), ?_, ?_⟩
  · rw [List.map_map]
    refine (List.map_id l).symm.trans (List.map_congr_left fun d hd => ?_)
    obtain ⟨z, _, rfl⟩ := List.mem_map.mp (h.subset hd)
    rfl
  · have := h.map (fun d => match d with
      | .str z => z
      | _ => ("" : Str))
    rwa [un] at this
end DL

set_option Elab.async false
set_option linter.all false
set_option maxRecDepth 100000
set_option maxHeartbeats 4000000
namespace DL
open PySem L2 PySem.Spec PyProof.Rows
/-! ### == of two tuples of objects, where each == says True -/
section
variable {X : Cx} {k : Nat} {good : Addr → Prop} {ff : Addr → FF}
def ownP (K : Fg) (good : Addr → Prop) (ff : Addr → FF) (d e : D) : Prop := ∃ C fs C' gs, d = .obj C fs ∧ e = .obj C' gs ∧ good C ∧ PySem.W.notFirst K C (.ref C') = true ∧ ∀ F : D → Prop, F (.bl true) → ff C [d, e] F (fun _ => False)
def DOwn (K : Fg) (good : Addr → Prop) (ff : Addr → FF) : Eqv := fun x y H => ∃ (G : Hp) (d e : D), Same G H ∧ Rep K G x d ∧ Rep K G y e ∧ ownP K good ff d e
theorem mon_own {K : Fg} : Mon (DOwn K good ff) := fun x y H H' x1 d => by
  obtain ⟨G, d, e, s, h⟩ := d
  exact ⟨G, d, e, fun a o q => x1 a o (s a o q), h⟩
theorem rcG_own (M : OwnM X.prog X.w X.K X.mg X.base good "__eq__" k 2 ff) : RcG X k (DOwn X.K good ff) := by
  intro A pins s σ H x y u v sb I rx ry d
  obtain ⟨G, d, e, sm, r1, r2, C, fs, C', gs, rfl, rfl, hC, hn, f⟩ := d
  obtain ⟨a, dx, fv, rfl, ha, _⟩ := id r1.obj_of
  obtain ⟨f0, fd, ps, hs, tf, hb, FO⟩ := M.ok C hC
  cases (show u = Value.ref a from rx)
  obtain ⟨mA, J, _⟩ := ins_get I.hok (sm _ _ ha)
  obtain ⟨od, J, _⟩ := J.look
  obtain ⟨m, hF⟩ := I.fr
  refine PySem.W.cmp_K (op := .Eq) (tb := .ref C') sb.room.units0 hF I.ok.mod.kin J (lk_ty (d := .obj C' gs) I sm r2 ry rfl) hn hs (typeIn_isFn tf) ?_
  have hsp : spD X.K 2 false (ff C) [.ref a, y] H (fun w H' => w = .bl true ∧ Ext H H') (fun _ _ _ => False) :=
    ⟨G, [.obj C fs, .obj C' gs], none, _, fun r => r = .bl true, fun _ => False, rfl, ⟨rfl, rfl⟩, sm, .no, .cons r1 (.cons r2 .nil), f _ rfl, fun w d H' G' g r h => ⟨by subst h; exact r.bl_of, fun b o q => g.keep b o q .non⟩, fun _ _ _ _ _ _ _ z => z⟩
  refine wpAny_mono (run_at (E := X.xe) (A := A) FO sb.room sb.fr hb I (vs := [.ref a, y]) (us := [.ref a, v]) (.cons rfl (.cons ry .nil)) hsp) (fun w s' hq => ?_) fun _ _ z => z
  obtain ⟨z, H', I', rz, rfl, x1⟩ := hq
  cases (show w = Value.bool true from rz)
  exact ⟨rfl, H', I', x1⟩
def gEqT (K : Fg) (good : Addr → Prop) (ff : Addr → FF) (d e : D) (F : D → Prop) : Prop := ∃ ss ts, d = .tup ss ∧ e = .tup ts ∧ ss.length = ts.length ∧ (∀ (i : Nat) a b, ss[i]? = some a → ts[i]? = some b → ownP K good ff a b) ∧ F (.bl true)
theorem op_eqT (M : OwnM X.prog X.w X.K X.mg X.base good "__eq__" k 2 ff) (hr : Room (k + 1) X.A) : OpR X (compareOp .Eq) (rEqG (DTup X.K (DOwn X.K good ff))) :=
  op_eqG (n := k + 1) (rcG_tup mon_own ((rcG_own M).eqG fun x y H d => by
    obtain ⟨G, d, e, sm, r1, r2, C, fs, C', gs, rfl, rfl, _⟩ := d
    obtain ⟨a, _, _, rfl, _⟩ := r1.obj_of
    obtain ⟨b, _, _, rfl, _⟩ := r2.obj_of
    exact ⟨a, b, rfl, rfl⟩)) hr
theorem rd_eqT {K : Fg} : RD K (rEqG (DTup K (DOwn K good ff))) (gEqT K good ff) := fun H G x y d e F Q s rx ry h q => by
  obtain ⟨ss, ts, rfl, rfl, hl, hp, f⟩ := h
  obtain ⟨a, xs, rfl, h1, r1⟩ := rx.tup_of
  obtain ⟨b, ys, rfl, h2, r2⟩ := ry.tup_of
  refine ⟨⟨a, b, xs, ys, rfl, rfl, same_t s h1, same_t s h2, ?_, fun i x y hx hy => ?_⟩, fun H' x1 => ?_⟩
  · rw [r1.length, r2.length, hl]
  · obtain ⟨d, e1, q1⟩ := r1.got hx
    obtain ⟨e, e2, q2⟩ := r2.got hy
    exact ⟨G, d, e, s, q1, q2, hp i d e e1 e2⟩
  · exact q (.bl true) _ H' G ⟨fun a o h _ => x1 a o h, Same.refl _, fun a o h => x1 a o (s a o h), fun a o h => .inl h, .no⟩ (.bl true) f
end
end DL

set_option Elab.async false
set_option linter.all false
set_option maxRecDepth 100000
set_option maxHeartbeats 4000000
namespace DL
open PySem L2 PySem.Spec PyProof.Rows
section
variable {X : Cx} {c : Ct} {W : WX} {K : Fg} {t a b : Expr} {pos : Pos} {p : MT} {ma mb : MA} {tp : TT} {ta tb : TE}
/-- a new list, one of two -/
def moIf (p : MT) (ma mb : MA) : MA := fun δ F X => p δ (fun z => if z = true then ma δ F X else mb δ F X) X
theorem oe_if (ht : DT X c W t tp p) (ha : OE X c W a ta ma) (hb : OE X c W b tb mb) : OE X c W (.IfExp t a b pos) (tIf tp ta tb) (moIf p ma mb) := by
  obtain ⟨pt, wt⟩ := ht
  obtain ⟨pa, wa⟩ := ha
  obtain ⟨pb, wb⟩ := hb
  refine ⟨pe_ifExp pt pa pb, fun H G σ δ F X Q cr rs hm q x => ?_⟩
  refine wt H G σ δ _ X _ cr rs hm (fun z H1 G1 g1 f => ?_) x
  cases z with
  | true => exact wa H1 G1 σ δ F X Q (cr.step g1) (rs.step cr g1) f (fun p xs ds H2 G2 g2 h1 h2 h3 r f2 => q p xs ds H2 G2 (g1.trans g2) h1 h2 (g1.back cr.dlok h3) r f2) (x.step g1)
  | false => exact wb H1 G1 σ δ F X Q (cr.step g1) (rs.step cr g1) f (fun p xs ds H2 G2 g2 h1 h2 h3 r f2 => q p xs ds H2 G2 (g1.trans g2) h1 h2 (g1.back cr.dlok h3) r f2) (x.step g1)
end
/-- a loop over a list that is made of others, by what is done of it -/
theorem forD_map {α : Type} {mg : MG} {mb : MS} {k : MK} (g : α → D) (I : List α → List Sl → Prop) (all : List α) : ∀ (ss dn : List α) (δ : List Sl), dn ++ ss = all → (∀ s dn rest δ, dn ++ s :: rest = all → I dn δ → ∀ k' : MK, (∀ δ2, I (dn ++ [s]) δ2 → k'.nx δ2) → k'.rt = k.rt → k'.rs = k.rs → mg (g s) δ fun δ' => mb δ' k') → I dn δ → (∀ δ, I all δ → k.nx δ) → forD mg mb (ss.map g) δ k
  | [], dn, δ, e, _, i, f => f δ (by rw [List.append_nil] at e; rw [← e]; exact i)
  | s :: ss, dn, δ, e, h, i, f => by
    refine h s dn ss δ e i _ (fun δ2 i2 => ?_) rfl rfl
    exact forD_map g I all ss (dn ++ [s]) δ2 (by rw [List.append_assoc]; exact e) h i2 f
end DL

set_option Elab.async false
set_option linter.all false
set_option maxRecDepth 100000
set_option maxHeartbeats 4000000
namespace DL
open PySem L2 PySem.Spec PyProof.Rows
section
variable {X : Cx} {c : Ct} {W : WX} {a b : Expr} {pos : Pos} {ma mb : ME} {ta tb : TE}
/-- a new list, put together of two -/
def moCat (ma mb : ME) : MA := fun δ F X => ma δ (fun d => mb δ (fun e => match d, e with
  | .lst xs, .lst ys => xs.length + ys.length ≤ sizeLine ∧ F (xs ++ ys)
  | _, _ => False) X) X
theorem oe_cat (ha : DE X c W a ta ma) (hb : DE X c W b tb mb) : OE X c W (.BinOp a .Add b pos) (tOp rCat ta tb) (moCat ma mb) := by
  refine ⟨pe_op op_cat ha.p hb.p, fun H G σ δ F Y Q cr rs h q x => ?_⟩
  refine ha.w H G σ δ _ Y _ cr rs h (fun v d H1 G1 g1 r1 h1 => ?_) x
  refine hb.w H1 G1 σ δ _ Y _ (cr.step g1) (rs.step cr g1) h1 (fun u e H2 G2 g2 r2 h2 => ?_) (x.step g1)
  have r1 := r1.mono g2.grow
  split at h2
  · rename_i xs ys
    obtain ⟨p1, vs, rfl, k1, q1⟩ := r1.lst_of
    obtain ⟨p2, us, rfl, k2, q2⟩ := r2.lst_of
    have g := g1.trans g2
    refine ⟨p1, p2, vs, us, rfl, rfl, g2.sub _ _ k1, g2.sub _ _ k2, by rw [q1.length, q2.length]; exact h2.1, fun l hl => ?_⟩
    exact q l _ _ _ G2 (g.trans ((Go.mine g2.sub hl).lift g2.deal)) upd_same (nfree g2 hl) (g.back cr.dlok hl) (q1.append q2) h2.2
  · exact h2.elim
end
end DL

set_option Elab.async false
set_option linter.all false
set_option maxRecDepth 100000
set_option maxHeartbeats 4000000
namespace XS
open PySem L2 PySem.Spec PyProof.Rows
/-! Sets of objects that are keys by what they hold (tuples of texts), fewer than 64: what is laid, found, added. -/
section
variable {P : Program} {w : World} {K : Type} [DecidableEq K]
/-- what else is asked of such keys -/
structure Calm (kd : HeapKind P w K) : Prop where
  stays : ∀ {h h' : Heap} {k : K} {a : Addr}, (∀ b o, h.get? b = some o → h'.get? b = some o) → kd.is h k a → kd.is h' k a
  apart : ∀ {h h' : Heap} {k : K} {a d : Addr} {o : Obj} {es : Array (Int × Value)} {ep : Nat} {t : SetTable}, h.get? d = some o → o.data = .set es ep t → Heap.SameBut d h h' → kd.is h k a → kd.is h' k a
  cls : ∀ {A : Around} {E : Value → Shared → Prop} {s : Shared} {k : K} {a : Addr} {Q : Bool → Shared → Prop}, kd.is s.heap k a → Q false s → wpAny (model P w) A (ofAClassStatement 8 (.ref a)) Q E s
  byv : ∀ {A : Around} {E : Value → Shared → Prop} {s : Shared} {k : K} {a : Addr} {Q : Bool → Shared → Prop}, kd.is s.heap k a → (∀ b, Q b s) → wpAny (model P w) A (hashByValue 8 (.ref a)) Q E s
/-- one stored thing -/
abbrev Cell (K : Type) := Addr × K
def lay (kd : HeapKind P w K) (c : Cell K) : Int × Value := (kd.hash c.2, .ref c.1)
structure On (kd : HeapKind P w K) (h : Heap) (a : Addr) (L : List (Cell K)) (es : Array (Int × Value)) (ep : Nat) (t : SetTable) : Prop where
  obj : ∃ o, h.get? a = some o ∧ o.ExactSet ∧ o.data = .set es ep t
  laid : es.toList = L.map (lay kd)
  tab : TabOk t (L.map fun c => kd.hash c.2)
  one : (L.map (·.2)).Nodup
  keys : ∀ c ∈ L, kd.is h c.2 c.1
  led : w.params.followText "set-order" = true ∨ t.led = true
  wide : L.length * 5 < t.mask * 3
  few : L.length < 64
variable {kd : HeapKind P w K} {A : Around} {E : Value → Shared → Prop} {s : Shared} {a : Addr} {L : List (Cell K)} {es : Array (Int × Value)} {ep : Nat} {t : SetTable}
theorem laid_size (h : es.toList = L.map (lay kd)) : es.size = L.length := by
  have := congrArg List.length h
  rwa [List.length_map, Array.length_toList] at this
theorem laid_at (h : es.toList = L.map (lay kd)) {i : Nat} {c : Cell K} (hc : L[i]? = some c) : es[i]? = some (lay kd c) := by
  rw [← Array.getElem?_toList, h, List.getElem?_map, hc]
  rfl
theorem fit_of (hs : t.place.size = es.size) (hd : t.dummies = #[]) (hm : es.size ≤ t.mask) : t.fits es.size = true := by
  unfold SetTable.fits SetTable.fill
  rw [hd]
  simp [hs, hm]
theorem On.n (R : On kd s.heap a L es ep t) : t.place.size = L.length := by
  have := R.tab.sz
  rwa [List.length_map] at this
theorem On.fit (R : On kd s.heap a L es ep t) : t.fits es.size = true := by
  have h1 := laid_size R.laid
  have h2 := R.n
  have h3 := R.wide
  exact fit_of (h2.trans h1.symm) R.tab.dm (by omega)
/-- the probe at a step of the way -/
def at_ (t : SetTable) (hh : Int) (c : Nat) : SetTable.Probe := nth t.mask (t.probeStart hh) c
theorem at_j (t : SetTable) (hh : Int) (c : Nat) : (at_ t hh c).j = way t.mask hh c := rfl
theorem at_add (t : SetTable) (hh : Int) (c q : Nat) : nth t.mask (at_ t hh c) q = at_ t hh (c + q) := (nth_add t.mask c _ q).symm
theorem dummy_nth (m : Nat) : ∀ (n : Nat) (p : SetTable.Probe), p.dummy = none → (nth m p n).dummy = none
  | 0, _, h => h
  | n + 1, p, h => dummy_nth m n (adv m p) (by unfold adv; split <;> exact h)
theorem at_dummy (t : SetTable) (hh : Int) (c : Nat) : (at_ t hh c).dummy = none := dummy_nth _ _ _ rfl
/-- among such keys a search can't be seen -/
theorem unseen (C : Calm kd) {k : K} {b : Addr} {Q : Bool → Shared → Prop} (hk : kd.is s.heap k b) {ys : List Value} (hy : ∀ y ∈ ys, ∃ c : Cell K, y = Value.ref c.1 ∧ kd.is s.heap c.2 c.1) (q : Q false s) : wpAny (model P w) A (searchCouldBeSeen (.ref b) ys) Q E s := by
  unfold searchCouldBeSeen
  refine wpAny_bind (wpAny_forIn_list _ (fun more r z => r.1 = none ∧ z = s ∧ ∀ y ∈ more, ∃ c : Cell K, y = Value.ref c.1 ∧ kd.is s.heap c.2 c.1) _ ?_ ?_ _ _ ⟨rfl, rfl, hy⟩)
  · rintro v more r z ⟨hr, rfl, al⟩
    obtain ⟨c, rfl, hc⟩ := al v (List.mem_cons_self ..)
    have al2 : ∀ y ∈ more, ∃ c : Cell K, y = Value.ref c.1 ∧ kd.is z.heap c.2 c.1 := fun u hu => al u (List.mem_cons_of_mem _ hu)
    dsimp only
    by_cases e : (b == c.1 || (carriedByValue (.ref b) && carriedByValue (.ref c.1))) = true
    · exact wp_if_pos e (wpAny_pure ⟨rfl, rfl, al2⟩)
    · refine wp_if_neg e (wpAny_bind (kd.quiet hk ?_))
      simp only [Bool.not_true, Bool.false_eq_true, if_false]
      refine wpAny_bind (kd.quiet hc ?_)
      simp only [Bool.not_true, Bool.false_eq_true, if_false]
      refine wpAny_bind (C.cls hk ?_)
      simp only [Bool.false_eq_true, if_false]
      refine wpAny_bind (C.cls hc ?_)
      simp only [Bool.false_eq_true, if_false]
      exact wpAny_pure ⟨rfl, rfl, al2⟩
  · rintro ⟨r1, r2⟩ z ⟨hr, rfl, _⟩
    dsimp only at hr
    subst hr
    exact wpAny_pure q
end
end XS

set_option Elab.async false
set_option linter.all false
set_option maxRecDepth 100000
set_option maxHeartbeats 4000000
namespace XS
open PySem L2 PySem.Spec PyProof.Rows
section
variable {P : Program} {w : World} {K : Type} [DecidableEq K] {kd : HeapKind P w K} {A : Around} {E : Value → Shared → Prop} {s : Shared} {a : Addr} {L : List (Cell K)} {es : Array (Int × Value)} {ep : Nat} {t : SetTable}
/-- the hash that is kept beside the i-th thing -/
def hat (es : Array (Int × Value)) : Nat → Int := fun i => (es[i]?.map (·.1)).getD 0
theorem hat_at (h : es.toList = L.map (lay kd)) {i : Nat} {c : Cell K} (hc : L[i]? = some c) : hat es i = kd.hash c.2 := by
  unfold hat
  rw [laid_at h hc]
  rfl
theorem On.gave (R : On kd s.heap a L es ep t) : ¬ t.gaveWay = true := by
  unfold SetTable.gaveWay
  rw [mask_odd R.tab.mok]
  decide
theorem On.in_row (R : On kd s.heap a L es ep t) {i j : Nat} (h : t.place.toList[i]? = some j) : i < L.length := by
  have h1 := (List.getElem?_eq_some_iff.mp h).1
  rw [Array.length_toList, R.n] at h1
  exact h1
theorem On.same_slot (R : On kd s.heap a L es ep t) {i i' j : Nat} (h : t.place.toList[i]? = some j) (h' : t.place.toList[i']? = some j) : i = i' := by
  have e := (slot_live R.tab.ris h).symm.trans (slot_live R.tab.ris h')
  injection e
/-- all things with the key stand on the way from the c-th step on, ahead of the M-th one -/
def Ahead (kd : HeapKind P w K) (L : List (Cell K)) (t : SetTable) (k : K) (M c : Nat) : Prop := ∀ (i : Nat) (z : Cell K), L[i]? = some z → z.2 = k → ∃ d, c ≤ d ∧ d < M ∧ t.place.toList[i]? = some (way t.mask (kd.hash k) d)
theorem On.seek (C : Calm kd) (R : On kd s.heap a L es ep t) {x : Addr} {k : K} (hx : kd.is s.heap k x) (hu : kd.room A) {M : Nat} (few : M < 10 * SetTable.turns t.mask)
    (free : way t.mask (kd.hash k) M ∉ t.place.toList) (full : ∀ c, c < M → way t.mask (kd.hash k) c ∈ t.place.toList) {Q : SetFound → Shared → Prop}
    (yes : k ∈ L.map (·.2) → Q (.there none) s) (no : k ∉ L.map (·.2) → Q (.free (way t.mask (kd.hash k) M) false) s) :
    ∀ (f c : Nat) (st : Option SetTable.Probe), c ≤ M → M - c < f → st.getD (t.probeStart (kd.hash k)) = at_ t (kd.hash k) c → Ahead kd L t k M c → wpAny (model P w) A (setSearchFrom a (.ref x) (kd.hash k) true f st) Q E s := by
  intro f
  induction f with
  | zero => intro c st _ h; exact absurd h (Nat.not_lt_zero _)
  | succ f ih =>
    intro c st hc hf hst ahead
    obtain ⟨o, ho, _, hd⟩ := R.obj
    rw [setSearchFrom_succ]
    refine wpAny_bind (wpAny_setState_of ho hd R.fit ?_)
    dsimp only
    refine wp_if_neg R.gave ?_
    try refine wpAny_bind (wpAny_pure ?_)
    have sp := go_spec t R.tab.ris R.tab.dm (hat es) (kd.hash k) (10 * SetTable.turns t.mask) (M - c) (at_ t (kd.hash k) c) (at_dummy ..) (by omega)
      (fun q hq => by rw [at_add, at_j]; exact full (c + q) (by omega)) (by rw [at_add, at_j, Nat.add_sub_cancel' hc]; exact free)
    simp only [at_add, at_j] at sp
    rw [hst]
    rcases sp with ⟨q, i, hq, hi, hh, hno, hp⟩ | ⟨hno, hp⟩
    · rw [show t.probe (fun i => (es[i]?.map (·.1)).getD 0) (kd.hash k) (at_ t (kd.hash k) c) = some (.candidate (way t.mask (kd.hash k) (c + q)) i (at_ t (kd.hash k) (c + (q + 1)))) from hp]
      dsimp only
      have il := R.in_row hi
      obtain ⟨z, hz⟩ : ∃ z, L[i]? = some z := ⟨_, List.getElem?_eq_getElem il⟩
      have zm := List.mem_of_getElem? hz
      have go : wpAny (model P w) A (searchRest a (.ref x) (kd.hash k) true f es t (way t.mask (kd.hash k) (c + q)) i (at_ t (kd.hash k) (c + (q + 1)))) Q E s := by
        unfold searchRest
        rw [laid_at R.laid hz]
        dsimp only [lay]
        refine wpAny_bind (wpAny_holding (kd.eqBool hu (R.keys z zm) hx ?_))
        refine wpAny_bind (wpAny_setState_of ho hd R.fit ?_)
        dsimp only
        by_cases e : z.2 = k
        · exact wp_if_pos (by simp [e]) (wpAny_pure (yes (List.mem_map.mpr ⟨z, zm, e⟩)))
        · refine wp_if_neg (by simp [e]) ?_
          try refine wpAny_bind (wpAny_pure ?_)
          rw [sameMem]
          dsimp only
          simp only [if_true, slot_live R.tab.ris hi, laid_at R.laid hz, lay]
          refine wpAny_bind (wpAny_isSame_ref_self (wpAny_bind (wpAny_pure ?_)))
          simp only [if_true]
          refine wp_if_neg (by simp [e]) (ih (c + (q + 1)) _ (by omega) (by omega) rfl fun i' y hy ky => ?_)
          obtain ⟨d, d1, d2, d3⟩ := ahead i' y hy ky
          have hk' : hat es i' = kd.hash k := (hat_at R.laid hy).trans (congrArg kd.hash ky)
          refine ⟨d, ?_, d2, d3⟩
          rcases Nat.lt_trichotomy d (c + q) with lt | eq | gt
          · exact absurd hk' (hno (d - c) i' (by omega) (by rw [Nat.add_sub_cancel' d1]; exact d3))
          · subst eq
            cases R.same_slot hi d3
            rw [hz] at hy
            cases hy
            exact absurd ky e
          · omega
      by_cases hl : t.led = true
      · refine wp_if_neg (by simp [hl]) ?_
        try refine wpAny_bind (wpAny_pure ?_)
        exact go
      · refine wp_if_pos (by simp [hl]) (wpAny_bind (unseen C hx (fun y hy => ?_) ?_))
        · obtain ⟨e, he, rfl⟩ := List.mem_map.mp hy
          have he : e ∈ es.toList := by
            have : e ∈ es ∧ e.1 = kd.hash k := by simpa using he
            simpa using this.1
          rw [R.laid] at he
          obtain ⟨y, ym, rfl⟩ := List.mem_map.mp he
          exact ⟨y, rfl, R.keys y ym⟩
        · refine wp_if_neg (by decide) ?_
          try refine wpAny_bind (wpAny_pure ?_)
          exact go
    · rw [show t.probe (fun i => (es[i]?.map (·.1)).getD 0) (kd.hash k) (at_ t (kd.hash k) c) = some (.empty (way t.mask (kd.hash k) (c + (M - c))) none) from hp]
      dsimp only
      rw [Nat.add_sub_cancel' hc]
      refine wpAny_pure (no fun hm => ?_)
      obtain ⟨y, ym, ky⟩ := List.mem_map.mp hm
      obtain ⟨i', hi', ey⟩ := List.getElem_of_mem ym
      have hy : L[i']? = some y := by rw [List.getElem?_eq_getElem hi', ey]
      obtain ⟨d, d1, d2, d3⟩ := ahead i' y hy ky
      exact hno (d - c) i' (by omega) (by rw [Nat.add_sub_cancel' d1]; exact d3) ((hat_at R.laid hy).trans (congrArg kd.hash ky))
/-- where a key is, or would be laid -/
theorem On.find (C : Calm kd) (R : On kd s.heap a L es ep t) {x : Addr} {k : K} (hx : kd.is s.heap k x) (hu : kd.room A) {Q : SetFound → Shared → Prop} (yes : k ∈ L.map (·.2) → Q (.there none) s)
    (no : ∀ M, k ∉ L.map (·.2) → way t.mask (kd.hash k) M ∉ t.place.toList → (∀ c, c < M → way t.mask (kd.hash k) c ∈ t.place.toList) → Q (.free (way t.mask (kd.hash k) M) false) s) :
    wpAny (model P w) A (setSearch a (.ref x) (kd.hash k) true) Q E s := by
  have hw := R.wide
  obtain ⟨M, m1, m2, m3⟩ := R.tab.first (by rw [List.length_map]; omega) (kd.hash k)
  have big : 10 * SetTable.turns t.mask ≤ 1420 := by
    unfold SetTable.turns
    rcases R.tab.mok with e | e | e <;> omega
  unfold setSearch
  refine R.seek C hx hu m1 m2 m3 yes (fun hn => no M hn m2 m3) 100000 0 none (Nat.zero_le _) (by omega) rfl fun i z hz kz => ?_
  have hi : (L.map fun c => kd.hash c.2)[i]? = some (kd.hash k) := by rw [List.getElem?_map, hz, ← kz]; rfl
  have il : i < t.place.toList.length := by
    rw [Array.length_toList, R.n]
    exact (List.getElem?_eq_some_iff.mp hz).1
  obtain ⟨d, d1, d2⟩ := R.tab.before m2 hi (List.getElem?_eq_getElem il)
  exact ⟨d, Nat.zero_le _, d1, by rw [List.getElem?_eq_getElem il, d2]⟩
end
end XS

set_option Elab.async false
set_option linter.all false
set_option maxRecDepth 100000
set_option maxHeartbeats 4000000
namespace XS
open PySem L2 PySem.Spec PyProof.Rows
section
variable {P : Program} {w : World} {K : Type} [DecidableEq K] {kd : HeapKind P w K} {A : Around} {E : Value → Shared → Prop} {s : Shared} {a : Addr} {L : List (Cell K)} {es : Array (Int × Value)} {ep : Nat} {t : SetTable}
/-! ### laid anew -/
theorem all_again {α : Type} (l : List α) : (List.range l.length).filterMap (fun i => l[i]?) = l := by
  have : ∀ n, n ≤ l.length → (List.range n).filterMap (fun i => l[i]?) = l.take n := by
    intro n
    induction n with
    | zero => intro _; rfl
    | succ n ih =>
      intro h
      rw [List.range_succ, List.filterMap_append, ih (Nat.le_of_lt h), List.take_succ, List.getElem?_eq_getElem h]
      simp [List.getElem?_eq_getElem h]
  rw [this _ (Nat.le_refl _), List.take_length]
theorem laid_opt (h : es.toList = L.map (lay kd)) (i : Nat) : es[i]? = (L[i]?).map (lay kd) := by rw [← Array.getElem?_toList, h, List.getElem?_map]
theorem reord (h : es.toList = L.map (lay kd)) (ord : Array Nat) (p : ord.toList.Perm (List.range L.length)) :
    ∃ L2 : List (Cell K), (ord.filterMap (es[·]?)).toList = L2.map (lay kd) ∧ L2.Perm L ∧ (L2.map fun c => kd.hash c.2) = ord.toList.map fun i => (es.map (·.1)).getD i 0 := by
  refine ⟨ord.toList.filterMap (fun i => L[i]?), ?_, ?_, ?_⟩
  · have e : (ord.filterMap (es[·]?)).toList = ord.toList.filterMap (fun i => es[i]?) := by simp
    rw [e, List.map_filterMap]
    congr 1
    funext i
    exact laid_opt h i
  · refine (p.filterMap _).trans ?_
    rw [all_again]
  · have hm : ∀ l : List Nat, (∀ i ∈ l, i < L.length) → ((l.filterMap fun i => L[i]?).map fun c => kd.hash c.2) = l.map fun i => (es.map (·.1)).getD i 0 := by
      intro l
      induction l with
      | nil => intro _; rfl
      | cons i l ih =>
        intro hl
        have hi := hl i (List.mem_cons_self ..)
        rw [List.filterMap_cons_some (List.getElem?_eq_getElem hi), List.map_cons, List.map_cons, ih fun j hj => hl j (List.mem_cons_of_mem _ hj)]
        have e : (es.map (·.1))[i]? = some (kd.hash (L[i]).2) := by
          rw [Array.getElem?_map, laid_opt h, List.getElem?_eq_getElem hi]
          rfl
        rw [Array.getD_eq_getD_getElem?, e]
        rfl
    exact hm _ fun i hi => List.mem_range.mp (p.mem_iff.mp hi)
/-- the larger table -/
theorem relay (C : Calm kd) {o : Obj} (ho : s.heap.get? a = some o) (hex : o.ExactSet) (hd : o.data = .set es ep t) (laid : es.toList = L.map (lay kd)) (sz : t.place.size = es.size) (dm : t.dummies = #[]) (le : es.size ≤ t.mask)
    (one : (L.map (·.2)).Nodup) (keys : ∀ c ∈ L, kd.is s.heap c.2 c.1) (led : w.params.followText "set-order" = true ∨ t.led = true) (few : L.length < 64) {n M : Nat} (hn : SetTable.sizeAbove n - 1 = M) (hM : MaskOk M)
    (h128 : SetTable.sizeAbove n ≤ 128) (wide : L.length * 5 < M * 3) {Q : Unit → Shared → Prop}
    (q : ∀ h' L' es' ep' t', Heap.SameBut a s.heap h' → On kd h' a L' es' ep' t' → L'.Perm L → Q () { s with heap := h' }) : wpAny (model P w) A (setRelay a n) Q E s := by
  have hs := laid_size laid
  obtain ⟨t', ord, e, hp, T, em, el, ep', ed⟩ := relaid_ok t (hs := es.map (·.1)) hn hM (by rw [Array.size_map, hs]; omega)
  rw [Array.size_map, hs] at hp
  obtain ⟨L2, l1, l2, l3⟩ := reord laid ord hp
  rw [← l3] at T
  have h2 : (ord.filterMap (es[·]?)).size = es.size := by rw [laid_size l1, l2.length_eq, hs]
  rw [setRelay_eq]
  refine wpAny_bind (wpAny_setState_of ho hd (fit_of sz dm le) ?_)
  dsimp only
  refine wp_if_neg (by rw [sizeLine_eq]; omega) ?_
  try refine wpAny_bind (wpAny_pure ?_)
  rw [e]
  dsimp only
  refine wpAny_bind (wp_if_neg (by rw [h2]; simp) ?_)
  try refine wpAny_bind (wpAny_pure ?_)
  refine wpAny_pure ?_
  dsimp only
  have sb : Heap.SameBut a s.heap (s.heap.update a (Obj.putSet (ord.filterMap (es[·]?)) t')) := Heap.SameBut.update ..
  refine wpAny_storeSet_of ho hd (q _ L2 _ _ t' sb ⟨⟨_, store_at ho hd, ⟨hex.1, hex.2.1, hex.2.2⟩, rfl⟩, l1, T, (l2.map (·.2)).nodup_iff.mpr one, fun c hc => C.apart ho hd sb (keys c (l2.mem_iff.mp hc)), by rw [el]; exact led, ?_, ?_⟩ l2) (by rw [h2, hs, sizeLine_eq]; omega)
  · rw [l2.length_eq, em]
    exact wide
  · rw [l2.length_eq]
    exact few
/-! ### added -/
theorem On.add (C : Calm kd) (R : On kd s.heap a L es ep t) {x : Addr} {k : K} (hx : kd.is s.heap k x) (hu : kd.room A) (few : L.length + 1 < 64) {Q : Bool → Shared → Prop}
    (q : ∀ b h' L' es' ep' t', Heap.SameBut a s.heap h' → On kd h' a L' es' ep' t' → (k ∈ L.map (·.2) → L' = L) → (k ∉ L.map (·.2) → L'.Perm ((x, k) :: L)) → Q b { s with heap := h' }) :
    wpAny (model P w) A (setAddHashed a (.ref x) (kd.hash k)) Q E s := by
  obtain ⟨o, ho, hex, hd⟩ := R.obj
  have hs := laid_size R.laid
  have hw := R.wide
  unfold setAddHashed
  refine wpAny_holding ?_
  rw [show (100000 : Nat) = 99999 + 1 from rfl, setAddHashedIn_succ]
  refine wpAny_bind (wpAny_setState_of ho hd R.fit ?_)
  dsimp only
  refine wp_if_neg (by simp [byScan, Value.scannable]) ?_
  try refine wpAny_bind (wpAny_pure ?_)
  refine wpAny_bind (R.find C hx hu (fun hm => ?_) fun M hm m1 m2 => ?_)
  · exact wpAny_pure (q false s.heap L es ep t (Heap.SameBut.refl a s.heap) R (fun _ => rfl) fun z => absurd hm z)
  dsimp only
  refine wpAny_bind (wpAny_setState_of ho hd R.fit ?_)
  dsimp only
  obtain ⟨b1, b2, b3, b4, b5, _, _, _, b9⟩ := R.tab.put m1 m2
  have tf : ∀ u : SetTable, u.mask = t.mask → u.fill = L.length + 1 → u.tooFull = decide (t.mask * 3 ≤ (L.length + 1) * 5) := fun u h1 h2 => by
    unfold SetTable.tooFull
    rw [h1, h2]
  generalize t.put (way t.mask (kd.hash k) M) = pt at b1 b3 b4 b5 b9 ⊢
  obtain ⟨t1, p⟩ := pt
  dsimp only at b1 b3 b4 b5 b9 ⊢
  subst b1
  rw [List.length_map] at b2 b9
  generalize SetTable.below t.place (way t.mask (kd.hash k) M) = p at b2 b3 ⊢
  have pm := put_perm L p (x, k)
  have lin : (SetTable.insertAt es p (kd.hash k, Value.ref x)).toList = (L.take p ++ (x, k) :: L.drop p).map (lay kd) := by
    rw [SetTable.toList_insertAt, R.laid, List.map_append, List.map_cons, List.map_take, List.map_drop]
    rfl
  have hsh : (L.take p ++ (x, k) :: L.drop p).map (fun c => kd.hash c.2) = (L.map fun c => kd.hash c.2).take p ++ kd.hash k :: (L.map fun c => kd.hash c.2).drop p := by
    rw [List.map_append, List.map_cons, List.map_take, List.map_drop]
  rw [← hsh] at b3
  generalize L.take p ++ (x, k) :: L.drop p = L1 at pm lin b3
  generalize SetTable.insertAt es p (kd.hash k, Value.ref x) = es1 at lin ⊢
  have hl : L1.length = L.length + 1 := pm.length_eq
  have hs1 : es1.size = L.length + 1 := (laid_size lin).trans hl
  have one1 : (L1.map (·.2)).Nodup := (pm.map (·.2)).nodup_iff.mpr (List.nodup_cons.mpr ⟨hm, R.one⟩)
  have go : ∀ t2 : SetTable, TabOk t2 (L1.map fun c => kd.hash c.2) → t2.mask = t.mask → t2.led = t.led → t2.fill = L.length + 1 →
      wpAny (model P w) A (do
        storeSet a es1 t2
        if (!false && t2.tooFull) = true then do
            setRelay a (SetTable.grown (es.size + 1))
            pure true
          else pure true) Q E s := fun t2 b3 b4 b5 b9 => by
    have full := tf t2 b4 b9
    have led1 : w.params.followText "set-order" = true ∨ t2.led = true := by rw [b5]; exact R.led
    refine wpAny_bind (wpAny_storeSet_of ho hd ?_ (by rw [hs1, sizeLine_eq]; omega))
    have sb : Heap.SameBut a s.heap (s.heap.update a (Obj.putSet es1 t2)) := Heap.SameBut.update ..
    have ho1 := store_at (es' := es1) (t' := t2) ho hd
    generalize s.heap.update a (Obj.putSet es1 t2) = h1 at sb ho1 ⊢
    have keys1 : ∀ c ∈ L1, kd.is h1 c.2 c.1 := fun c hc => by
      rcases List.mem_cons.mp (pm.mem_iff.mp hc) with rfl | hc
      · exact C.apart ho hd sb hx
      · exact C.apart ho hd sb (R.keys c hc)
    have sz1 : t2.place.size = es1.size := by
      have := b3.sz
      rw [List.length_map, hl] at this
      exact this.trans hs1.symm
    by_cases hf : t.mask * 3 ≤ (L.length + 1) * 5
    · have far : ∀ M', SetTable.sizeAbove (SetTable.grown (L.length + 1)) - 1 = M' → MaskOk M' → SetTable.sizeAbove (SetTable.grown (L.length + 1)) ≤ 128 → (L.length + 1) * 5 < M' * 3 → L.length + 1 ≤ t.mask →
          wpAny (model P w) A (setRelay a (SetTable.grown (L.length + 1))) (fun _ z => wpAny (model P w) A (pure true) Q E z) E { s with heap := h1 } := fun M' e1 e2 e3 e4 e5 =>
        relay C (s := { s with heap := h1 }) ho1 ⟨hex.1, hex.2.1, hex.2.2⟩ rfl lin sz1 b3.dm (by rw [hs1, b4]; exact e5) one1 keys1 led1 (by rw [hl]; exact few) e1 e2 e3 (by rw [hl]; exact e4)
          fun h2 L2 es2 ep2 t2 sb2 R2 pm2 => wpAny_pure (q true h2 L2 es2 ep2 t2 (sb.trans sb2) R2 (fun z => absurd z hm) fun _ => pm2.trans pm)
      refine wp_if_pos (by simp [full, hf]) (wpAny_bind ?_)
      rw [hs]
      rcases R.tab.mok with e | e | e
      · have e4 : L.length = 4 := by rw [e] at hf hw; omega
        exact far 31 (by rw [e4, size_20]) (.inr (.inl rfl)) (by rw [e4, size_20]; decide) (by omega) (by omega)
      · have e4 : L.length = 18 := by rw [e] at hf hw; omega
        exact far 127 (by rw [e4, size_76]) (.inr (.inr rfl)) (by rw [e4, size_76]; decide) (by omega) (by omega)
      · rw [e] at hf
        omega
    · refine wp_if_neg ?_ (wpAny_pure (q true h1 L1 es1 _ t2 sb ⟨⟨_, ho1, ⟨hex.1, hex.2.1, hex.2.2⟩, rfl⟩, lin, b3, one1, keys1, led1, by rw [hl, b4]; omega, by rw [hl]; exact few⟩ (fun z => absurd z hm) fun _ => pm))
      simp [full, hf]
  have low : TabOk { t1 with plain := false } (L1.map fun c => kd.hash c.2) := ⟨b3.ris, b3.dm, b3.sz, b3.mok, b3.bd, b3.reach⟩
  by_cases hp : t1.plain = true
  · refine wp_if_pos hp (wpAny_bind (C.byv hx fun b => ?_))
    cases b with
    | true => exact go t1 b3 b4 b5 b9
    | false => exact go { t1 with plain := false } low b4 b5 b9
  · exact wp_if_neg hp (wpAny_bind (wpAny_pure (go t1 b3 b4 b5 b9)))
end
end XS

set_option Elab.async false
set_option linter.all false
set_option maxRecDepth 100000
set_option maxHeartbeats 4000000
namespace XS
open PySem L2 PySem.Spec PyProof.Rows
section
variable {P : Program} {w : World} {K : Type} [DecidableEq K] {kd : HeapKind P w K}
/-- what a set has met of the first i things -/
structure Met (ks : List (Cell K)) (i : Nat) (L : List (Cell K)) : Prop where
  of : ∀ c ∈ L, c ∈ ks.take i
  all : ∀ c ∈ ks.take i, c.2 ∈ L.map (·.2)
  le : L.length ≤ i
theorem Met.zero (ks : List (Cell K)) : Met ks 0 [] := ⟨fun _ h => (by cases h), fun _ h => (by simp at h), Nat.le_refl _⟩
theorem Met.old {ks L : List (Cell K)} {i : Nat} {c : Cell K} (m : Met ks i L) (h : ks[i]? = some c) (hm : c.2 ∈ L.map (·.2)) : Met ks (i + 1) L := by
  have e : ks.take (i + 1) = ks.take i ++ [c] := by rw [List.take_succ, h]; rfl
  refine ⟨fun x hx => ?_, fun x hx => ?_, Nat.le_succ_of_le m.le⟩
  · rw [e]
    exact List.mem_append_left _ (m.of x hx)
  · rw [e] at hx
    rcases List.mem_append.mp hx with z | z
    · exact m.all x z
    · cases List.mem_singleton.mp z
      exact hm
theorem Met.new {ks L L' : List (Cell K)} {i : Nat} {c : Cell K} (m : Met ks i L) (h : ks[i]? = some c) (p : L'.Perm (c :: L)) : Met ks (i + 1) L' := by
  have e : ks.take (i + 1) = ks.take i ++ [c] := by rw [List.take_succ, h]; rfl
  refine ⟨fun x hx => ?_, fun x hx => ?_, ?_⟩
  · rw [e]
    rcases List.mem_cons.mp (p.mem_iff.mp hx) with rfl | z
    · exact List.mem_append_right _ (List.mem_singleton.mpr rfl)
    · exact List.mem_append_left _ (m.of x z)
  · refine ((p.map (·.2)).mem_iff).mpr ?_
    rw [e] at hx
    rcases List.mem_append.mp hx with z | z
    · exact List.mem_cons_of_mem _ (m.all x z)
    · cases List.mem_singleton.mp z
      exact List.mem_cons_self ..
  · rw [p.length_eq]
    exact Nat.succ_le_succ m.le
theorem On.at {h h' : Heap} {a : Addr} {L : List (Cell K)} {es : Array (Int × Value)} {ep : Nat} {t : SetTable} (R : On kd h a L es ep t) (k1 : ∀ o, h.get? a = some o → h'.get? a = some o) (k2 : ∀ c ∈ L, kd.is h' c.2 c.1) : On kd h' a L es ep t := by
  obtain ⟨o, ho, m⟩ := R.obj
  exact ⟨⟨o, k1 o ho, m⟩, R.laid, R.tab, R.one, k2, R.led, R.wide, R.few⟩
abbrev empty (w : World) : Obj := { cls := .type "set", dict := none, data := .set #[] 0 (.fresh 0 0 (!w.params.followText "set-order")) }
theorem on_new {h : Heap} {a : Addr} (ho : h.get? a = some (empty w)) : On kd h a [] #[] 0 (.fresh 0 0 (!w.params.followText "set-order")) where
  obj := ⟨_, ho, ⟨rfl, rfl, rfl⟩, rfl⟩
  laid := rfl
  tab := ⟨.nil, rfl, rfl, .inl rfl, fun _ h => (by cases h), fun i _ _ h => (by simp at h)⟩
  one := .nil
  keys := fun _ h => (by cases h)
  led := by
    show _ ∨ (!w.params.followText "set-order") = true
    cases w.params.followText "set-order" <;> simp
  wide := (by show 0 * 5 < 7 * 3; decide)
  few := (by show 0 < 64; decide)
variable {Ar : Around} {Rs : Result → Shared → Prop} {It : Addr} {fp wr : List Addr} {Gn : Array GenState → Array GenState → Prop} {n : Nat} {Pi : Nat → Value → Prop} {St : Nat → Shared → Prop}
theorem loop (C : Calm kd) (Wk : WalksS P w Ar.in1 It fp wr Gn n Pi St) (S : Addr) (nf : S ∉ fp) (ks : List (Cell K)) (el : ks.length = n) (few : ks.length < 64) (hu : kd.room Ar.in1)
    (iv : ∀ i v, Pi i v → ∃ c, ks[i]? = some c ∧ v = .ref c.1) (h0 : Heap) (hk : ∀ c ∈ ks, kd.is h0 c.2 c.1) (hS : h0.get? S = none) (hw : ∀ b ∈ wr, h0.get? b = none) :
    ∀ (d i : Nat) (z : Shared), n - i = d → i ≤ n → St i z → (∀ b o, h0.get? b = some o → z.heap.get? b = some o) → (∃ L es ep t, On kd z.heap S L es ep t ∧ Met ks i L) →
      (∀ z' L es ep t, Moved (S :: wr) Gn z z' → On kd z'.heap S L es ep t → Met ks n L → (∀ b o, h0.get? b = some o → z'.heap.get? b = some o) → Rs (.ok (.ret .none)) z') →
      codeAny (model P w) Ar (.builtin "set.update.loop" ⟨[.ref S, .ref It], []⟩) Rs z := by
  have nw : S ∉ wr := fun h => nf (Wk.sub _ h)
  have up : ∀ b ∈ wr, b ∈ S :: wr := fun b hb => List.mem_cons_of_mem _ hb
  have kp1 : ∀ {z z' : Shared}, Moved wr Gn z z' → (∀ b o, h0.get? b = some o → z.heap.get? b = some o) → ∀ b o, h0.get? b = some o → z'.heap.get? b = some o := fun mv k b o e => mv.heap b o (fun q => by rw [hw b q] at e; cases e) (k b o e)
  have keys : ∀ {L : List (Cell K)} {i : Nat} {h : Heap}, Met ks i L → (∀ b o, h0.get? b = some o → h.get? b = some o) → ∀ c ∈ L, kd.is h c.2 c.1 := fun m k c hc => C.stays k (hk c (List.mem_of_mem_take (m.of c hc)))
  intro d
  induction d with
  | zero =>
    intro i z hd hi at_ kp ⟨L, es, ep, t, R, m⟩ fin
    obtain rfl : i = n := by omega
    refine codeAny_builtin F.entry_set_update_loop ?_
    rw [Around.under_plainId F.plain_set_update_loop _]
    show wpAny _ Ar.in1 (pyNext (.ref It) >>= _) _ _ z
    refine wpAny_bind (Wk.done z _ _ at_ fun z' mv => ?_)
    show wpAny _ Ar.in1 (ret Value.none) _ _ z'
    exact wpAny_pure (fin z' L es ep t (mv.mono up) (R.at (fun o e => mv.heap S o nw e) (keys m (kp1 mv kp))) m (kp1 mv kp))
  | succ d ih =>
    intro i z hd hi at_ kp ⟨L, es, ep, t, R, m⟩ fin
    have lt : i < n := by omega
    refine codeAny_builtin F.entry_set_update_loop ?_
    rw [Around.under_plainId F.plain_set_update_loop _]
    show wpAny _ Ar.in1 (pyNext (.ref It) >>= _) _ _ z
    refine wpAny_bind (Wk.item i z _ _ lt at_ fun v z' pv at' mv => ?_)
    obtain ⟨c, hc, rfl⟩ := iv i v pv
    have kp' := kp1 mv kp
    have R' := R.at (h' := z'.heap) (fun o e => mv.heap S o nw e) (keys m kp')
    have hx : kd.is z'.heap c.2 c.1 := C.stays kp' (hk c (List.mem_of_getElem? hc))
    show wpAny _ Ar.in1 (holding [Value.ref c.1] (setAdd S (.ref c.1)) >>= _) _ _ z'
    refine wpAny_bind (wpAny_holding ?_)
    unfold setAdd
    refine wpAny_holding (wpAny_bind (kd.pyHash hu hx ?_))
    refine R'.add (s := { z' with toks := z'.toks + kd.draws c.2 }) C hx hu (by have := m.le; omega) fun b h' L' es' ep' t' sb R2 c1 c2 => ?_
    have m' : Met ks (i + 1) L' := by
      rcases Classical.em (c.2 ∈ L.map (·.2)) with q | q
      · rw [c1 q]
        exact m.old hc q
      · exact m.new hc (c2 q)
    have kp2 : ∀ b o, h0.get? b = some o → h'.get? b = some o := fun b o e => (sb.2 b (fun q => by rw [q, hS] at e; cases e)).trans (kp' b o e)
    refine wpAny_pure ⟨plainId_quiet F.plain_set_update_loop _, ih (i + 1) _ (by omega) lt (Wk.frame _ z' _ _ at' (Nat.le_add_right _ _) fun b hb o e => ?_) kp2 ⟨L', es', ep', t', R2, m'⟩ fun z2 L2 es2 ep2 t2 mv2 R3 m3 kp3 => ?_⟩
    · rw [sb.2 b fun q : b = S => nf (by rw [← q]; exact hb)]
      exact e
    · refine fin z2 L2 es2 ep2 t2 (Moved.trans Wk.gtrans ((mv.mono up).then_heap (Nat.le_add_right _ _) fun b o hb e => ?_) mv2) R3 m3 kp3
      rw [sb.2 b fun q : b = S => hb (by rw [q]; exact List.mem_cons_self)]
      exact e
end
section
variable {P : Program} {w : World} {K : Type} [DecidableEq K] {kd : HeapKind P w K} {Ar : Around} {Er : Value → Shared → Prop} {st : Shared}
/-- set(l), l a list of such keys -/
theorem set_of_list (C : Calm kd) {l : Addr} {items : Array Value} (ks : List (Cell K)) {Q : Value → Shared → Prop} (hh : Ar.handled = none) (hl : st.heap.IsList l items) (hit : items.toList = ks.map fun c => Value.ref c.1)
    (hk : ∀ c ∈ ks, kd.is st.heap c.2 c.1) (few : ks.length < 64) (hu : kd.room Ar.in1.in1.in1)
    (h : ∀ (h' : Heap) (tk : Nat) L es ep t, On kd h' st.heap.objs.size L es ep t → Met ks ks.length L → (∀ b o, st.heap.get? b = some o → h'.get? b = some o) → Q (.ref st.heap.objs.size) { st with heap := h', toks := tk }) :
    wpAny (model P w) Ar (call (.type "set") [.ref l]) Q Er st := by
  have hn : items.size = ks.length := by
    have := congrArg List.length hit
    rwa [Array.length_toList, List.length_map] at this
  obtain ⟨c0, t0, m0⟩ := PySem.F.called_set.mro
  have m1 := PySem.F.called_set.made
  have m2 := PySem.F.called_set.sub
  refine wpAny_call (codeAny_of_tree ?_)
  show wpAny _ _ (callAny (.type "set") _) _ _ _
  refine wpAny_pure ⟨Code.quiet_builtin _ (by decide +kernel), codeAny_builtin PySem.F.entry_type_call ?_⟩
  rw [Around.under_plain (weight_type_call_type "set" [.ref l] []) rfl]
  have m3 := PySem.F.called_set.notType
  have m4 := PySem.F.called_set.canCreate
  have m5 := PySem.F.typeCall_set_1 (.ref l)
  repeat (any_goals (first | assumption | wp_step))
  refine codeAny_mono (code_set_led1 (.ref l) (E := Er) (Q₁ := fun ob z => ob = .ref st.heap.objs.size ∧ z = { st with heap := st.heap.push (empty w) }) ⟨rfl, rfl⟩) fun r z hr => ?_
  cases r with
  | error e => exact hr
  | ok fl =>
    cases fl with
    | ret ob =>
      obtain ⟨rfl, rfl⟩ := hr
      have hS : (st.heap.push (empty w)).get? st.heap.objs.size = some (empty w) := Heap.get?_push_size _ rfl
      have tyS : Shared.TypeIs { st with heap := st.heap.push (empty w) } (.ref st.heap.objs.size) "set" := ⟨_, hS, rfl⟩
      have m6 := PySem.F.called_set.init.lookup
      have m7 := PySem.F.called_set.init.bind (.ref st.heap.objs.size)
      repeat (any_goals (first | assumption | wp_step))
      refine codeAny_mono (codeAny_call_builtin (R := wants (fun v z2 => v = .none ∧ ∃ h' tk L es ep t, z2 = { st with heap := h', toks := tk } ∧ On kd h' st.heap.objs.size L es ep t ∧ Met ks ks.length L ∧
          (∀ b o, st.heap.get? b = some o → h'.get? b = some o)) Er) PySem.F.called_set.init.plain PySem.F.entry_set_init (check_set_init_1 tyS ?_)) fun r2 z2 hr2 => ?_
      · obtain ⟨⟨oc, od, oda, osl⟩, hol, hc, nn, hd⟩ := id hl
        dsimp only at hc hd
        subst hc hd
        have hol2 : (st.heap.push (empty w)).get? l = some { cls := .type "list", dict := od, data := .seq items nn, slots := osl } := Heap.get?_push_of_some _ hol
        have n1 := F.sub_list_set
        have n2 := F.sub_list_frozenset
        have n3 : (Value.type "list" == Value.type "dict") = false := by decide
        have hl1 : (st.heap.push (empty w)).IsList l items := ⟨_, hol2, rfl, nn, rfl⟩
        unfold Builtin.«set.__init__» noKeywords Builtin.Frozenset.updateFrom
        generalize hPI : pyIter = PI
        wp_walk
        subst hPI
        refine wpAny_pyIter_list hl1 (wpAny_bind (wpAny_runValue ?_))
        have lS : l < st.heap.objs.size := Heap.lt_size hol
        have sz : (st.heap.push (empty w)).objs.size = st.heap.objs.size + 1 := Heap.size_push ..
        have neI : l ≠ (st.heap.push (empty w)).objs.size := by rw [sz]; exact Nat.ne_of_lt (Nat.lt_succ_of_lt lS)
        have nS : st.heap.objs.size ∉ [(st.heap.push (empty w)).objs.size, l] := by
          rw [sz]
          simp only [List.mem_cons, List.not_mem_nil, or_false, not_or]
          exact ⟨Nat.ne_of_lt (Nat.lt_succ_self _), Nat.ne_of_gt lS⟩
        have out : ∀ b, st.heap.objs.size ≤ b → st.heap.get? b = none := fun b hb => by
          cases q : st.heap.get? b with
          | none => rfl
          | some o =>
            exact absurd (Nat.lt_of_lt_of_le (Heap.lt_size q) hb) (Nat.lt_irrefl _)
        refine loop C ((Walks.list (by simp [hh]) _ l neI items).toS) st.heap.objs.size nS ks hn.symm few hu (fun i v hv => ?_) st.heap hk (out _ (Nat.le_refl _)) (fun b hb => out b (by
            rw [List.mem_singleton.mp hb, sz]
            exact Nat.le_succ _)) (items.size - 0) 0 _ (by omega) (Nat.zero_le _) ?_ ?_ ?_ fun z' L es ep t mv R m kp => ?_
        · have q : items.toList[i]? = some v := by rw [Array.getElem?_toList]; exact hv
          rw [hit, List.getElem?_map] at q
          cases hq : ks[i]? with
          | none => rw [hq] at q; cases q
          | some c =>
            rw [hq] at q
            exact ⟨c, rfl, (Option.some.inj q).symm⟩
        · exact ⟨⟨_, Heap.get?_push_size _ rfl, rfl, rfl⟩, hl1.push _⟩
        · exact fun b o e => Heap.get?_push_of_some _ (Heap.get?_push_of_some _ e)
        · exact ⟨[], _, _, _, on_new (Heap.get?_push_of_some _ hS), .zero ks⟩
        · obtain ⟨h', g', d', tk', os'⟩ := z'
          have eg : g' = st.gens := mv.gens
          have ed : d' = st.drawn := mv.drawn
          have eo : os' = st.os := mv.os
          subst eg ed eo
          rw [hn] at m
          show wpAny _ _ _ _ _ _
          refine wpAny_pure ?_
          show wpAny _ _ (ret Value.none) _ _ _
          exact wpAny_pure ⟨rfl, h', tk', L, es, ep, t, rfl, R, m, kp⟩
      · cases r2 with
        | error e => exact hr2
        | ok f2 =>
          cases f2 with
          | ret v =>
            obtain ⟨rfl, h', tk, L, es, ep, t, rfl, R, m, kp⟩ := hr2
            repeat (any_goals (first | assumption | wp_step))
            exact h _ _ _ _ _ _ R m kp
          | _ => exact hr2.elim
    | _ => exact hr.elim
end
end XS

set_option Elab.async false
set_option linter.all false
set_option maxRecDepth 100000
set_option maxHeartbeats 4000000
namespace XS
open PySem L2 PySem.Spec PyProof.Rows
/-! ### tuples of leaves -/
section
variable {P : Program} {w : World} {K : Type} [DecidableEq K]
structure Leafy (kn : KeyKind P w K) (enc : K → PyData) : Prop where
  cls : ∀ (n : Nat) {k : K} {v : Value}, kn.is k v = true → ofAClassStatement n v = pure false
  byv : ∀ (n : Nat) {k : K} {v : Value}, kn.is k v = true → ∃ b, hashByValue n v = pure b
  rd : ∀ (h : Heap) {k : K} {v : Value}, kn.is k v = true → Reads h v (enc k) []
  alk : ∀ j k, PySem.W.alike (enc j) (enc k) = true
  flat : ∀ k, (enc k).depth = 0
variable {kn : KeyKind P w K} {enc : K → PyData} {A : Around} {E : Value → Shared → Prop} {s : Shared}
theorem each_is {ks : List K} {vs : List Value} (h : ItemsAre kn ks vs) : ∀ v ∈ vs, ∃ k, kn.is k v = true := by
  induction h with
  | nil => exact fun _ h => (by cases h)
  | cons h1 _ ih =>
    intro v hv
    rcases List.mem_cons.mp hv with rfl | hv
    · exact ⟨_, h1⟩
    · exact ih v hv
theorem calm_tup (lf : Leafy kn enc) : Calm (tupleKind kn) where
  stays := fun k ⟨o, its, n, ho, m⟩ => ⟨o, its, n, k _ _ ho, m⟩
  apart := fun {h h' k a d o es ep t} ho hd sb ⟨o', its, n, ho', hc, hd', hi⟩ => by
    have ne : a ≠ d := fun e => by
      subst e
      rw [ho] at ho'
      cases ho'
      rw [hd] at hd'
      cases hd'
    exact ⟨o', its, n, (sb.2 a ne).trans ho', hc, hd', hi⟩
  cls := fun {A E s k a Q} hk q => by
    have ty := hk.typeIs
    obtain ⟨o, its, n, ho, _, hd, hi⟩ := hk
    unfold ofAClassStatement
    refine wpAny_bind (wpAny_typeOf ty ?_)
    dsimp only
    have e : (("tuple" : String) == "tuple") = true := by decide
    simp only [e, if_true, Bool.not_true, Bool.false_eq_true, if_false]
    try refine wpAny_bind (wpAny_pure ?_)
    try simp only [Bool.not_true, Bool.false_eq_true, if_false]
    show wpAny _ _ (seqItems? (.ref a) >>= _) _ _ s
    refine wpAny_bind (wpAny_seqItems ho hd ?_)
    dsimp only
    refine wpAny_bind ?_
    show wpAny _ _ (forIn its _ _) _ _ s
    rw [← Array.forIn_toList]
    refine wpAny_forIn_list _ (fun more r z => r.1 = none ∧ z = s ∧ ∀ v ∈ more, ∃ k, kn.is k v = true) _ ?_ ?_ _ _ ⟨rfl, rfl, each_is hi⟩
    · rintro v more r z ⟨hr, rfl, al⟩
      obtain ⟨k, hv⟩ := al v (List.mem_cons_self ..)
      rw [lf.cls 7 hv]
      refine wpAny_bind (wpAny_pure ?_)
      simp only [Bool.false_eq_true, if_false]
      exact wpAny_pure ⟨rfl, rfl, fun u hu => al u (List.mem_cons_of_mem _ hu)⟩
    · rintro ⟨r1, r2⟩ z ⟨hr, rfl, _⟩
      dsimp only at hr
      subst hr
      exact wpAny_pure q
  byv := fun {A E s k a Q} hk q => by
    have ty := hk.typeIs
    obtain ⟨o, its, n, ho, _, hd, hi⟩ := hk
    unfold hashByValue
    refine wpAny_bind (wpAny_specialOf ty F.slot_tuple_hash.lookup ?_)
    show wpAny _ _ (seqItems? (.ref a) >>= _) _ _ s
    refine wpAny_bind (wpAny_seqItems ho hd (wpAny_bind ?_))
    show wpAny _ _ (forIn its _ _) _ _ s
    rw [← Array.forIn_toList]
    refine wpAny_forIn_list _ (fun more r z => r.1 = none ∧ z = s ∧ ∀ v ∈ more, ∃ k, kn.is k v = true) _ ?_ ?_ _ _ ⟨rfl, rfl, each_is hi⟩
    · rintro v more r z ⟨hr, rfl, al⟩
      obtain ⟨k, hv⟩ := al v (List.mem_cons_self ..)
      obtain ⟨b, e⟩ := lf.byv 7 hv
      rw [e]
      refine wpAny_bind (wpAny_pure ?_)
      cases b with
      | true =>
        simp only [Bool.not_true, Bool.false_eq_true, if_false]
        exact wpAny_pure ⟨rfl, rfl, fun u hu => al u (List.mem_cons_of_mem _ hu)⟩
      | false =>
        simp only [Bool.not_false, if_true]
        exact wpAny_pure (wpAny_pure (q false))
    · rintro ⟨r1, r2⟩ z ⟨hr, rfl, _⟩
      dsimp only at hr
      subst hr
      exact wpAny_pure (q true)
theorem leafy_str : Leafy (strKind P w) PyData.str where
  cls := fun n {k v} h => by
    obtain ⟨t, rfl⟩ := Value.isStrOf_shape h
    cases n <;> rfl
  byv := fun n {k v} h => by
    obtain ⟨t, rfl⟩ := Value.isStrOf_shape h
    exact ⟨false, by cases n <;> rfl⟩
  rd := fun h {k v} q => by
    obtain ⟨t, rfl⟩ := Value.isStrOf_shape q
    exact .str _ _
  alk := fun _ _ => by simp [PySem.W.alike]
  flat := fun _ => by simp [PyData.depth]
theorem leafy_int : Leafy (intKind P w) PyData.int where
  cls := fun n {k v} h => by
    obtain ⟨t, rfl⟩ := Value.isInt_shape h
    cases n <;> rfl
  byv := fun n {k v} h => by
    obtain ⟨t, rfl⟩ := Value.isInt_shape h
    exact ⟨true, by cases n <;> rfl⟩
  rd := fun h {k v} q => by
    obtain ⟨t, rfl⟩ := Value.isInt_shape q
    exact .int _ _
  alk := fun _ _ => by simp [PySem.W.alike]
  flat := fun _ => by simp [PyData.depth]
def encT (enc : K → PyData) (ks : List K) : PyData := .tuple (ks.map enc)
theorem reads_all (lf : Leafy kn enc) (h : Heap) {ks : List K} {vs : List Value} (q : ItemsAre kn ks vs) : ReadsAll h vs (ks.map enc) [] := by
  induction q with
  | nil => exact .nil
  | cons h1 _ ih => exact .cons (as := []) (bs := []) (lf.rd h h1) ih
theorem reads_tup (lf : Leafy kn enc) {h : Heap} {ks : List K} {a : Addr} (q : IsTupleKey kn h ks a) : Reads h (.ref a) (encT enc ks) [] := by
  obtain ⟨o, its, n, ho, hc, hd, hi⟩ := q
  exact .tuple ho hc hd (reads_all lf h hi)
theorem alike_all (lf : Leafy kn enc) : ∀ js ks : List K, PySem.W.alikeAll (js.map enc) (ks.map enc) = true
  | [], _ => by simp [PySem.W.alikeAll]
  | _ :: _, [] => by simp [PySem.W.alikeAll]
  | j :: js, k :: ks => by
    rw [List.map_cons, List.map_cons, PySem.W.alikeAll, lf.alk, alike_all lf js ks]
    rfl
theorem depth_all (lf : Leafy kn enc) : ∀ ks : List K, PyData.depthAll (ks.map enc) = 0
  | [] => rfl
  | k :: ks => by
    rw [List.map_cons, PyData.depthAll, lf.flat, depth_all lf ks]
    rfl
theorem depth_tup (lf : Leafy kn enc) (ks : List K) : (encT enc ks).depth ≤ 1 := by
  unfold encT
  rw [PyData.depth, depth_all lf]
  exact Nat.le_refl _
/-- what a permutation of images is -/
theorem perm_image {α β : Type} {f : α → β} : ∀ {vs : List β} {l : List α}, vs.Perm (l.map f) → ∃ l' : List α, vs = l'.map f ∧ l'.Perm l
  | [], l, h => by
    have : l = [] := by
      have := h.length_eq
      rw [List.length_map] at this
      exact List.eq_nil_of_length_eq_zero this.symm
    subst this
    exact ⟨[], rfl, .nil⟩
  | v :: vs, l, h => by
    obtain ⟨x, hx, rfl⟩ := List.mem_map.mp (h.mem_iff.mp (List.mem_cons_self ..))
    obtain ⟨a, b, rfl⟩ := List.append_of_mem hx
    have h2 : (f x :: vs).Perm (f x :: (a ++ b).map f) := by
      refine h.trans ?_
      rw [List.map_append, List.map_cons, List.map_append]
      exact List.perm_middle
    obtain ⟨l', e, p⟩ := perm_image h2.cons_inv
    refine ⟨x :: l', by rw [List.map_cons, ← e], (p.cons x).trans List.perm_middle.symm⟩
/-- sorted(s), s such a set of tuples, none empty -/
theorem sorted_on (lf : Leafy kn enc) {a : Addr} {L : List (Cell (List K))} {es : Array (Int × Value)} {ep : Nat} {t : SetTable} {Q : Value → Shared → Prop} (R : On (tupleKind kn) s.heap a L es ep t) (hh : A.handled = none) (ne : ∀ c ∈ L, c.2 ≠ []) (hu : A.units + 10 < cLine)
    (q : ∀ s' p (out : Array Value) (n : Nat) (L' : List (Cell (List K))), (∀ b o, s.heap.get? b = some o → s'.heap.get? b = some o) → s'.gens = s.gens → s'.os = s.os → s.heap.objs.size ≤ p → s'.heap.get? p = some (seqObj "list" out n) → out.toList = L'.map (fun c => Value.ref c.1) → L'.Perm L →
      L'.Pairwise (fun x y => PySem.W.dataLt (encT enc y.2) (encT enc x.2) = false) → Q (.ref p) s') :
    wpAny (model P w) A (call (.builtin "sorted") [.ref a]) Q E s := by
  obtain ⟨o, ho, hex, hd⟩ := R.obj
  have few := R.few
  have hs := laid_size R.laid
  refine Calls.call_function_entry kind_sorted plain_sorted entry_sorted (args_sorted1 _) ?_
  unfold Builtin.«sorted»
  refine wpAny_bind (m := checkCount "sorted" 1 1 _) (wpAny_pure ?_)
  refine wpAny_bind (collect_set (A := A.in1) hh ⟨o, ho, hex.1, hd⟩ R.fit (by rw [hs]; unfold scanBound; omega) R.tab.ris R.led fun s1 vs k1 hz g1 o1 pm => ?_)
  have e1 : es.toList.map (·.2) = L.map fun c => Value.ref c.1 := by
    rw [R.laid, List.map_map]
    rfl
  rw [e1] at pm
  obtain ⟨L1, rfl, pL⟩ := perm_image pm
  have lL : L1.length = L.length := pL.length_eq
  refine wpAny_bind (wpAny_newList ?_ (by rw [List.length_map, lL, sizeLine_eq]; omega))
  have hoL : (s1.heap.push (seqObj "list" (L1.map fun c => Value.ref c.1).toArray 0)).get? s1.heap.objs.size = some (seqObj "list" (L1.map fun c => Value.ref c.1).toArray 0) := Heap.get?_push_size _ rfl
  have each : ∀ M : List (Cell (List K)), (∀ c ∈ M, c ∈ L) → PySem.W.EachIs (fun v (c : Cell (List K)) => v = Value.ref c.1) (M.map fun c => Value.ref c.1) M := by
    intro M
    induction M with
    | nil => intro _; exact .nil
    | cons c M ih => intro h; exact .cons rfl (ih fun x hx => h x (List.mem_cons_of_mem _ hx))
  have eachR : ∀ M : List (Cell (List K)), (∀ c ∈ M, c ∈ L) → PySem.W.EachIs (fun v (c : Cell (List K)) => ∃ as, Reads (s1.heap.push (seqObj "list" (L1.map fun c => Value.ref c.1).toArray 0)) v (encT enc c.2) as ∧ s1.heap.objs.size ∉ as) (M.map fun c => Value.ref c.1) M := by
    intro M
    induction M with
    | nil => intro _; exact .nil
    | cons c M ih =>
      intro h
      have kc := (calm_tup lf).stays (h' := s1.heap.push (seqObj "list" (L1.map fun c => Value.ref c.1).toArray 0)) (fun b u e => Heap.get?_push_of_some _ (k1 b u e)) (R.keys c (h c (List.mem_cons_self ..)))
      exact .cons ⟨[], reads_tup lf kc, fun z => nomatch z⟩ (ih fun x hx => h x (List.mem_cons_of_mem _ hx))
  have sub : ∀ c ∈ L1, c ∈ L := fun c hc => pL.mem_iff.mp hc
  refine wpAny_bind (wpAny_holding (PySem.W.list_sort_data (enc := fun c : Cell (List K) => encT enc c.2) hoL (each L1 sub) (eachR L1 sub) ?_ ?_ (by rw [lL, sizeLine_eq]; omega) (fun c _ => ?_) fun out lo eo => ?_))
  · intro d hd d' hd'
    obtain ⟨c, _, rfl⟩ := List.mem_map.mp hd
    obtain ⟨c', _, rfl⟩ := List.mem_map.mp hd'
    unfold encT
    rw [PySem.W.alike]
    exact alike_all lf _ _
  · refine .inl fun d hd => ?_
    obtain ⟨c, hc, rfl⟩ := List.mem_map.mp hd
    cases hk : c.2 with
    | nil => exact absurd hk (ne c (sub c hc))
    | cons x r => exact ⟨enc x, r.map enc, by unfold encT; rfl⟩
  · have := depth_tup lf c.2
    show A.in1.units + 1 + (encT enc c.2).depth < cLine
    have e : A.in1.units = A.units + 1 := rfl
    omega
  · have pm2 : (L1.mergeSort (PySem.W.dataLe false fun c : Cell (List K) => encT enc c.2)).Perm L1 := List.mergeSort_perm ..
    have outs : ∀ {o2 : List Value} {M : List (Cell (List K))}, PySem.W.EachIs (fun v (c : Cell (List K)) => v = Value.ref c.1) o2 M → o2 = M.map fun c => Value.ref c.1 := fun h => by
      induction h with
      | nil => rfl
      | cons e _ ih => rw [List.map_cons, ← e, ← ih]
    obtain ⟨c, hc⟩ := sortedHeap_at (vs := L1.map fun c => Value.ref c.1) (out := out.toArray) hoL
    refine wpAny_pure ⟨_, rfl, q _ s1.heap.objs.size out.toArray c (L1.mergeSort (PySem.W.dataLe false fun c : Cell (List K) => encT enc c.2)) (fun b u e => ?_) g1 o1 hz hc (by rw [outs eo]) (pm2.trans pL) ?_⟩
    · have q1 := k1 b u e
      have lt := Heap.lt_size q1
      show (sortedHeap (s1.heap.push (seqObj "list" (L1.map fun c => Value.ref c.1).toArray 0)) s1.heap.objs.size (L1.map fun c => Value.ref c.1) out.toArray).get? b = some u
      rw [sortedHeap_old (Nat.ne_of_lt lt) (by rw [size_push']; exact Nat.lt_succ_of_lt lt)]
      exact Heap.get?_push_of_some _ q1
    · refine (PySem.W.sort_pairwise (PySem.W.sortLe_total (listOrd itemOrd) false fun c : Cell (List K) => PySem.W.keyToks (encT enc c.2)) L1).imp fun {x y} h => ?_
      have h : (!PySem.W.dataLt (encT enc y.2) (encT enc x.2)) = true := h
      simpa using h
end
end XS

set_option Elab.async false
set_option linter.all false
set_option maxRecDepth 100000
set_option maxHeartbeats 4000000
namespace XS
open PySem L2 PySem.Spec PyProof.Rows
/-! ### over the abstract heap -/
section
variable {X : Cx} {K : Type} [DecidableEq K]
/-- a leaf, abstractly -/
structure Leaf (X : Cx) (K : Type) [DecidableEq K] where
  kn : KeyKind X.prog X.w K
  enc : K → PyData
  v : K → V
  lf : Leafy kn enc
  is : ∀ {k : K} {u : Value}, RelV (v k) u → kn.is k u = true
def strLeaf (X : Cx) : Leaf X Str := ⟨strKind X.prog X.w, PyData.str, V.str, leafy_str, fun {k u} h => by
  obtain ⟨tk, rfl⟩ := h
  exact strKind_is _ _ _ _⟩
def intLeaf (X : Cx) : Leaf X Int := ⟨intKind X.prog X.w, PyData.int, V.int, leafy_int, fun {k u} h => by
  obtain ⟨tk, rfl⟩ := h
  exact intKind_is _ _ _ _⟩
variable (F : Leaf X K)
structure Lies (F : Leaf X K) (h : Heap) (a : Addr) (L : List (Cell (List K))) (es : Array (Int × Value)) (ep : Nat) (t : SetTable) : Prop where
  obj : ∃ o, h.get? a = some o ∧ o.ExactSet ∧ o.data = .set es ep t
  laid : es.toList = L.map (lay (tupleKind F.kn))
  tab : TabOk t (L.map fun c => (tupleKind F.kn).hash c.2)
  one : (L.map (·.2)).Nodup
  led : X.w.params.followText "set-order" = true ∨ t.led = true
  wide : L.length * 5 < t.mask * 3
  few : L.length < 64
def SetX (a : Addr) (L : List (Cell (List K))) : HO := .ext fun h => ∃ es ep t, Lies F h a L es ep t
theorem setX_ok {H : Hp} {h : Heap} {a : Addr} {L : List (Cell (List K))} {es : Array (Int × Value)} {ep : Nat} {t : SetTable} (R : On (tupleKind F.kn) h a L es ep t) : ObjOk X.prog X.w H h a (SetX F a L) := by
  obtain ⟨o, ho, m⟩ := R.obj
  refine ⟨⟨es, ep, t, ⟨o, ho, m⟩, R.laid, R.tab, R.one, R.led, R.wide, R.few⟩, ⟨o, ho⟩, fun h1 h2 ⟨es', ep', t', q⟩ k => ?_⟩
  obtain ⟨o', ho', m'⟩ := q.obj
  exact ⟨es', ep', t', ⟨o', k o' ho', m'⟩, q.laid, q.tab, q.one, q.led, q.wide, q.few⟩
theorem items_of : ∀ {ks : List K} {us : List Value}, Vals (ks.map F.v) us → ItemsAre F.kn ks us
  | [], _, .nil => .nil
  | _ :: _, _, .cons r m => .cons (F.is r) (items_of m)
theorem refs_are : ∀ {ks : List (Cell (List K))} {us : List Value}, Vals (ks.map fun c => V.ref c.1) us → us = ks.map fun c => Value.ref c.1
  | [], _, .nil => rfl
  | c :: ks, _, .cons r m => by
    cases r
    rw [refs_are m]
    rfl
theorem are_refs : ∀ ks : List (Cell (List K)), Vals (ks.map fun c => V.ref c.1) (ks.map fun c => Value.ref c.1)
  | [] => .nil
  | _ :: ks => .cons rfl (are_refs ks)
theorem key_at {pins : List (Addr × Obj)} {σ : L2.St} {H : Hp} {s : Shared} {b : Addr} {k : List K} (I : Inv X pins σ H s) (h : SqT X.K H b (k.map F.v)) : (tupleKind F.kn).is s.heap k b := by
  obtain ⟨its, r, ⟨o, ho, hc, n, hd⟩, _⟩ := I.tuple h
  exact ⟨o, its.toArray, n, ho, hc, hd, by simpa using items_of F r⟩
def rSet (F : Leaf X K) : List V → Hp → VK → Prop := fun xs H Q => ∃ (l : Addr) (ks : List (Cell (List K))), xs = [V.ref l] ∧ SqL X.K H l (ks.map fun c => V.ref c.1) ∧ (∀ c ∈ ks, SqT X.K H c.1 (c.2.map F.v)) ∧ ks.length < 64 ∧
  ∀ a L, H a = none → (∀ c ∈ L, c ∈ ks) → (∀ c ∈ ks, c.2 ∈ L.map (·.2)) → Q (.ref a) (upd H a (SetX F a L))
theorem cr_set (hc : X.calm = true) (hu : X.A.units + 64 < cLine) : CallR X (.type "set") (rSet F) := by
  intro pins s σ H xs us Q I r h
  obtain ⟨l, ks, rfl, hl, hk, few, q⟩ := h
  rw [Vals.ref1 r]
  obtain ⟨its, rv, pl, hz⟩ := I.list hl
  have hn : H s.heap.objs.size = none := I.hok.fresh (Nat.le_refl _)
  have room : X.A.in1.in1.in1.units < cLine := by
    show X.A.units + 1 + 1 + 1 < cLine
    omega
  refine set_of_list (kd := tupleKind F.kn) (calm_tup F.lf) ks (I.ok.hd hc) pl.isList (by simpa using refs_are rv) (fun c hc => key_at F I (hk c hc)) few room fun h' tk L es ep t R m k => ?_
  refine ⟨.ref s.heap.objs.size, _, I.laid (t' := tk) k (Nat.le_refl _) (setX_ok F R), rfl, q _ L hn (fun c hc => List.mem_of_mem_take (m.of c hc)) fun c hc => m.all c (by rw [List.take_length]; exact hc)⟩
def rSort (F : Leaf X K) : List V → Hp → VK → Prop := fun xs H Q => ∃ (a : Addr) (L : List (Cell (List K))), xs = [V.ref a] ∧ H a = some (SetX F a L) ∧ (∀ c ∈ L, SqT X.K H c.1 (c.2.map F.v)) ∧ (∀ c ∈ L, c.2 ≠ []) ∧
  ∀ (L' : List (Cell (List K))) (p : Addr), L'.Perm L → (L'.map (·.2)).Nodup → L'.Pairwise (fun x y => PySem.W.dataLt (encT F.enc y.2) (encT F.enc x.2) = false) → H p = none → Q (.ref p) (upd H p (.lst (L'.map fun c => V.ref c.1)))
theorem cr_sort (hc : X.calm = true) (hu : X.A.units + 64 < cLine) : CallR X (.builtin "sorted") (rSort F) := by
  intro pins s σ H xs us Q I r h
  obtain ⟨a, L, rfl, ha, hk, ne, q⟩ := h
  obtain ⟨es, ep, t, R⟩ : ∃ es ep t, Lies F s.heap a L es ep t := (I.hok a _ ha).1
  rw [Vals.ref1 r]
  refine sorted_on F.lf (a := a) (L := L) (es := es) (ep := ep) (t := t) ⟨R.obj, R.laid, R.tab, R.one, fun c hc => key_at F I (hk c hc), R.led, R.wide, R.few⟩ (I.ok.hd hc) ne (by omega) fun s' p out n L' k g o hp hg hout pm pw => ?_
  have few : L'.length < 64 := by rw [pm.length_eq]; exact R.few
  have ll : (L'.map fun c => V.ref c.1).length ≤ sizeLine := by rw [List.length_map, sizeLine_eq]; omega
  have hn : H p = none := I.hok.fresh hp
  have J : Inv X pins σ (upd H p (.lst (L'.map fun c => V.ref c.1))) { s with heap := s'.heap, gens := s'.gens, drawn := s'.drawn, toks := s'.toks } :=
    I.call (ch := []) (Un.laid k hp hn) (I.hok.laid k hp ⟨ll, out.toList, n, by rw [hout]; exact are_refs L', hg⟩) (by rw [g]; exact I.bare) (fun _ z => nomatch z)
  have e : s' = { s with heap := s'.heap, gens := s'.gens, drawn := s'.drawn, toks := s'.toks } := by
    cases s'
    cases s
    cases o
    rfl
  rw [e]
  exact ⟨.ref p, _, J, rfl, q L' p pm ((pm.map (·.2)).nodup_iff.mpr R.one) pw hn⟩
end
end XS

set_option Elab.async false
set_option linter.all false
set_option maxRecDepth 100000
set_option maxHeartbeats 4000000
namespace DL
open PySem L2 PySem.Spec PyProof.Rows XS
/-! ### sorted(set(x)), x a list of tuples of texts, or of ints -/
structure LeafD (X : Cx) (K : Type) [DecidableEq K] extends Leaf X K where
  d : K → D
  rep : ∀ {G : Hp} (k : K), Rep X.K G (toLeaf.v k) (d k)
  of : ∀ {G : Hp} {x : V} {k : K}, Rep X.K G x (d k) → x = toLeaf.v k
def strD (X : Cx) : LeafD X Str := ⟨strLeaf X, D.str, fun k => .str k, fun r => r.str_of⟩
def intD (X : Cx) : LeafD X Int := ⟨intLeaf X, D.int, fun k => .int k, fun r => r.int_of⟩
/-- the order in which tuples are sorted -/
def ltT {K : Type} (enc : K → PyData) (a b : List K) : Bool := PySem.W.dataLt (encT enc a) (encT enc b)
def tupsD {K : Type} (f : K → D) (kss : List (List K)) : List D := kss.map fun ks => .tup (ks.map f)
def gSortSet {K : Type} (enc : K → PyData) (f : K → D) (d : D) (F : D → Prop) : Prop := ∃ kss : List (List K), d = .lst (tupsD f kss) ∧ kss.length < 64 ∧ (∀ ks ∈ kss, ks ≠ []) ∧
  ∀ out : List (List K), out.Nodup → (∀ ks, ks ∈ out ↔ ks ∈ kss) → out.Pairwise (fun x y => ltT enc y x = false) → F (.lst (tupsD f out))
section
variable {X : Cx} {c : Ct} {W : WX} {a : Expr} {pos p p2 q : Pos} {ma : ME} {ta : TE} {K : Type} [DecidableEq K] (F : LeafD X K)
theorem leaves_of : ∀ {ks : List K} {xs : List V} {G : Hp}, RepL X.K G xs (ks.map F.d) → xs = ks.map F.v
  | [], _, _, .nil => rfl
  | _ :: _, _, _, .cons r m => by rw [F.of r, leaves_of m]; rfl
theorem reps_of : ∀ (ks : List K) {G : Hp}, RepL X.K G (ks.map F.v) (ks.map F.d)
  | [], _ => .nil
  | k :: ks, _ => .cons (F.rep k) (reps_of ks)
theorem cells_of : ∀ {kss : List (List K)} {xs : List V} {G : Hp}, RepL X.K G xs (tupsD F.d kss) → ∃ cs : List (Cell (List K)), xs = cs.map (fun z => V.ref z.1) ∧ cs.map (·.2) = kss ∧ ∀ z ∈ cs, SqT X.K G z.1 (z.2.map F.v)
  | [], _, _, .nil => ⟨[], rfl, rfl, fun _ h => nomatch h⟩
  | ks :: kss, _, G, .cons r m => by
    obtain ⟨b, ys, rfl, h1, h2⟩ := r.tup_of
    obtain ⟨cs, rfl, rfl, h3⟩ := cells_of m
    rw [leaves_of F h2] at h1
    refine ⟨(b, ks) :: cs, rfl, rfl, fun z hz => ?_⟩
    rcases List.mem_cons.mp hz with rfl | hz
    · exact h1
    · exact h3 z hz
theorem of_cells {G : Hp} : ∀ cs : List (Cell (List K)), (∀ z ∈ cs, SqT X.K G z.1 (z.2.map F.v)) → RepL X.K G (cs.map fun z => V.ref z.1) (tupsD F.d (cs.map (·.2)))
  | [], _ => .nil
  | z :: cs, h => .cons (.tup (h z (List.mem_cons_self ..)) (reps_of F z.2)) (of_cells cs fun y hy => h y (List.mem_cons_of_mem _ hy))
theorem de_sortSet (hc : X.calm = true) (hu : X.A.units + 64 < cLine) (hg : Gl X "sorted") (hm : X.mg "sorted" = none) (hg2 : Gl X "set") (hm2 : X.mg "set" = none) (ha : DE X c W a ta ma)
    (h2 : starEach [a] X.env = (false, eval a X.env) :: starEach [] X.env := by rfl)
    (h1 : starEach [.Call (.Name "set" p2) [a] [] q] X.env = (false, eval (.Call (.Name "set" p2) [a] [] q) X.env) :: starEach [] X.env := by rfl) :
    DE X c W (.Call (.Name "sorted" p) [.Call (.Name "set" p2) [a] [] q] [] pos) (tCB (rSort F.toLeaf) (tCons (tCB (rSet F.toLeaf) (tCons ta tNil)) tNil)) (fun δ G Y => ma δ (fun d => gSortSet F.enc F.d d G) Y) := by
  refine ⟨pe_callB (cr_sort F.toLeaf hc hu) hg hm (by decide +kernel) (pa_cons (pe_callTy (cr_set F.toLeaf hc hu) hg2 hm2 (by decide +kernel) (pa_cons ha.p pa_nil h2) (by decide) (by decide) h2 (by rfl)) pa_nil h1) (by decide) (by decide) h1 (by rfl), fun H G σ δ Fn Y Q cr rs h k x => ?_⟩
  refine ha.w H G σ δ _ _ _ cr rs h (fun v d H1 G1 g1 r1 f => ?_) x
  obtain ⟨kss, rfl, few, ne, fin⟩ := f
  obtain ⟨l, xs, rfl, h3, r2⟩ := r1.lst_of
  obtain ⟨cs, rfl, rfl, h4⟩ := cells_of F r2
  rw [List.length_map] at few
  refine ⟨l, cs, rfl, SqL.of (g1.sub _ _ h3), fun z hz => same_t g1.sub (h4 z hz), few, fun s L hs hL1 hL2 => ?_⟩
  have g2 := Go.mine (o := SetX F.toLeaf s L) g1.sub hs
  refine ⟨s, L, rfl, upd_same, fun z hz => same_t g2.sub (h4 z (hL1 z hz)), fun z hz => ne z.2 (List.mem_map_of_mem (hL1 z hz)), fun L' t pm nd pw ht => ?_⟩
  have g3 := Go.laid (o := .lst (L'.map fun z => V.ref z.1)) g2.sub ht
  have mem : ∀ z ∈ L', z ∈ cs := fun z hz => hL1 z (pm.mem_iff.mp hz)
  refine k (.ref t) (.lst (tupsD F.d (L'.map (·.2)))) _ _ ((g1.trans (g2.lift g1.deal)).trans (g3.lift (g2.lift g1.deal).deal)) (.lst upd_same ((of_cells F L' fun z hz => h4 z (mem z hz)).mono g3.grow)) (fin _ nd (fun ks => ?_) ?_)
  · constructor
    · intro hk
      obtain ⟨z, hz, rfl⟩ := List.mem_map.mp hk
      exact List.mem_map_of_mem (mem z hz)
    · intro hk
      obtain ⟨z, hz, rfl⟩ := List.mem_map.mp hk
      exact ((pm.map (·.2)).mem_iff).mpr (hL2 z hz)
  · exact List.pairwise_map.mpr pw
end
end DL

set_option Elab.async false
set_option linter.all false
set_option maxRecDepth 100000
set_option maxHeartbeats 4000000
namespace XS
open PySem L2 PySem.Spec PyProof.Rows
/-! ### dicts whose keys are tuples of texts, numbers, None -/
abbrev LK (P : Program) (w : World) : HeapKind P w (List PySem.Leaf) := tupleKind (leafKind P w)
abbrev Ent := List PySem.Leaf × Addr × Value
def lV : PySem.Leaf → V
  | .none => .non
  | .num i => .int i
  | .text x => .str x
section
variable {P : Program} {w : World}
theorem lV_is {k : PySem.Leaf} {u : Value} (h : RelV (lV k) u) : (leafKind P w).is k u = true := by
  cases k with
  | none => cases (show u = Value.none from h); rfl
  | num i => obtain ⟨t, rfl⟩ := (show ∃ t, u = Value.int i t from h); exact decide_eq_true rfl
  | text x =>
    obtain ⟨t, rfl⟩ := (show ∃ t, u = Value.str x t from h)
    show (x == x) = true
    simp
theorem lV_items : ∀ {ks : List PySem.Leaf} {us : List Value}, Vals (ks.map lV) us → ItemsAre (leafKind P w) ks us
  | [], _, .nil => .nil
  | _ :: _, _, .cons r m => .cons (lV_is r) (lV_items m)
structure DLies (P : Program) (w : World) (h : Heap) (a : Addr) (xs : List Ent) : Prop where
  obj : ∃ o es ep, h.get? a = some o ∧ o.ExactDict ∧ o.data = .dict es ep ∧ es.toList = xs.map (entryOfKey (LK P w))
  one : (xs.map (·.1)).Nodup
  far : (a == sysModules) = false
  fits : xs.length ≤ sizeLine
def DctX (P : Program) (w : World) (xs : List Ent) (a : Addr) : HO := .ext fun h => DLies P w h a xs
theorem dctX_ok {H : Hp} {h : Heap} {a : Addr} {xs : List Ent} (R : DLies P w h a xs) : ObjOk P w H h a (DctX P w xs a) := by
  obtain ⟨o, es, ep, ho, m⟩ := R.obj
  refine ⟨R, ⟨o, ho⟩, fun h1 h2 q k => ?_⟩
  obtain ⟨o', es', ep', ho', m'⟩ := q.obj
  exact ⟨⟨o', es', ep', k o' ho', m'⟩, q.one, q.far, q.fits⟩
theorem DLies.full {h : Heap} {a : Addr} {xs : List Ent} (R : DLies P w h a xs) (keys : ∀ x ∈ xs, (LK P w).is h x.1 x.2.1) : h.DictOfH (LK P w) a xs :=
  let ⟨o, es, ep, h1, h2, h3, h4⟩ := R.obj
  ⟨o, es, ep, h1, h2, h3, h4, keys, R.one⟩
theorem dlies_new {h : Heap} (big : sysModules < h.objs.size) : DLies P w (h.push { cls := .type "dict", data := .dict #[] }) h.objs.size [] :=
  ⟨⟨_, #[], 0, Heap.get?_push_size _ rfl, ⟨rfl, rfl, rfl⟩, rfl, rfl⟩, List.nodup_nil, beq_eq_false_iff_ne.mpr (Ne.symm (Nat.ne_of_lt big)), Nat.zero_le _⟩
theorem put_len {K : Type} [DecidableEq K] (xs : List (K × Addr × Value)) (k : K) (b : Addr) (u : Value) : (storedH xs k b u).length ≤ xs.length + 1 := by
  unfold storedH
  split
  · rw [List.length_map]; omega
  · rw [List.length_append]; simp
end
section
variable {X : Cx} {pins : List (Addr × Obj)} {σ : L2.St} {H : Hp} {s : Shared}
theorem lkey {b : Addr} {k : List PySem.Leaf} (I : Inv X pins σ H s) (h : SqT X.K H b (k.map lV)) : (LK X.prog X.w).is s.heap k b := by
  obtain ⟨its, r, ⟨o, ho, hc, n, hd⟩, _⟩ := I.tuple h
  exact ⟨o, its.toArray, n, ho, hc, hd, by simpa using lV_items r⟩
theorem put_dct {E : Value → Shared → Prop} {a b : Addr} {xs : List Ent} {k : List PySem.Leaf} {u : Value} {Q : Unit → Shared → Prop} (I : Inv X pins σ H s) (hu : X.A.units < cLine) (ha : H a = some (DctX X.prog X.w xs a)) (hk : ∀ x ∈ xs, SqT X.K H x.2.1 (x.1.map lV)) (hb : SqT X.K H b (k.map lV)) (n : xs.length < sizeLine)
    (go : ∀ s', Inv X pins σ (upd H a (DctX X.prog X.w (storedH xs k b u) a)) s' → Q () s') : wpAny (model X.prog X.w) X.A (dictSet a (.ref b) u) Q E s := by
  have R : DLies X.prog X.w s.heap a xs := (I.hok a _ ha).1
  refine wpAny_dictSet_heap (hsz := R.fits) (knd := LK X.prog X.w) hu (lkey I hb) (R.full fun x hx => lkey I (hk x hx)) fun h' m' same => go _ ?_
  obtain ⟨o, es, ep, h1, h2, h3, h4, _, h5⟩ := m'
  have := put_len xs k b u
  exact d_write I (by rw [ha]; exact True.intro) same ⟨o, h1⟩ (dctX_ok ⟨⟨o, es, ep, h1, h2, h3, h4⟩, h5, R.far, by omega⟩)
/-- what a turn's store needs -/
def PutK (X : Cx) (a : Addr) (y : V) (H : Hp) (Nx : Hp → Prop) : Prop := ∃ (xs : List Ent) (k : List PySem.Leaf) (b : Addr), y = .ref b ∧ SqT X.K H b (k.map lV) ∧ H a = some (DctX X.prog X.w xs a) ∧ (∀ x ∈ xs, SqT X.K H x.2.1 (x.1.map lV)) ∧ xs.length < sizeLine ∧
  ∀ u, Nx (upd H a (DctX X.prog X.w (storedH xs k b u) a))
def tDx (X : Cx) (wi : TI) (g : TG) (tt : TT) (tk tv : TE) (vs : List Nat) : TE := fun σ H Q => wi σ H fun J H1 => ∀ a, H1 a = none → ∃ Z : Nat → Nat → Hp → Prop, (∃ m, Z 0 m (upd H1 a (DctX X.prog X.w [] a))) ∧ ∀ i m H2, Z i m H2 →
  (J.stop i H2 ∧ Q (.ref a) H2) ∨ (J.go i H2 ∧ ∃ Nx : Hp → Prop, (∀ H3, Nx H3 → ∃ m', m' < m ∧ Z (i + 1) m' H3) ∧ ∀ x H3, J.yld i H2 x H3 → g x (wipe σ vs) H3 fun σ4 H4 => wipe σ4 vs = wipe σ vs ∧ tt σ4 H4 fun b H5 =>
    if b = true then tk σ4 H5 fun y H6 => tv σ4 H6 fun _ H7 => PutK X a y H7 Nx else Nx H5)
abbrev BX (X : Cx) (scope : Scope) (s : Shared) (H : Hp) (C : Addr) (cl : List (Str × Addr)) (fp : List Addr) : Cx := X.blk s H scope (compEnvC scope cl C X.env) fp
theorem pe_dx {kx vx tg iter : Expr} {ifs : List Expr} {scope : Scope} {own : List (Str × Nat)} {pos : Pos} {wi : TI} {g : TG} {tt : TT} {tk tv : TE} (calm : X.calm = true) (hu : X.A.units < cLine) (nd : X.N.Nodup) (hi : PI X tg iter wi) (ok : BlkOk X.N X.env.scope scope own)
    (kg : ∀ s H C cl fp, PG (BX X scope s H C cl fp) tg g) (kt : ∀ s H C cl fp, PTs (BX X scope s H C cl fp) ifs tt) (kk : ∀ s H C cl fp, PE (BX X scope s H C cl fp) kx tk) (kv : ∀ s H C cl fp, PE (BX X scope s H C cl fp) vx tv)
    (fold : ∀ x, foldedSetIterable iter X.env x = pure x := by intro _; rfl) : PE X (.DictComp kx vx [⟨tg, iter, ifs, 0⟩] scope pos) (tDx X wi g tt tk tv (own.map (·.2))) := by
  refine ⟨fun pins s σ H Q I h => ?_⟩
  rw [arm_eval_DictComp]
  have cells : ∀ y ∈ scope.names, y.2 = .free → ∃ c, X.env.cells.lookup y.1 = some c := fun y m e => (ok.free y m e).elim (fun q => I.ok.has _ (.inl q)) (fun q => I.ok.has _ (.inr q))
  refine wpAny_comprehension_free (use := none) rfl fold (closure_ok cells) ok.kind (fun y m e => by rw [ok.uniq y m, e]) (thn (hi.run pins s σ H _ I h) fun _ s1 k1 => thn k1 fun _ s2 ⟨it, fp, tn, J, H2, e, I2, T, live, apart, q⟩ => ?_)
  subst e
  refine wpAny_newObj_type (newEnv_comp ?_)
  generalize ea : s2.heap.objs.size = a
  obtain ⟨Z, ⟨m0, z0⟩, turn⟩ := q a (I2.hok.fresh (Nat.le_of_eq ea))
  -- the dict is laid, then the block begins
  generalize es3 : ({ s2 with heap := s2.heap.push { cls := .type "dict", data := .dict #[] } } : Shared) = s3
  have hp3 : s3.heap = s2.heap.push { cls := .type "dict", data := .dict #[] } := by rw [← es3]
  have I3 : Inv X pins σ (upd H2 a (DctX X.prog X.w [] a)) s3 := by
    rw [← es3]
    refine I2.laid (t' := s2.toks) (fun _ _ e => Heap.get?_push_of_some _ e) (Nat.le_of_eq ea) ?_
    subst ea
    exact dctX_ok (dlies_new I2.big)
  have apart3 : ∀ b ∈ fp, FpOk X pins (upd H2 a (DctX X.prog X.w [] a)) b ∧ b < s3.heap.objs.size := fun b m => by
    obtain ⟨o, e, _⟩ := T.obj _ _ live b m
    have lt := Heap.lt_size e
    have ne : b ≠ a := by rw [← ea]; exact Nat.ne_of_lt lt
    exact ⟨⟨(upd_ne ne).trans (apart b m).1, (apart b m).2⟩, by rw [hp3, Heap.size_push]; exact Nat.lt_succ_of_lt lt⟩
  have live3 : tn 0 s3.heap := T.keep _ _ _ live fun b _ o e => by
    rw [hp3]
    exact Heap.get?_push_of_some _ e
  have I4 := block_start I3 ok nd apart3
  generalize eH : upd H2 a (DctX X.prog X.w [] a) = H3 at I3 I4 z0 apart3
  have pg := kg s3 H3 s3.heap.objs.size (cellsFrom (s3.heap.objs.size + 1) scope.names (cloFrom X.env.cells scope.names [])) fp
  have pt := kt s3 H3 s3.heap.objs.size (cellsFrom (s3.heap.objs.size + 1) scope.names (cloFrom X.env.cells scope.names [])) fp
  have pk := kk s3 H3 s3.heap.objs.size (cellsFrom (s3.heap.objs.size + 1) scope.names (cloFrom X.env.cells scope.names [])) fp
  have pv := kv s3 H3 s3.heap.objs.size (cellsFrom (s3.heap.objs.size + 1) scope.names (cloFrom X.env.cells scope.names [])) fp
  show codeAny _ _ (.compStart _ 0 (.ref it) (.ref a) (compEnvC scope (cellsFrom (s3.heap.objs.size + 1) scope.names (cloFrom X.env.cells scope.names [])) s3.heap.objs.size X.env)) (compPost (model X.prog X.w) X.A X.xe none _ (.ref a) s3.heap.objs.size) { s3 with heap := pushCells (s3.heap.push { cls := .type "dict", data := .dict #[] }) scope.names }
  generalize en : compEnvC scope (cellsFrom (s3.heap.objs.size + 1) scope.names (cloFrom X.env.cells scope.names [])) s3.heap.objs.size X.env = env at I4 ⊢
  unfold BX at pg pt pk pv
  rw [en] at pg pt pk pv
  have loc : env.locals = s3.heap.objs.size := by rw [← en]; rfl
  generalize es4 : ({ s3 with heap := pushCells (s3.heap.push { cls := .type "dict", data := .dict #[] }) scope.names } : Shared) = s4 at I4 ⊢
  have live4 : tn 0 s4.heap := T.keep _ _ _ live3 fun b _ o e => by
    rw [← es4]
    exact pushCells_keeps _ _ _ _ (Heap.get?_push_of_some _ e)
  have still : ∀ {σ' : L2.St} {H' : Hp} {s' : Shared}, Inv (X.blk s3 H3 scope env fp) [] σ' H' s' → (∀ b ∈ fp, H' b = none) → ∀ b ∈ fp, FpOk (X.blk s3 H3 scope env fp) [] H' b := fun {σ' H' s'} J' n b m =>
    ⟨n b m, (J'.ok.exf b m).1, J'.ok.exfs b m, .inl m, fun x c e => (J'.ok.exf b m).2 x c e, fun p mp => absurd (show p ∈ ([] : List (Addr × Obj)) ++ [] from mp) (by simp)⟩
  have walk : codeAny (model X.prog X.w) X.A (.compLoop (.DictComp kx vx [⟨tg, iter, ifs, 0⟩] scope pos) 0 (.ref it) (.ref a) env) (compPost (model X.prog X.w) X.A X.xe none (EP X pins σ Q) (.ref a) s3.heap.objs.size) s4 := by
    refine compLoop_anyD (fun n s' => ∃ i H', Inv (X.blk s3 H3 scope env fp) [] (wipe σ (own.map (·.2))) H' s' ∧ tn i s'.heap ∧ (∀ b ∈ fp, H' b = none) ∧ Z i n H') ?_ m0 ⟨0, H3, I4, live4, fun b m => (apart3 b m).1.1, z0⟩
    rintro n s5 ⟨i, H5, I5, live5, none5, z5⟩
    rcases turn i n H5 z5 with ⟨stop, done⟩ | ⟨go, Nx, next, each⟩
    · refine thnF (T.done (X.blk s3 H3 scope env fp) rfl rfl rfl calm i [] s5 _ H5 (fun _ _ => False) I5 (still I5 none5) live5 stop) fun r s6 ⟨er, I6⟩ => ?_
      subst er
      have back : Inv X pins σ H5 s6 := I3.call' (ch := fp) I6.os I6.base I6.hok I6.bare fun b m => let ⟨⟨_, y1, y2, y3, y4, y5⟩, _⟩ := apart3 b m; ⟨y3, y1, y4, y5⟩
      have nC : H5 s3.heap.objs.size = none := loc ▸ (show H5 env.locals = none from I6.free)
      obtain ⟨mm, hn, _⟩ := I6.loc
      obtain ⟨_, f1, _, f3, f4, f5⟩ := I3.fpOk (Nat.le_refl _) nC
      have hn : s6.heap.Ns env.locals mm := hn
      rw [loc] at hn
      exact ⟨mm, hn, fun h'' sb => ⟨.ref a, H5, back.turned (t' := s6.toks) (fun b o hb e => (sb.2 b hb).trans e) nC f1 f3 f4 f5, rfl, done⟩⟩
    · refine thnF (T.item (X.blk s3 H3 scope env fp) rfl rfl rfl calm i [] s5 _ H5 (fun _ _ => False) I5 (still I5 none5) live5 go) fun r s6 ⟨u, er, k6⟩ => ?_
      subst er
      refine thnF k6 fun _ s7 ⟨x, H7, I7, r7, y7, live7, none7⟩ => ?_
      refine thnF (pg.run _ s7 _ H7 x u _ (I7.pinned (still I7 none7) (T.obj _ _ live7)) r7 (each x H7 y7)) fun _ s8 ⟨σ8, H8, I8, same, k8⟩ => ?_
      -- what ends a turn
      have close : ∀ {s' : Shared} {H' : Hp}, Inv (X.blk s3 H3 scope env fp) ([] ++ pinsAt fp s7.heap) σ8 H' s' → Nx H' → ∃ m, m < n ∧ ∃ i H', Inv (X.blk s3 H3 scope env fp) [] (wipe σ (own.map (·.2))) H' s' ∧ tn i s'.heap ∧ (∀ b ∈ fp, H' b = none) ∧ Z i m H' := fun {s' H'} J' nx => by
        obtain ⟨m', lt, z'⟩ := next H' nx
        have pinned : ∀ b ∈ fp, ∀ o, s7.heap.get? b = some o → s'.heap.get? b = some o ∧ H' b = none := fun b m o e =>
          let y := J'.pin (b, o) (List.mem_append_right _ (List.mem_append_right _ (mem_pinsAt m e)))
          ⟨y.1, y.2.1⟩
        refine ⟨m', lt, i + 1, H', J'.unpinned.weak (by rw [← same, wipe_length]) (fun j v e => (wipe_some (by rw [same]; exact e)).1), T.keep _ _ _ live7 fun b m o e => (pinned b m o e).1, fun b m => ?_, z'⟩
        obtain ⟨o, e, _⟩ := T.obj _ _ live7 b m
        exact (pinned b m o e).2
      refine thnF (pt.run _ s8 σ8 H8 _ I8 k8) fun yes s9 ⟨H9, I9, k9⟩ => ?_
      cases yes with
      | false => exact close I9 k9
      | true =>
        refine thnF (pk.run _ s9 σ8 H9 _ I9 k9) fun _ s10 ⟨yk, H10, I10, r10, k10⟩ => ?_
        refine thnF (pv.run _ s10 σ8 H10 _ I10 k10) fun u2 s11 ⟨yv, H11, I11, r11, xs, k, b, ek, hb, hD, hks, few, nx⟩ => ?_
        subst ek
        cases r10
        exact put_dct (X := X.blk s3 H3 scope env fp) I11 hu hD hks hb few fun s12 I12 => close I12 (nx u2)
  exact codeAny_compStart_dict walk (T.self X.A 0 _ _ _ live4 walk)
end
end XS

set_option Elab.async false
set_option linter.all false
set_option maxRecDepth 100000
set_option maxHeartbeats 4000000
namespace DL
open PySem L2 PySem.Spec PyProof.Rows XS
/-! ### a dict of tuples, made by a comprehension; what it is asked -/
def lD : PySem.Leaf → D
  | .none => .non
  | .num i => .int i
  | .text x => .str x
abbrev Kt := List PySem.Leaf
def keyD (k : Kt) : D := .tup (k.map lD)
theorem lD_of {K : Fg} {G : Hp} : ∀ {k : Kt} {vs : List V}, RepL K G vs (k.map lD) → vs = k.map lV
  | [], _, .nil => rfl
  | x :: k, _, .cons r m => by
    rw [lD_of m]
    cases x with
    | none => rw [(show Rep K G _ .non from r).non_of]; rfl
    | num i => rw [(show Rep K G _ (.int i) from r).int_of]; rfl
    | text x => rw [(show Rep K G _ (.str x) from r).str_of]; rfl
theorem key_of {K : Fg} {G : Hp} {v : V} {k : Kt} (r : Rep K G v (keyD k)) : ∃ b, v = .ref b ∧ SqT K G b (k.map lV) := by
  obtain ⟨b, ys, e, h, q⟩ := Rep.tup_of r
  rw [lD_of q] at h
  exact ⟨b, e, h⟩
/-- what a dict knows of its keys -/
def tsOf (xs : List Ent) : List (Addr × List V) := xs.map fun x => (x.2.1, x.1.map lV)
def IsDct (P : Program) (w : World) (f : Addr → HO) (ts : List (Addr × List V)) (ks : List Kt) : Prop := ∃ xs : List Ent, f = DctX P w xs ∧ ts = tsOf xs ∧ ∀ k, k ∈ xs.map (·.1) ↔ k ∈ ks
def dctD (P : Program) (w : World) (ks : List Kt) (d : D) : Prop := ∃ f ts, d = .ext f ts ∧ IsDct P w f ts ks
section
variable {K : Type} [DecidableEq K]
theorem at_mem (xs : List (K × Addr × Value)) (k : K) : (atKey xs k).isSome = decide (k ∈ xs.map (·.1)) := by
  induction xs with
  | nil => rfl
  | cons x xs ih =>
    by_cases h : x.1 = k
    · simp [atKey, h]
    · have h' : ¬ k = x.1 := fun e => h e.symm
      have : (atKey (x :: xs) k) = atKey xs k := by simp [atKey, h]
      rw [this, ih]
      simp [h']
theorem put_mem (xs : List (K × Addr × Value)) (k : K) (b : Addr) (u : Value) (y : K) : y ∈ (storedH xs k b u).map (·.1) ↔ y ∈ xs.map (·.1) ∨ y = k := by
  cases e : atKey xs k with
  | none =>
    rw [storedH_new e, List.map_append, List.mem_append]
    simp
  | some p =>
    rw [storedH_old e, keys_map_putAt]
    refine ⟨.inl, fun h => h.elim id fun z => ?_⟩
    have q := at_mem xs k
    rw [e] at q
    subst z
    exact of_decide_eq_true q.symm
theorem put_of (xs : List (K × Addr × Value)) (k : K) (b : Addr) (u : Value) {x : K × Addr × Value} (h : x ∈ storedH xs k b u) : (∃ y ∈ xs, y.1 = x.1 ∧ y.2.1 = x.2.1) ∨ (x.1 = k ∧ x.2.1 = b) := by
  cases e : atKey xs k with
  | none =>
    rw [storedH_new e, List.mem_append] at h
    rcases h with h | h
    · exact .inl ⟨x, h, rfl, rfl⟩
    · rw [List.mem_singleton] at h
      subst h
      exact .inr ⟨rfl, rfl⟩
  | some p =>
    rw [storedH_old e] at h
    obtain ⟨y, m, rfl⟩ := List.mem_map.mp h
    refine .inl ⟨y, m, ?_⟩
    unfold putAt
    split <;> exact ⟨rfl, rfl⟩
end
/-- the turns -/
def dcD (mg : MG) (mt : MT) (mk mv : ME) (δ : List Sl) (F : List Kt → Prop) : List D → List Kt → Prop
  | [], ks => F ks
  | d :: ds, ks => mg d δ fun δ1 => mt δ1 (fun b => if b = true then mk δ1 (fun y => ∃ k, y = keyD k ∧ mv δ1 (fun _ => dcD mg mt mk mv δ F ds (ks ++ [k])) (fun _ => False)) (fun _ => False) else dcD mg mt mk mv δ F ds ks) (fun _ => False)
def mDc (P : Program) (w : World) (mi : MA) (mg : MG) (mt : MT) (mk mv : ME) (vs : List Nat) : ME := fun δ F X => mi δ (fun ds => ds.length < sizeLine ∧ dcD mg mt mk mv (wipeD δ vs) (fun ks => ∀ d, dctD P w ks d → F d) ds []) X
section
variable {X : Cx} {c : Ct} {W : WX} {is vs : List Nat} {mi : MA} {mg : MG} {mt : MT} {mk mv : ME}
theorem we_dx {wi : TI} {g : TG} {tt : TT} {tk tv : TE} (hv : ∀ i ∈ is, i ∈ vs) (ww : WIC X.K c W wi mi) (wg : WG X.K g is mg) (wt : WT X.K c W0 tt mt) (wk : WE X.K c W0 tk mk) (wv : WE X.K c W0 tv mv) :
    WE X.K c W (tDx X wi g tt tk tv vs) (mDc X.prog X.w mi mg mt mk mv vs) := fun H G σ δ F Y Q cr rs h q x => by
  refine ww H G σ δ _ Y _ cr rs h (fun J ds H1 G1 g1 walk f => ?_) x
  obtain ⟨hz, f⟩ := f
  have cr1 := cr.step g1
  have rs1 := (rs.step cr g1).wipe vs
  intro a ha
  have na : G1 a = none := by
    cases z : G1 a with
    | none => rfl
    | some o =>
      rw [g1.sub _ _ z] at ha
      cases ha
  let Keeps (n : Nat) (H' : Hp) : Prop := ∃ G' xs ks, Go c.dl H1 G1 H' G' ∧ H' a = some (DctX X.prog X.w xs a) ∧ G' a = none ∧ (∀ p ∈ tsOf xs, SqT X.K G' p.1 p.2) ∧ xs.length ≤ n ∧ (∀ k, k ∈ xs.map (·.1) ↔ k ∈ ks) ∧
    dcD mg mt mk mv (wipeD δ vs) (fun ks => ∀ d, dctD X.prog X.w ks d → F d) (ds.drop n) ks
  refine ⟨fun i n H' => n = ds.length - i ∧ i ≤ ds.length ∧ Keeps i H', ⟨ds.length, by simp, Nat.zero_le _, G1, [], [], (Go.mine cr1.sub ha).lift cr1.dlok, upd_same, na, (fun _ m => nomatch m), Nat.le_refl _, (fun k => by simp), f⟩, ?_⟩
  rintro i n H2 ⟨rfl, hi, G2, xs, ks, g2, hA, nG, tup, few, mem, f2⟩
  obtain ⟨w1, w2⟩ := walk i H2 G2 g2
  by_cases hlt : i < ds.length
  · right
    obtain ⟨go, y⟩ := w1 _ (List.getElem?_eq_getElem hlt)
    rw [List.drop_eq_getElem_cons hlt] at f2
    refine ⟨go, Keeps (i + 1), fun H' z => ⟨ds.length - (i + 1), by omega, rfl, hlt, z⟩, fun v H3 hy => ?_⟩
    obtain ⟨G3, g3, r3⟩ := y v H3 hy
    have cr2 : Cr c H2 G2 := cr1.step g2
    have rs2 := rs1.step cr1 g2
    have g3' := g3.lift cr2.dlok
    have stays : ∀ {H4 G4 : Hp}, Go c.dl H2 G2 H4 G4 → H4 a = some (DctX X.prog X.w xs a) ∧ G4 a = none := fun {H4 G4} g4 => by
      refine ⟨g4.keep _ _ hA fun p l e => ?_, ?_⟩
      · obtain ⟨⟨_, _, q1, q2, _⟩, _⟩ := cr1.dlok p l e
        exact ⟨fun z => (by rw [z, q1] at ha; cases ha), fun z => (by rw [z, q2] at ha; cases ha)⟩
      · cases z : G4 a with
        | none => rfl
        | some o =>
          rcases g4.new _ _ z with y | y
          · rw [nG] at y; cases y
          · rw [hA] at y; cases y
    refine wg c H3 G3 (L2.wipe σ vs) (wipeD δ vs) v _ _ _ g3.sub (rs2.step cr2 g3') r3 f2 fun σ4 δ4 rs4 z4 f4 => ⟨?_, ?_⟩
    · rw [z4 vs hv]
      exact wipe_wipe σ vs vs fun _ h => h
    refine wt H3 G3 σ4 δ4 _ _ _ (cr2.step g3') rs4 f4 (fun b H5 G5 g5 f5 => ?_) XW.no
    have g5' := g3'.trans g5
    cases b with
    | true =>
      show tk σ4 H5 _
      refine wk H5 G5 σ4 δ4 _ _ _ ((cr2.step g3').step g5) (rs4.step (cr2.step g3') g5) f5 (fun u d H6 G6 g6 r6 f6 => ?_) XW.no
      obtain ⟨k, rfl, f6⟩ := f6
      have g6' := g5'.trans g6
      refine wv H6 G6 σ4 δ4 _ _ _ (((cr2.step g3').step g5).step g6) ((rs4.step (cr2.step g3') g5).step ((cr2.step g3').step g5) g6) f6 (fun u2 d2 H7 G7 g7 r7 f7 => ?_) XW.no
      have g7' := g6'.trans g7
      obtain ⟨h7, n7⟩ := stays g7'
      obtain ⟨b, rfl, hb⟩ := key_of (r6.mono g7.grow)
      have up : ∀ x ∈ xs, SqT X.K G7 x.2.1 (x.1.map lV) := fun x m => same_t g7'.grow (tup (x.2.1, x.1.map lV) (List.mem_map.mpr ⟨x, m, rfl⟩))
      refine ⟨xs, k, b, rfl, same_t g7.sub hb, h7, fun x m => same_t g7.sub (up x m), Nat.lt_of_le_of_lt few (Nat.lt_trans hlt hz), fun u => ?_⟩
      refine ⟨G7, storedH xs k b u, ks ++ [k], (g2.trans g7').mut cr1.dlok ha n7, upd_same, n7, fun p m => ?_, ?_, fun y => ?_, f7⟩
      · obtain ⟨x, mx, rfl⟩ := List.mem_map.mp m
        rcases put_of xs k b u mx with ⟨y, my, e1, e2⟩ | ⟨e1, e2⟩
        · show SqT X.K G7 x.2.1 (x.1.map lV)
          rw [← e1, ← e2]
          exact up y my
        · show SqT X.K G7 x.2.1 (x.1.map lV)
          rw [e1, e2]
          exact hb
      · have := put_len xs k b u
        omega
      · rw [put_mem, mem, List.mem_append, List.mem_singleton]
    | false =>
      show (if false = true then _ else _)
      refine iteF ?_
      obtain ⟨h6, n6⟩ := stays g5'
      exact ⟨G5, xs, ks, g2.trans g5', h6, n6, fun p m => same_t g5'.grow (tup p m), by omega, mem, f5⟩
  · left
    have he : i = ds.length := by omega
    refine ⟨w2 he, ?_⟩
    rw [he, List.drop_length] at f2
    have gp := g2.pub cr1.dlok ha hA nG
    refine q (.ref a) (.ext (DctX X.prog X.w xs) (tsOf xs)) H2 _ (g1.trans gp) (.ext upd_same fun p m => ?_) (f2 _ ⟨_, _, rfl, xs, rfl, rfl, mem⟩)
    refine same_t (fun b u z => ?_) (tup p m)
    rw [upd_ne (ne_of_none z nG)]
    exact z
end
section
variable {X : Cx} {c : Ct} {W : WX} {kx vx iter tg : Expr} {ifs : List Expr} {scope : Scope} {own : List (Str × Nat)} {pos : Pos} {ti : TI} {mi : MA} {is : List Nat}
theorem de_dc {tgg : TG} {tt : TT} {tk tv : TE} {mg : MG} {mt : MT} {mk mv : ME} (calm : X.calm = true) (hu : X.A.units < cLine) (nd : X.N.Nodup) (hi : DIC X c W tg iter ti mi) (ok : BlkOk X.N X.env.scope scope own) (hv : ∀ i ∈ is, i ∈ own.map (·.2))
    (kg : ∀ s H C cl fp, DG (Blk X scope s H C cl fp) tg tgg is mg) (kt : ∀ s H C cl fp, DTs (Blk X scope s H C cl fp) c W0 ifs tt mt) (kk : ∀ s H C cl fp, DE (Blk X scope s H C cl fp) c W0 kx tk mk) (kv : ∀ s H C cl fp, DE (Blk X scope s H C cl fp) c W0 vx tv mv)
    (fold : ∀ x, foldedSetIterable iter X.env x = pure x := by intro _; rfl) : DE X c W (.DictComp kx vx [⟨tg, iter, ifs, 0⟩] scope pos) (tDx X ti tgg tt tk tv (own.map (·.2))) (mDc X.prog X.w mi mg mt mk mv (own.map (·.2))) :=
  ⟨pe_dx calm hu nd hi.p ok (fun s H C cl fp => (kg s H C cl fp).p) (fun s H C cl fp => (kt s H C cl fp).p) (fun s H C cl fp => (kk s H C cl fp).p) (fun s H C cl fp => (kv s H C cl fp).p) fold,
    we_dx hv hi.w (kg {} (fun _ => none) 0 [] []).w (kt {} (fun _ => none) 0 [] []).w (kk {} (fun _ => none) 0 [] []).w (kv {} (fun _ => none) 0 [] []).w⟩
variable {tgg : Shared → Hp → Addr → List (Str × Addr) → List Addr → TG} {mg : Shared → Hp → Addr → List (Str × Addr) → List Addr → MG} {tt : Shared → Hp → Addr → List (Str × Addr) → List Addr → TT} {mt : Shared → Hp → Addr → List (Str × Addr) → List Addr → MT}
  {tk tv : Shared → Hp → Addr → List (Str × Addr) → List Addr → TE} {mk mv : Shared → Hp → Addr → List (Str × Addr) → List Addr → ME}
theorem de_dcF (calm : X.calm = true) (hu : X.A.units < cLine) (nd : X.N.Nodup) (hi : DIC X c W tg iter ti mi) (ok : BlkOk X.N X.env.scope scope own) (hv : ∀ i ∈ is, i ∈ own.map (·.2))
    (kg : ∀ s H C cl fp, DG (Blk X scope s H C cl fp) tg (tgg s H C cl fp) is (mg s H C cl fp)) (kt : ∀ s H C cl fp, DTs (Blk X scope s H C cl fp) c W0 ifs (tt s H C cl fp) (mt s H C cl fp))
    (kk : ∀ s H C cl fp, DE (Blk X scope s H C cl fp) c W0 kx (tk s H C cl fp) (mk s H C cl fp)) (kv : ∀ s H C cl fp, DE (Blk X scope s H C cl fp) c W0 vx (tv s H C cl fp) (mv s H C cl fp))
    (fold : ∀ x, foldedSetIterable iter X.env x = pure x := by intro _; rfl)
    (q1 : ∀ s H C cl fp, tgg s H C cl fp = z5 tgg := by intros; rfl) (q2 : ∀ s H C cl fp, mg s H C cl fp = z5 mg := by intros; rfl) (q3 : ∀ s H C cl fp, tt s H C cl fp = z5 tt := by intros; rfl)
    (q4 : ∀ s H C cl fp, mt s H C cl fp = z5 mt := by intros; rfl) (q5 : ∀ s H C cl fp, tk s H C cl fp = z5 tk := by intros; rfl) (q6 : ∀ s H C cl fp, mk s H C cl fp = z5 mk := by intros; rfl)
    (q7 : ∀ s H C cl fp, tv s H C cl fp = z5 tv := by intros; rfl) (q8 : ∀ s H C cl fp, mv s H C cl fp = z5 mv := by intros; rfl) :
    DE X c W (.DictComp kx vx [⟨tg, iter, ifs, 0⟩] scope pos) (tDx X ti (z5 tgg) (z5 tt) (z5 tk) (z5 tv) (own.map (·.2))) (mDc X.prog X.w mi (z5 mg) (z5 mt) (z5 mk) (z5 mv) (own.map (·.2))) :=
  de_dc calm hu nd hi ok hv (fun s H C cl fp => by rw [← q1 s H C cl fp, ← q2 s H C cl fp]; exact kg s H C cl fp) (fun s H C cl fp => by rw [← q3 s H C cl fp, ← q4 s H C cl fp]; exact kt s H C cl fp)
    (fun s H C cl fp => by rw [← q5 s H C cl fp, ← q6 s H C cl fp]; exact kk s H C cl fp) (fun s H C cl fp => by rw [← q7 s H C cl fp, ← q8 s H C cl fp]; exact kv s H C cl fp) fold
end
/-! k in d, k not in d -/
section
variable {X : Cx}
def rInX (X : Cx) (neg : Bool) : R2 := fun x y H Q => ∃ (a b : Addr) (xs : List Ent) (k : Kt), x = .ref b ∧ y = .ref a ∧ SqT X.K H b (k.map lV) ∧ H a = some (DctX X.prog X.w xs a) ∧ (∀ x ∈ xs, SqT X.K H x.2.1 (x.1.map lV)) ∧ Q (.bl (neg ^^ decide (k ∈ xs.map (·.1)))) H
theorem op_inX (hu : X.A.units + 1 < cLine) : OpR X (compareOp .In) (rInX X false) := by
  intro pins s σ H x y v u Q I rx ry h
  obtain ⟨a, b, xs, k, rfl, rfl, hb, ha, hk, q⟩ := h
  cases (show v = Value.ref b from rx)
  cases (show u = Value.ref a from ry)
  have R : DLies X.prog X.w s.heap a xs := (I.hok a _ ha).1
  exact wpAny_in_heap (knd := LK X.prog X.w) (tupleKind_room_in1 hu) (lkey I hb) R.far (R.full fun x hx => lkey I (hk x hx)) (fin_bl (I.tok _) q (by rw [at_mem]; simp))
theorem op_notInX (hu : X.A.units + 1 < cLine) : OpR X (compareOp .NotIn) (rInX X true) := by
  intro pins s σ H x y v u Q I rx ry h
  obtain ⟨a, b, xs, k, rfl, rfl, hb, ha, hk, q⟩ := h
  cases (show v = Value.ref b from rx)
  cases (show u = Value.ref a from ry)
  have R : DLies X.prog X.w s.heap a xs := (I.hok a _ ha).1
  exact notIn_keyed (knd := LK X.prog X.w) (tupleKind_room_in1 hu) (lkey I hb) R.far ⟨xs, R.full fun x hx => lkey I (hk x hx), rfl⟩ (fin_bl (I.tok _) q (by rw [valueAt_pairsH, Option.isSome_map, at_mem]; simp))
def gInX (P : Program) (w : World) (neg : Bool) (d e : D) (F : D → Prop) : Prop := ∃ k ks, d = keyD k ∧ dctD P w ks e ∧ F (.bl (neg ^^ decide (k ∈ ks)))
theorem rd_inX {neg : Bool} : RD X.K (rInX X neg) (gInX X.prog X.w neg) := fun H G x y d e F Q s rx ry h go => by
  obtain ⟨k, ks, rfl, ⟨f, ts, rfl, xs, rfl, rfl, mem⟩, fin⟩ := h
  obtain ⟨b, rfl, hb⟩ := key_of rx
  obtain ⟨a, rfl, ha, tup⟩ := ry.ext_of
  have e : decide (k ∈ xs.map (·.1)) = decide (k ∈ ks) := decide_eq_decide.mpr (mem k)
  refine ⟨a, b, xs, k, rfl, rfl, same_t s hb, s _ _ ha, fun x m => same_t s (tup (x.2.1, x.1.map lV) (List.mem_map.mpr ⟨x, m, rfl⟩)), go _ _ H G (Go.refl s .no) ?_ fin⟩
  rw [e]
  exact .bl _
end
end DL

set_option Elab.async false
set_option linter.all false
set_option maxRecDepth 100000
set_option maxHeartbeats 4000000
namespace DL
open PySem L2 PySem.Spec PyProof.Rows
/-! ### two loops in one list, a name each -/
def lc1D (j : Nat) (me : ME) (δ : List Sl) (F : List D → Prop) : List D → List D → Prop
  | [], acc => F acc
  | d :: ds, acc => me (δ.set j (.dat d)) (fun r => acc.length < sizeLine ∧ lc1D j me δ F ds (acc ++ [r])) (fun _ => False)
def lc2D (i j : Nat) (mi1 : MA) (me : ME) (δ : List Sl) (F : List D → Prop) : List D → List D → Prop
  | [], acc => F acc
  | d :: ds, acc => mi1 (δ.set i (.dat d)) (fun es => lc1D j me (wipeD (δ.set i (.dat d)) [j]) (fun acc => lc2D i j mi1 me δ F ds acc) es acc) (fun _ => False)
def mLc2 (i j : Nat) (mi mi1 : MA) (me : ME) (vs : List Nat) : ME := fun δ F X => mi δ (fun ds => lc2D i j mi1 me (wipeD δ vs) (fun r => F (.lst r)) ds []) X
section
variable {K : Fg} {c : Ct} {W : WX} {p r : Nat} {vs : List Nat} {mi mi1 : MA} {me : ME}
theorem we_lc2 {wi wi1 : TI} {te : TE} (hp : p ∈ vs) (ww : WIC K c W wi mi) (ww1 : WI K c W0 wi1 mi1) (we : WE K c W0 te me) :
    WE K c W (tLc2 wi (gName p) tYes wi1 (gName r) tYes te vs [r]) (mLc2 p r mi mi1 me vs) := fun H G σ δ F Y Q cr rs h q x => by
  refine ww H G σ δ _ Y _ cr rs h (fun J ds H1 G1 go1 walk f => ?_) x
  have cr1 := cr.step go1
  have rs1 := (rs.step cr go1).wipe vs
  intro a ha
  have na : G1 a = none := by
    cases z : G1 a with
    | none => rfl
    | some o =>
      rw [go1.sub _ _ z] at ha
      cases ha
  -- what is known of the new list
  let Has (H' G' : Hp) (rr : List D) : Prop := ∃ acc, Go c.dl H1 G1 H' G' ∧ H' a = some (.lst acc) ∧ G' a = none ∧ RepL K G' acc rr
  have stays : ∀ {H2 G2 H4 G4 : Hp} {rr : List D}, Has H2 G2 rr → Go c.dl H2 G2 H4 G4 → Has H4 G4 rr := fun {H2 G2 H4 G4 rr} ⟨acc, g2, hA, nG, ra⟩ g4 => by
    refine ⟨acc, g2.trans g4, g4.keep _ _ hA fun p l e => ?_, ?_, ra.mono g4.grow⟩
    · obtain ⟨⟨_, _, q1, q2, _⟩, _⟩ := cr1.dlok p l e
      exact ⟨fun z => (by rw [z, q1] at ha; cases ha), fun z => (by rw [z, q2] at ha; cases ha)⟩
    · cases z : G4 a with
      | none => rfl
      | some o =>
        rcases g4.new _ _ z with y | y
        · rw [nG] at y; cases y
        · rw [hA] at y; cases y
  let Keeps (n : Nat) (H' : Hp) : Prop := ∃ G' rr, Has H' G' rr ∧ lc2D p r mi1 me (wipeD δ vs) (fun r => F (.lst r)) (ds.drop n) rr
  refine ⟨fun i n H' => n = ds.length - i ∧ i ≤ ds.length ∧ Keeps i H', ⟨ds.length, by simp, Nat.zero_le _, G1, [], ⟨[], (Go.mine cr1.sub ha).lift cr1.dlok, upd_same, na, .nil⟩, f⟩, ?_⟩
  rintro i n H2 ⟨rfl, hi, G2, rr, has, f2⟩
  have g2 : Go c.dl H1 G1 H2 G2 := has.choose_spec.1
  obtain ⟨w1, w2⟩ := walk i H2 G2 g2
  by_cases hlt : i < ds.length
  · right
    obtain ⟨go, y⟩ := w1 _ (List.getElem?_eq_getElem hlt)
    rw [List.drop_eq_getElem_cons hlt] at f2
    refine ⟨go, Keeps (i + 1), fun H' z => ⟨ds.length - (i + 1), by omega, rfl, hlt, z⟩, fun v H3 hy => ?_⟩
    obtain ⟨G3, g3, r3⟩ := y v H3 hy
    have cr2 : Cr c H2 G2 := cr1.step g2
    have g3' := g3.lift cr2.dlok
    have has3 := stays has g3'
    have slots : ∀ {H' G' : Hp}, Go c.dl H1 G1 H' G' → Same G3 G' → RS K c H' G' ((L2.wipe σ vs).set p (some v)) ((wipeD δ vs).set p (.dat ds[i])) := fun {H' G'} g s => (rs1.step cr1 g).set p (r3.mono s)
    refine ⟨(wipe_set _ p _ vs hp).trans (wipe_wipe σ vs vs fun _ h => h), ?_⟩
    show wi1 ((L2.wipe σ vs).set p (some v)) H3 _
    refine ww1 H3 G3 _ _ _ _ _ (cr2.step g3') (slots (g2.trans g3') (Same.refl _)) f2 (fun J1 es H5 G5 g5 walk1 f5 => ?_) XW.no
    have has5 := stays has3 g5
    let Keeps1 (j : Nat) (H' : Hp) : Prop := ∃ G' rr, Same G5 G' ∧ Has H' G' rr ∧ lc1D r me (wipeD ((wipeD δ vs).set p (.dat ds[i])) [r]) (fun acc => lc2D p r mi1 me (wipeD δ vs) (fun r => F (.lst r)) (ds.drop (i + 1)) acc) (es.drop j) rr
    refine ⟨fun j k H' => k = es.length - j ∧ j ≤ es.length ∧ Keeps1 j H', ⟨es.length, by simp, Nat.zero_le _, G5, rr, Same.refl _, has5, f5⟩, ?_⟩
    rintro j k H6 ⟨rfl, hj, G6, rr6, s6, has6, f6⟩
    have g6 : Go c.dl H1 G1 H6 G6 := has6.choose_spec.1
    obtain ⟨v1, v2⟩ := walk1 j H6 G6 s6 g6.sub
    by_cases hlt1 : j < es.length
    · right
      obtain ⟨go1', y1⟩ := v1 _ (List.getElem?_eq_getElem hlt1)
      rw [List.drop_eq_getElem_cons hlt1] at f6
      refine ⟨go1', Keeps1 (j + 1), fun H' z => ⟨es.length - (j + 1), by omega, rfl, hlt1, z⟩, fun u H7 hy1 => ?_⟩
      obtain ⟨G7, g7, r7⟩ := y1 u H7 hy1
      have cr6 : Cr c H6 G6 := cr1.step g6
      have g7' := g7.lift cr6.dlok
      have s7 : Same G5 G7 := s6.trans g7.grow
      have rs7 := ((slots (g6.trans g7') (g5.grow.trans s7)).wipe [r]).set r r7
      refine ⟨(wipe_set _ r _ [r] (by simp)).trans (wipe_wipe _ [r] [r] fun _ h => h), ?_⟩
      show te _ H7 _
      refine we H7 G7 _ _ _ _ _ (cr6.step g7') rs7 f6 (fun u2 d2 H9 G9 g9 r9 f9 => ?_) XW.no
      obtain ⟨acc, h1, h2, h3, h4⟩ := stays (stays has6 g7') g9
      have few : acc.length < sizeLine := by rw [h4.length]; exact f9.1
      exact ⟨acc, h2, few, G9, rr6 ++ [d2], s7.trans g9.grow, ⟨acc ++ [u2], h1.mut cr1.dlok ha h3, upd_same, h3, h4.append (.cons r9 .nil)⟩, f9.2⟩
    · left
      have he : j = es.length := by omega
      rw [he, List.drop_length] at f6
      exact ⟨v2 he, G6, rr6, has6, f6⟩
  · left
    have he : i = ds.length := by omega
    refine ⟨w2 he, ?_⟩
    rw [he, List.drop_length] at f2
    obtain ⟨acc, g2, hA, nG, ra⟩ := has
    have gp := g2.pub cr1.dlok ha hA nG
    refine q _ _ H2 _ (go1.trans gp) (.lst upd_same (ra.mono fun b u z => ?_)) f2
    rw [upd_ne (ne_of_none z nG)]
    exact z
end
section
variable {X : Cx} {c : Ct} {W : WX} {elt iter iter1 : Expr} {scope : Scope} {own : List (Str × Nat)} {pos p1 p2 : Pos} {ti : TI} {mi : MA} {x y : Str}
theorem de_lc2 (i j : Nat) {ti1 : TI} {mi1 : MA} {te : TE} {me : ME} (calm : X.calm = true) (nd : X.N.Nodup) (hi : DIC X c W (.Name x p1) iter ti mi) (ok : BlkOk X.N X.env.scope scope own) (mi_ : i ∈ own.map (·.2)) (mj : j ∈ own.map (·.2))
    (kg : ∀ s H C cl fp, DG (Blk X scope s H C cl fp) (.Name x p1) (gName i) [i] (mgName i)) (kg1 : ∀ s H C cl fp, DG (Blk X scope s H C cl fp) (.Name y p2) (gName j) [j] (mgName j))
    (ki : ∀ s H C cl fp, DI (Blk X scope s H C cl fp) c W0 (.Name y p2) iter1 ti1 mi1) (ke : ∀ s H C cl fp, DE (Blk X scope s H C cl fp) c W0 elt te me)
    (f1 : ∀ x, foldedSetIterable iter X.env x = pure x := by intro _; rfl) (f2 : ∀ env x, foldedSetIterable iter1 env x = pure x := by intro _ _; rfl) :
    DE X c W (.ListComp elt [⟨.Name x p1, iter, [], 0⟩, ⟨.Name y p2, iter1, [], 0⟩] scope pos) (tLc2 ti (gName i) tYes ti1 (gName j) tYes te (own.map (·.2)) [j]) (mLc2 i j mi mi1 me (own.map (·.2))) :=
  ⟨pe_lc2 calm nd hi.p ok (fun z h => by rw [List.mem_singleton.mp h]; exact mj) (fun s H C cl fp => (kg s H C cl fp).p) (fun _ _ _ _ _ => pts_nil) (fun s H C cl fp => (ki s H C cl fp).p) (fun s H C cl fp => (kg1 s H C cl fp).p) (fun _ _ _ _ _ => pts_nil) (fun s H C cl fp => (ke s H C cl fp).p) f1 f2,
    we_lc2 mi_ hi.w (ki {} (fun _ => none) 0 [] []).w (ke {} (fun _ => none) 0 [] []).w⟩
variable {ti1 : Shared → Hp → Addr → List (Str × Addr) → List Addr → TI} {mi1 : Shared → Hp → Addr → List (Str × Addr) → List Addr → MA} {te : Shared → Hp → Addr → List (Str × Addr) → List Addr → TE} {me : Shared → Hp → Addr → List (Str × Addr) → List Addr → ME}
theorem de_lc2F (i j : Nat) (calm : X.calm = true) (nd : X.N.Nodup) (hi : DIC X c W (.Name x p1) iter ti mi) (ok : BlkOk X.N X.env.scope scope own) (mi_ : i ∈ own.map (·.2)) (mj : j ∈ own.map (·.2))
    (kg : ∀ s H C cl fp, DG (Blk X scope s H C cl fp) (.Name x p1) (gName i) [i] (mgName i)) (kg1 : ∀ s H C cl fp, DG (Blk X scope s H C cl fp) (.Name y p2) (gName j) [j] (mgName j))
    (ki : ∀ s H C cl fp, DI (Blk X scope s H C cl fp) c W0 (.Name y p2) iter1 (ti1 s H C cl fp) (mi1 s H C cl fp)) (ke : ∀ s H C cl fp, DE (Blk X scope s H C cl fp) c W0 elt (te s H C cl fp) (me s H C cl fp))
    (f1 : ∀ x, foldedSetIterable iter X.env x = pure x := by intro _; rfl) (f2 : ∀ env x, foldedSetIterable iter1 env x = pure x := by intro _ _; rfl)
    (q1 : ∀ s H C cl fp, ti1 s H C cl fp = z5 ti1 := by intros; rfl) (q2 : ∀ s H C cl fp, mi1 s H C cl fp = z5 mi1 := by intros; rfl) (q3 : ∀ s H C cl fp, te s H C cl fp = z5 te := by intros; rfl) (q4 : ∀ s H C cl fp, me s H C cl fp = z5 me := by intros; rfl) :
    DE X c W (.ListComp elt [⟨.Name x p1, iter, [], 0⟩, ⟨.Name y p2, iter1, [], 0⟩] scope pos) (tLc2 ti (gName i) tYes (z5 ti1) (gName j) tYes (z5 te) (own.map (·.2)) [j]) (mLc2 i j mi (z5 mi1) (z5 me) (own.map (·.2))) :=
  de_lc2 i j calm nd hi ok mi_ mj kg kg1 (fun s H C cl fp => by rw [← q1 s H C cl fp, ← q2 s H C cl fp]; exact ki s H C cl fp) (fun s H C cl fp => by rw [← q3 s H C cl fp, ← q4 s H C cl fp]; exact ke s H C cl fp) f1 f2
end
end DL

set_option Elab.async false
set_option linter.all false
set_option maxRecDepth 100000
set_option maxHeartbeats 4000000
namespace XS
open PySem L2 PySem.Spec PyProof.Rows
/-! ### enumerate of a tuple -/
theorem meets_enumT {v : Value} {o : Obj} {J : Heap → Prop} (B : Begins v o J) : Meets (Builtin.«enumerate.__new__» ⟨[.type "enumerate", v], []⟩) (fun _ R s => J s.heap ∧
    R (.ok (.ret (.ref (s.heap.push o).objs.size))) { s with heap := (s.heap.push o).push { cls := .type "enumerate", data := .fields #[.none, .bool false, .ref s.heap.objs.size, rawInt 0, .none, .none] } }) :=
  .of_wp fun P w A R s ⟨j, h⟩ => by
    obtain ⟨hp, g, d, tk, os⟩ := s
    have sub := sub_enumerate
    have go : ∀ {A2 : Around} {E2 : Value → Shared → Prop} {Q2 : Value → Shared → Prop}, Q2 (.ref hp.objs.size) ⟨hp.push o, g, d, tk, os⟩ → wpAny (model P w) A2 (pyIter v) Q2 E2 ⟨hp, g, d, tk, os⟩ := fun q => B.iter P w _ _ ⟨hp, g, d, tk, os⟩ _ j q
    wp_walk using go
    refine wpAny_stack_any fun _ => wpAny_pure ?_
    split
    · rename_i c _ _ _ _ _
      cases (c == Value.type "enumerate") <;> (wp_walk using go; exact ⟨_, rfl, h⟩)
    · wp_walk using go
      exact ⟨_, rfl, h⟩
theorem call_enumT {P : Program} {w : World} {A : Around} {E : Value → Shared → Prop} {s : Shared} {v : Value} {o : Obj} {J : Heap → Prop} {Q : Value → Shared → Prop} (B : Begins v o J) (j : J s.heap)
    (h : ∀ h', IsEnum h' (s.heap.objs.size + 1) s.heap.objs.size 0 .none → h'.get? s.heap.objs.size = some o → (∀ b u, s.heap.get? b = some u → h'.get? b = some u) → Q (.ref (s.heap.objs.size + 1)) { s with heap := h' }) : wpAny (model P w) A (call (.type "enumerate") [v]) Q E s := by
  refine callType_new F.called_enumerate (by decide) (F.typeCall_enumerate_1 _) (F.newCall_enumerate_1 _) (fun obj => F.args_object_init_2 obj _) F.entry_enumerate_new (meets_enumT B) ⟨j, ?_⟩
  have sz : (s.heap.push o).objs.size = s.heap.objs.size + 1 := Heap.size_push ..
  show _ ∧ _
  rw [sz]
  have at_ := Heap.get?_push_size (s.heap.push o) (o := { cls := .type "enumerate", data := .fields #[.none, .bool false, .ref s.heap.objs.size, rawInt 0, .none, .none] }) rfl
  rw [sz] at at_
  exact ⟨⟨_, at_, rfl⟩, h _ at_ (Heap.get?_push_of_some _ (Heap.get?_push_size _ B.free)) fun b u x => Heap.get?_push_of_some _ (Heap.get?_push_of_some _ x)⟩
/-- the tuple at a, each item in a new pair -/
def Itet (K : PySem.W.Frag) (a : Addr) : It where
  go := fun i H => ∃ (xs : List V) (x : V), SqT K H a xs ∧ xs[i]? = some x
  yld := fun i H v H' => ∃ T x, v = .ref T ∧ H T = none ∧ H' = upd H T (.tup [.int (i : Nat), x]) ∧ ∀ xs, SqT K H a xs → xs[i]? = some x
  stop := fun i H => ∃ xs : List V, SqT K H a xs ∧ i = xs.length
theorem turn_enumT {P : Program} {w : World} {K : PySem.W.Frag} {elts : List Expr} {kk : Nat} {tpos : Pos} (a e it : Addr) :
    Turn P w K (.Tuple elts kk tpos) (Itet K a) [e, it] e (fun i h => (∃ old, IsEnum h e it ((i : Nat) : Int) old) ∧ h.IsTupleIter it a i ∧ e ≠ it) where
  mem := by simp
  obj := fun i h ⟨⟨old, he⟩, ⟨o, ho, _, hd⟩, _⟩ b m => by
    rcases (show b = e ∨ b = it by simpa using m) with rfl | rfl
    · exact ⟨_, he, fun v q => nomatch q⟩
    · exact ⟨o, ho, fun v q => by rw [hd] at q; cases q⟩
  keep := fun i h h' ⟨⟨old, he⟩, hi, ne⟩ k => ⟨⟨old, k e (by simp) _ he⟩, hi.at fun o q => k it (by simp) o q, ne⟩
  item := by
    intro X hP hw hK calm i pins s σ H E I hf ⟨⟨old, he⟩, hit, ne⟩ ⟨xs, x, hq, hx⟩
    subst hP hw hK
    obtain ⟨its, rv, pl, _⟩ := I.tuple hq
    obtain ⟨u, hu, ru⟩ := rv.get hx
    have le := Heap.lt_size he
    have far : e ≠ a := fun z => by
      obtain ⟨o, ho, hc, _⟩ := pl
      rw [← z, he] at ho
      cases ho
      exact absurd hc (by simp)
    have ei : i < its.toArray.size := by
      rw [List.size_toArray]
      exact (List.getElem?_eq_some_iff.mp hu).1
    have apart : it ≠ a := fun z => by
      obtain ⟨o, ho, hc, _⟩ := pl
      obtain ⟨o2, ho2, hc2, _⟩ := hit
      rw [z, ho] at ho2
      cases ho2
      rw [hc] at hc2
      exact absurd hc2 (by simp)
    refine wpAny_pyNext_enum_itemD (Draws.tuple (by exact I.ok.hd calm) it a (Ne.symm apart) its.toArray) he ⟨hit, pl⟩ ei ne (by simp [ne, far]) fun y h1 tk hy out ⟨hit1, _⟩ hT hsz hk => ?_
    have ey : y = u := by
      have hy : its.toArray[i]? = some y := hy
      rw [show its.toArray[i]? = some u by simpa using hu] at hy
      exact (Option.some.inj hy).symm
    subst ey
    refine ⟨_, rfl, wpAny_letOwnedTupleGo_enum (s := { s with heap := h1, toks := tk + 1 }) out fun h2 he2 sb => ?_⟩
    have hT2 := (sb.2 _ (Nat.ne_of_gt le)).trans hT
    have new : ObjOk X.prog X.w (upd H s.heap.objs.size (.tup [.int (i : Nat), x])) h2 s.heap.objs.size (.tup [.int (i : Nat), x]) := ⟨by show 2 ≤ sizeLine; decide, [.int i tk, y], .cons ⟨_, rfl⟩ (.cons ru .nil), ⟨_, hT2, rfl, _, rfl⟩⟩
    have I1 : Inv X pins σ (upd H s.heap.objs.size (.tup [.int (i : Nat), x])) { s with heap := h2, toks := tk + 1 } :=
      I.turnedNew (ch := [e, it]) (fun b ob nb q => (sb.2 b fun z => nb (by simp [z])).trans (hk b ob (fun z => nb (by simp [z])) (fun z => nb (by simp [z])) q)) hf (Nat.le_refl _) new
    refine ⟨.ref s.heap.objs.size, _, I1, rfl, ⟨_, x, rfl, I.hok.fresh (Nat.le_refl _), rfl, fun ys hy => by rw [I.tuple_inj hy hq]; exact hx⟩, ⟨⟨y, ?_⟩, hit1.at fun o q => (sb.2 it (Ne.symm ne)).trans q, ne⟩, fun b m => ?_⟩
    · rw [show ((i + 1 : Nat) : Int) = (i : Int) + 1 by omega]
      exact he2
    · have lb : b < s.heap.objs.size := by
        rcases (show b = e ∨ b = it by simpa using m) with rfl | rfl
        · exact le
        · obtain ⟨_, q, _⟩ := hit
          exact Heap.lt_size q
      exact (upd_ne (Nat.ne_of_lt lb)).trans (hf b m).1
  done := by
    intro X hP hw hK calm i pins s σ H E I hf ⟨⟨old, he⟩, hit, ne⟩ ⟨xs, hq, hx⟩
    subst hP hw hK
    obtain ⟨its, rv, pl, _⟩ := I.tuple hq
    obtain ⟨f0, f1, f2, f3, f4, f5⟩ := hf it (by simp)
    have ln := rv.length
    have apart : it ≠ a := fun z => by
      obtain ⟨o, ho, hc, _⟩ := pl
      obtain ⟨o2, ho2, hc2, _⟩ := hit
      rw [z, ho] at ho2
      cases ho2
      rw [hc] at hc2
      exact absurd hc2 (by simp)
    have hit : s.heap.IsTupleIter it a its.toArray.size := by
      rw [List.size_toArray, ← ln, ← hx]
      exact hit
    exact wpAny_pyNext_enum_endD (Draws.tuple (by exact I.ok.hd calm) it a (Ne.symm apart) its.toArray) he ⟨hit, pl⟩ fun h' eb => ⟨rfl, I.turned (t' := s.toks) (fun b o nb q => eb b o nb q) f0 f1 f3 f4 f5⟩
  self := fun A i s Q E ⟨⟨_, he⟩, _⟩ h => wpAny_pyIter_enum he h
def iEnumT (K : PySem.W.Frag) (ta : TA) : TI := fun σ H R => ta σ H fun vs H1 => ∃ a xs, vs = [.ref a] ∧ SqT K H1 a xs ∧ R (Itet K a) H1
theorem pi_enumT {X : Cx} {e : Expr} {ta : TA} {p pos tpos : Pos} {elts : List Expr} {kk : Nat} (hg : Gl X "enumerate") (hm : X.mg "enumerate" = none) (ha : PA X [e] ta) (hs : starEach [e] X.env = [(false, eval e X.env)] := by rfl) :
    PI X (.Tuple elts kk tpos) (.Call (.Name "enumerate" p) [e] [] pos) (iEnumT X.K ta) := by
  refine ⟨fun pins s σ H R I h => Call_ (ld_blt I hg hm boot_enumerate (PyProof.Rows.callWith_type1 (thn (ha.run pos pins s σ H _ I h) fun us s1 ⟨vs, H1, I1, r1, a, xs, ex, hq, q⟩ => ?_) hs rfl))⟩
  subst ex
  obtain rfl := Vals.ref1 r1
  obtain ⟨its, _, pl, _⟩ := I1.tuple hq
  refine call_enumT (begins_tuple a its.toArray) pl fun h' he at_ kept => wpAny_pyIter_enum he ?_
  refine ⟨s1.heap.objs.size + 1, [s1.heap.objs.size + 1, s1.heap.objs.size], _, _, H1, rfl, I1.kept (t' := s1.toks) kept, turn_enumT a (s1.heap.objs.size + 1) s1.heap.objs.size, ⟨⟨.none, he⟩, ⟨_, at_, rfl, rfl⟩, Nat.succ_ne_self _⟩, fun b m => ?_, q⟩
  have le : s1.heap.objs.size ≤ b := by
    rcases (show b = s1.heap.objs.size + 1 ∨ b = s1.heap.objs.size by simpa using m) with rfl | rfl
    · exact Nat.le_succ _
    · exact Nat.le_refl _
  exact I1.fpOk le (I1.hok.fresh le)
end XS
namespace DL
open PySem L2 PySem.Spec PyProof.Rows XS
theorem walk_enumT {K : Fg} {G0 : Hp} {a : Addr} {xs : List V} {as : List D} (ha : SqT K G0 a xs) (ra : RepL K G0 xs as) : IsWalk K G0 (Itet K a) (enumD 0 as) := fun i H G s sg => by
  have hA : SqT K H a xs := same_t sg (same_t s ha)
  refine ⟨fun d e => ?_, fun e => ⟨xs, hA, by rw [enumD_len] at e; rw [ra.length]; exact e⟩⟩
  rw [enumD_get] at e
  cases e1 : as[i]? with
  | none => rw [e1] at e; cases e
  | some u =>
    rw [e1] at e
    cases e
    obtain ⟨x, f1, r1⟩ := ra.get e1
    refine ⟨⟨xs, x, hA, f1⟩, fun v H' ⟨T, x', h1, h2, h3, h4⟩ => ?_⟩
    subst h1 h3
    have h4 := h4 _ hA
    rw [f1] at h4
    cases h4
    have gl := Go.laid (o := .tup [.int (i : Nat), x]) sg h2
    refine ⟨_, gl, .tup (SqT.of upd_same) (.cons ?_ (.cons ((r1.mono s).mono gl.grow) .nil))⟩
    rw [Nat.zero_add]
    exact .int _
def miEnumT (ma : ME) : MA := fun δ F X => ma δ (fun d => match d with
  | .tup ds => F (enumD 0 ds)
  | _ => False) X
theorem di_enumT {X : Cx} {c : Ct} {W : WX} {e : Expr} {ta : TE} {ma : ME} {p pos tpos : Pos} {elts : List Expr} {kk : Nat} (hg : Gl X "enumerate") (hm : X.mg "enumerate" = none) (ha : DE X c W e ta ma) (hs : starEach [e] X.env = [(false, eval e X.env)] := by rfl) :
    DI X c W (.Tuple elts kk tpos) (.Call (.Name "enumerate" p) [e] [] pos) (iEnumT X.K (tCons ta tNil)) (miEnumT ma) := by
  refine ⟨pi_enumT hg hm (pa_cons ha.p pa_nil hs) hs, fun H G σ δ F Y R cr rs h q x => ?_⟩
  refine ha.w H G σ δ _ _ _ cr rs h (fun v d H1 G1 g1 r1 h1 => ?_) x
  split at h1
  · obtain ⟨a, xs, rfl, g2, r2⟩ := r1.tup_of
    exact ⟨a, xs, rfl, same_t g1.sub g2, q _ _ H1 G1 g1 (walk_enumT g2 r2) h1⟩
  · exact h1.elim
end DL

set_option Elab.async false
set_option linter.all false
set_option maxRecDepth 100000
set_option maxHeartbeats 4000000
namespace DL
open PySem L2 PySem.Spec PyProof.Rows XS
/-! ### rows of cells, as data -/
abbrev Rw := List (Option Str)
def cD : Option Str → D
  | none => .non
  | some x => .str x
def rowD (r : Rw) : D := .tup (r.map cD)
def toL : Option Str → PySem.Leaf
  | none => .none
  | some x => .text x
def toK (r : Rw) : Kt := r.map toL
theorem toL_inj {x y : Option Str} (h : toL x = toL y) : x = y := by
  cases x <;> cases y <;> cases h <;> rfl
theorem toK_inj : ∀ {r s : Rw}, toK r = toK s → r = s
  | [], [], _ => rfl
  | [], _ :: _, h => nomatch h
  | _ :: _, [], h => nomatch h
  | x :: r, y :: s, h => by
    obtain ⟨h1, h2⟩ := List.cons.inj h
    rw [toL_inj h1, toK_inj h2]
theorem keyD_row (r : Rw) : keyD (toK r) = rowD r := by
  unfold keyD toK rowD
  rw [List.map_map]
  congr 1
  refine List.map_congr_left fun x _ => ?_
  cases x <;> rfl
/-- the places of the texts -/
def plcF : Nat → Rw → List Int
  | _, [] => []
  | k, none :: r => plcF (k + 1) r
  | k, some _ :: r => (k : Int) :: plcF (k + 1) r
def plc (r : Rw) : List Int := plcF 0 r
theorem plcF_lt : ∀ (r : Rw) (k : Nat) (i : Int), i ∈ plcF k r → (k : Int) ≤ i ∧ i < (k : Int) + r.length
  | [], _, _, h => nomatch h
  | none :: r, k, i, h => by
    have := plcF_lt r (k + 1) i h
    rw [List.length_cons]
    omega
  | some _ :: r, k, i, h => by
    rcases List.mem_cons.mp h with rfl | h
    · rw [List.length_cons]; omega
    · have := plcF_lt r (k + 1) i h
      rw [List.length_cons]
      omega
theorem plc_lt {r : Rw} {i : Int} (h : i ∈ plc r) : 0 ≤ i ∧ i < r.length := by
  have := plcF_lt r 0 i h
  omega
theorem plcF_nodup : ∀ (r : Rw) (k : Nat), (plcF k r).Nodup
  | [], _ => List.nodup_nil
  | none :: r, k => plcF_nodup r (k + 1)
  | some _ :: r, k => List.nodup_cons.mpr ⟨fun m => by
      have := plcF_lt r (k + 1) _ m
      omega, plcF_nodup r (k + 1)⟩
theorem plc_nodup (r : Rw) : (plc r).Nodup := plcF_nodup r 0
def plD (l : List Int) : D := .tup (l.map D.int)
def hasD : D → Bool
  | .tup [_, .non] => false
  | _ => true
def fstD : D → D
  | .tup (d :: _) => d
  | d => d
theorem enum_plc : ∀ (r : Rw) (k : Nat), ((enumD k (r.map cD)).filter hasD).map fstD = (plcF k r).map D.int
  | [], _ => rfl
  | none :: r, k => by
    show (((D.tup [.int k, .non]) :: enumD (k + 1) (r.map cD)).filter hasD).map fstD = _
    rw [List.filter_cons_of_neg (show ¬ hasD (.tup [.int k, .non]) = true from Bool.false_ne_true)]
    exact enum_plc r (k + 1)
  | some x :: r, k => by
    show (((D.tup [.int k, .str x]) :: enumD (k + 1) (r.map cD)).filter hasD).map fstD = _
    rw [List.filter_cons_of_pos (by rfl), List.map_cons]
    show D.int k :: _ = D.int k :: _
    rw [enum_plc r (k + 1)]
/-- the cells at some places -/
def cellsR (r : Rw) (l : List Int) : Rw := l.map fun i => (r[i.toNat]?).join
theorem at_row {r : Rw} {i : Int} (h0 : 0 ≤ i) (h1 : i < r.length) (hl : r.length < 1000000) : L2.atI (r.map cD) i = some (cD (r[i.toNat]?).join) := by
  obtain ⟨n, rfl⟩ := Int.eq_ofNat_of_zero_le h0
  have hn : n < r.length := by omega
  unfold L2.atI
  rw [show L2.ixN (r.map cD).length (n : Int) = some n from by
    unfold L2.ixN
    rw [if_pos h0, if_pos (by rw [List.length_map]; omega)]
    simp]
  show (r.map cD)[n]? = _
  rw [List.getElem?_map, List.getElem?_eq_getElem hn]
  show some (cD r[n]) = some (cD (r[((n : Int)).toNat]?).join)
  rw [Int.toNat_natCast, List.getElem?_eq_getElem hn]
  rfl
/-- texts in the place of cells, and back -/
def plainR (r : Rw) : List Str := r.map fun c => c.getD ""
def unplain (l : List Str) : Rw := l.map fun x : Str => if x = ("" : Str) then none else some x
theorem plain_un (l : List Str) : plainR (unplain l) = l := by
  unfold plainR unplain
  rw [List.map_map]
  conv => rhs; rw [← List.map_id l]
  refine List.map_congr_left fun x _ => ?_
  show (if x = ("" : Str) then none else some x : Option Str).getD "" = x
  split
  · rename_i e; exact e.symm
  · rfl
theorem un_plain {r : Rw} (h : ∀ x, some x ∈ r → x ≠ "") : unplain (plainR r) = r := by
  unfold plainR unplain
  rw [List.map_map]
  conv => rhs; rw [← List.map_id r]
  refine List.map_congr_left fun c hc => ?_
  cases c with
  | none => rfl
  | some x =>
    show (if x = ("" : Str) then none else some x : Option Str) = some x
    rw [if_neg (h x hc)]
theorem nodup_len {α : Type} [DecidableEq α] : ∀ (l m : List α), l.Nodup → (∀ x ∈ l, x ∈ m) → l.length ≤ m.length
  | [], _, _, _ => Nat.zero_le _
  | x :: l, m, nd, sub => by
    obtain ⟨h1, h2⟩ := List.nodup_cons.mp nd
    have hx := sub x (List.mem_cons_self ..)
    have := nodup_len l (m.erase x) h2 fun y hy => by
      refine (List.mem_erase_of_ne fun e => h1 ?_).mpr (sub y (List.mem_cons_of_mem _ hy))
      rw [← e]; exact hy
    rw [List.length_erase_of_mem hx] at this
    have : 0 < m.length := List.length_pos_of_mem hx
    rw [List.length_cons]
    omega
/-- of the rows with just these places, those that no row with other ones has -/
def selR (rs : List Rw) (l : List Int) : List Rw := (rs.filter fun r => decide (plc r = l)).filter fun r => !decide (cellsR r l ∈ (rs.filter fun s => !decide (plc s = l)).map fun s => cellsR s l)
def keepR (rs : List Rw) (r : Rw) : Prop := r ∈ rs ∧ plc r ≠ [] ∧ ∀ s ∈ rs, plc s ≠ plc r → cellsR s (plc r) ≠ cellsR r (plc r)
theorem sel_mem {rs : List Rw} {l : List Int} {r : Rw} : r ∈ selR rs l ↔ r ∈ rs ∧ plc r = l ∧ ∀ s ∈ rs, plc s ≠ l → cellsR s l ≠ cellsR r l := by
  unfold selR
  rw [List.mem_filter, List.mem_filter]
  constructor
  · rintro ⟨⟨h1, h2⟩, h3⟩
    refine ⟨h1, of_decide_eq_true h2, fun s hs ne e => ?_⟩
    have : ¬ cellsR r l ∈ (rs.filter fun s => !decide (plc s = l)).map fun s => cellsR s l := by simpa using h3
    exact this (List.mem_map.mpr ⟨s, List.mem_filter.mpr ⟨hs, by simp [ne]⟩, e⟩)
  · rintro ⟨h1, h2, h3⟩
    refine ⟨⟨h1, by simp [h2]⟩, ?_⟩
    have : ¬ cellsR r l ∈ (rs.filter fun s => !decide (plc s = l)).map fun s => cellsR s l := fun m => by
      obtain ⟨s, hs, e⟩ := List.mem_map.mp m
      obtain ⟨hs, ne⟩ := List.mem_filter.mp hs
      exact h3 s hs (by simpa using ne) e
    simp [this]
theorem sels_nodup {rs : List Rw} (nd : rs.Nodup) : ∀ {ls : List (List Int)}, ls.Nodup → (ls.flatMap (selR rs)).Nodup
  | [], _ => List.nodup_nil
  | l :: ls, h => by
    obtain ⟨h1, h2⟩ := List.nodup_cons.mp h
    rw [List.flatMap_cons, List.nodup_append]
    refine ⟨(nd.filter _).filter _, sels_nodup nd h2, fun x hx y hy e => ?_⟩
    subst e
    obtain ⟨l2, hl, hm⟩ := List.mem_flatMap.mp hy
    have e1 := (sel_mem.mp hx).2.1
    have e2 := (sel_mem.mp hm).2.1
    exact h1 (by rw [← e1, e2]; exact hl)
theorem sels_mem {rs : List Rw} {ls : List (List Int)} (h : ∀ l, l ∈ ls ↔ ∃ r ∈ rs, plc r = l ∧ l ≠ []) {r : Rw} : r ∈ ls.flatMap (selR rs) ↔ keepR rs r := by
  rw [List.mem_flatMap]
  constructor
  · rintro ⟨l, hl, hr⟩
    obtain ⟨h1, h2, h3⟩ := sel_mem.mp hr
    subst h2
    obtain ⟨_, _, _, ne⟩ := (h _).mp hl
    exact ⟨h1, ne, h3⟩
  · rintro ⟨h1, h2, h3⟩
    exact ⟨plc r, (h _).mpr ⟨r, h1, rfl, h2⟩, sel_mem.mpr ⟨h1, rfl, h3⟩⟩
def tagD (r : Rw) : D := .tup [plD (plc r), rowD r]
/-- data that are rows -/
inductive RowsD : List D → List Rw → Prop
  | nil : RowsD [] []
  | cons {d : D} {ds : List D} {r : Rw} {rs : List Rw} : seqD d = some (r.map cD) → RowsD ds rs → RowsD (d :: ds) (r :: rs)
theorem rowsD_of (rs : List Rw) : RowsD (rs.map rowD) rs := by
  induction rs with
  | nil => exact .nil
  | cons r rs ih => exact .cons rfl ih
theorem RowsD.len {ds : List D} {rs : List Rw} (h : RowsD ds rs) : ds.length = rs.length := by
  induction h with
  | nil => rfl
  | cons _ _ ih => rw [List.length_cons, List.length_cons, ih]
/-- what rows must be for a table -/
structure GoodR (rs : List Rw) : Prop where
  few : rs.length < 64
  ne : ∀ r ∈ rs, r ≠ []
  small : ∀ r ∈ rs, r.length ≤ 1000
  txt : ∀ r ∈ rs, ∀ x, some x ∈ r → x ≠ "" ∧ x.length ≤ 1000
theorem GoodR.sub {rs ss : List Rw} (h : GoodR rs) (few : ss.length < 64) (s : ∀ r ∈ ss, r ∈ rs) : GoodR ss := ⟨few, fun r m => h.ne r (s r m), fun r m => h.small r (s r m), fun r m => h.txt r (s r m)⟩
/-- rows in their order, each once -/
structure AscR (out rs : List Rw) : Prop where
  nd : out.Nodup
  mem : ∀ r, r ∈ out ↔ r ∈ rs
  asc : out.Pairwise fun x y => ltT PyData.str (plainR y) (plainR x) = false
theorem AscR.good {out rs : List Rw} (a : AscR out rs) (h : GoodR rs) : GoodR out := h.sub (Nat.lt_of_le_of_lt (nodup_len out rs a.nd fun r m => (a.mem r).mp m) h.few) fun r m => (a.mem r).mp m
/-! ### helpers -/
theorem seq_st {m1 m2 : MS} {δ : List Sl} {k : MK} (h : ∀ R : List Sl → Prop, (∀ δ', m2 δ' k → R δ') → m1 δ { k with nx := R }) : msSeq m1 m2 δ k := h _ fun _ z => z
def two (i j : Nat) (δ : List Sl) : D → List Sl
  | .tup [x, y] => (δ.set i (.dat x)).set j (.dat y)
  | _ => δ
theorem enum_mem {d : D} : ∀ {r : Rw} {k : Nat}, d ∈ enumD k (r.map cD) → ∃ (j : Nat) (c : Option Str), d = .tup [.int j, cD c]
  | [], _, h => nomatch h
  | c :: r, k, h => by
    rcases List.mem_cons.mp (show d ∈ D.tup [.int k, cD c] :: enumD (k + 1) (r.map cD) from h) with rfl | h
    · exact ⟨k, c, rfl⟩
    · exact enum_mem h
def celOf : D → Option Str
  | .str x => some x
  | _ => none
theorem cell_of (c : Option Str) : celOf (cD c) = c := by cases c <;> rfl
def rwOf (d : D) : Rw := ((seqD d).getD []).map celOf
theorem row_of {d : D} {r : Rw} (h : seqD d = some (r.map cD)) : rwOf d = r := by
  unfold rwOf
  rw [h]
  show (r.map cD).map celOf = r
  rw [List.map_map]
  conv => rhs; rw [← List.map_id r]
  exact List.map_congr_left fun c _ => cell_of c
theorem RowsD.mem {d : D} {es : List D} {rs : List Rw} (h : RowsD es rs) (m : d ∈ es) : ∃ r ∈ rs, seqD d = some (r.map cD) := by
  induction h with
  | nil => exact nomatch m
  | cons e _ ih =>
    rcases List.mem_cons.mp m with rfl | m
    · exact ⟨_, List.mem_cons_self .., e⟩
    · obtain ⟨r, hr, q⟩ := ih m
      exact ⟨r, List.mem_cons_of_mem _ hr, q⟩
theorem RowsD.maps {es : List D} {rs : List Rw} {β : Type} (h : RowsD es rs) (g : Rw → β) : es.map (fun d => g (rwOf d)) = rs.map g := by
  induction h with
  | nil => rfl
  | cons e _ ih => rw [List.map_cons, List.map_cons, ih, row_of e]
def plainD : D → D
  | .str x => .str x
  | _ => .str ""
theorem plain_cells (r : Rw) : (r.map cD).map plainD = (plainR r).map D.str := by
  unfold plainR
  rw [List.map_map, List.map_map]
  refine List.map_congr_left fun c _ => ?_
  cases c <;> rfl
def unD : D → D
  | .str x => if x = ("" : Str) then .non else .str x
  | d => d
theorem un_cells (l : List Str) : (l.map D.str).map unD = (unplain l).map cD := by
  unfold unplain
  rw [List.map_map, List.map_map]
  refine List.map_congr_left fun x _ => ?_
  show (if x = ("" : Str) then D.non else .str x) = cD (if x = ("" : Str) then none else some x)
  split <;> rfl
theorem unplain_inj {l m : List Str} (h : unplain l = unplain m) : l = m := by rw [← plain_un l, ← plain_un m, h]
theorem str_zero {x : Str} (h : x.length = 0) : x = ("" : Str) := by
  obtain ⟨a⟩ := x
  have : a.size = 0 := h
  rw [Array.eq_empty_of_size_eq_zero this]
  rfl
theorem tru_str {x : Str} (ne : x ≠ "") (hl : x.length ≤ 1000) : truD (.str x) = some true := by
  have h : x.length ≤ sizeLine := Nat.le_trans hl (by decide)
  show (if x.length ≤ sizeLine then some ((x.length : Int) != 0) else none) = some true
  rw [if_pos h]
  have : ((x.length : Int) != 0) = true := bne_iff_ne.mpr fun e => ne (str_zero (by omega))
  rw [this]
theorem or_str {x : Str} {F : D → Prop} {B : Prop} (ne : x ≠ "") (hl : x.length ≤ 1000) (q : F (.str x)) : (match truD (.str x) with | some true => F (.str x) | some false => B | none => False) := by
  rw [tru_str ne hl]
  exact q
theorem dcD_gen {mg : MG} {mt : MT} {mk mv : ME} {δ : List Sl} {g : D → List Sl} {p : D → Bool} {kf : D → Kt} {F : List Kt → Prop} : ∀ (ds : List D) (ks : List Kt),
    (∀ d ∈ ds, (∀ F' : List Sl → Prop, F' (g d) → mg d δ F') ∧ (∀ F' : Bool → Prop, F' (p d) → mt (g d) F' fun _ => False) ∧ (∀ F' : D → Prop, F' (keyD (kf d)) → mk (g d) F' fun _ => False) ∧ (∀ F' : D → Prop, (∀ e, F' e) → mv (g d) F' fun _ => False)) →
    F (ks ++ (ds.filter p).map kf) → dcD mg mt mk mv δ F ds ks
  | [], ks, _, h => by
    rw [List.filter_nil, List.map_nil, List.append_nil] at h
    exact h
  | d :: ds, ks, hs, h => by
    obtain ⟨h1, h2, h3, h4⟩ := hs d (List.mem_cons_self ..)
    have up := fun d' m => hs d' (List.mem_cons_of_mem _ m)
    refine h1 _ (h2 _ ?_)
    cases e : p d with
    | true =>
      rw [List.filter_cons_of_pos e, List.map_cons] at h
      show (if true = true then _ else _)
      rw [if_pos rfl]
      exact h3 _ ⟨kf d, rfl, h4 _ fun _ => dcD_gen ds _ up (by rw [List.append_assoc]; exact h)⟩
    | false =>
      rw [List.filter_cons_of_neg (by rw [e]; exact Bool.false_ne_true)] at h
      show (if false = true then _ else _)
      rw [if_neg Bool.false_ne_true]
      exact dcD_gen ds _ up h
theorem eq_ints : ∀ l m : List Int, eqDs (l.map D.int) (m.map D.int) = decide (l = m)
  | [], [] => rfl
  | [], _ :: _ => rfl
  | _ :: _, [] => rfl
  | i :: l, j :: m => by
    show (i == j && eqDs (l.map D.int) (m.map D.int)) = _
    rw [eq_ints l m]
    by_cases h : i = j
    · subst h
      simp
    · simp [h]
theorem eq_pl (l m : List Int) : eqD (plD l) (plD m) = decide (l = m) := eq_ints l m
theorem plain_pl (l : List Int) : plain 20 (plD l) = true := List.all_eq_true.mpr fun d m => by
  obtain ⟨i, _, rfl⟩ := List.mem_map.mp m
  rfl
def sndD : D → D
  | .tup [_, d] => d
  | d => d
def atP (l : List Int) (d : D) : Bool := eqD (fstD d) (plD l)
theorem at_tag (l : List Int) (r : Rw) : atP l (tagD r) = decide (plc r = l) := eq_pl _ _
theorem tags_of (l : List Int) (a : List Rw) : ((a.map tagD).filter (atP l)).map sndD = (a.filter fun r => decide (plc r = l)).map rowD := by
  rw [List.filter_map, List.map_map]
  have : (atP l ∘ tagD) = fun r => decide (plc r = l) := funext fun r => at_tag l r
  rw [this]
  rfl
def keyAt (l : List Int) (d : D) : Kt := toK (cellsR (rwOf (sndD d)) l)
theorem key_tag (l : List Int) (r : Rw) : keyAt l (tagD r) = toK (cellsR r l) := by
  show toK (cellsR (rwOf (rowD r)) l) = _
  rw [row_of (d := rowD r) rfl]
theorem keys_of (l : List Int) (a : List Rw) : ((a.map tagD).filter fun d => !atP l d).map (keyAt l) = (a.filter fun r => !decide (plc r = l)).map fun s => toK (cellsR s l) := by
  rw [List.filter_map, List.map_map]
  have e1 : ((fun d => !atP l d) ∘ tagD) = fun r => !decide (plc r = l) := funext fun r => congrArg not (at_tag l r)
  rw [e1]
  exact List.map_congr_left fun r _ => key_tag l r
theorem inK {l : List Int} {a : List Rw} {x : Rw} : (toK x ∈ (a.filter fun r => !decide (plc r = l)).map fun s => toK (cellsR s l)) ↔ x ∈ (a.filter fun r => !decide (plc r = l)).map fun s => cellsR s l := by
  rw [List.mem_map, List.mem_map]
  constructor
  · rintro ⟨s, h, e⟩
    exact ⟨s, h, toK_inj e⟩
  · rintro ⟨s, h, e⟩
    exact ⟨s, h, congrArg toK e⟩
def outP (a : List Rw) (l : List Int) (d : D) : Bool := !decide (cellsR (rwOf d) l ∈ (a.filter fun s => !decide (plc s = l)).map fun s => cellsR s l)
theorem sel_of (l : List Int) (a : List Rw) : (((a.filter fun r => decide (plc r = l)).map rowD).filter (outP a l)).map id = (selR a l).map rowD := by
  rw [List.map_id, List.filter_map]
  have : (outP a l ∘ rowD) = fun r => !decide (cellsR r l ∈ (a.filter fun s => !decide (plc s = l)).map fun s => cellsR s l) := funext fun r => by
    show (!decide (cellsR (rwOf (rowD r)) l ∈ _)) = _
    rw [row_of (d := rowD r) rfl]
  rw [this]
  rfl
theorem sel_few {a : List Rw} (nd : a.Nodup) {ls : List (List Int)} (h : ls.Nodup) : (ls.flatMap (selR a)).length ≤ a.length := nodup_len _ _ (sels_nodup nd h) fun r m => by
  obtain ⟨l, _, hr⟩ := List.mem_flatMap.mp m
  exact (sel_mem.mp hr).1
/-! ### a block within a block -/
def relabelS (sc0 sc : Scope) : Scope := { sc with names := sc.names.map fun (n, k) => if (k == .free && sc0.kind == .function && sc0.names.lookup n == some .cell) then (n, .cell) else (n, k) }
theorem blk_in {N : List Str} {sc0 sc1 scope : Scope} {own : List (Str × Nat)} {cl : List (Str × Addr)} {C : Addr} {env : Env} (e : env.scope = sc0) (h : blkC N (relabelS sc0 sc1) scope own = true) : BlkOk N (compEnvC sc1 cl C env).scope scope own := by
  subst e
  exact blkOk_by h
end DL

set_option Elab.async false
set_option linter.all false
set_option maxRecDepth 100000
set_option maxHeartbeats 4000000
namespace L2
open PySem PySem.Spec PyProof.Rows
/-! ### an object made where what is raised is wished for at one's own slots -/
section
variable {X : Cx} {CX : CXT} {k : Nat} {f C : Addr} {fd : FuncData} {ps : List Str} {sp : Sp} {dvs : List V} {ds : List Value} {E : St → XK} {x : Str} {p pos : Pos} {e : Expr} {es : List Expr} {t : TA}
def tMakeS (C : Addr) (sp : Sp) (dvs : List V) (E : St → XK) (t : TA) : TE := fun σ H Q => tMake C sp dvs (E σ) t σ H Q
theorem make_at {pins : List (Addr × Obj)} {σ : St} {H : Hp} {s : Shared} {Q : VK} {us : List Value} {vs : List V} (M : Mk X.K C f) (F : FnOk X.prog X.w X.K X.mg X.base CX k f fd ps sp) (hr : Room (k + 1) X.A) (hb : Binds X.K fd ps ds) (hd : Vals dvs ds) (hx : PassesAt CX X σ (E σ)) (I : Inv X pins σ H s) (r : Vals vs us)
    (h : ∀ y dx, H y = none → H dx = none → dx ≠ y → sp (.ref y :: (vs ++ dvs)) (upd (upd H dx (.own y)) y (.ins C dx [])) (fun v H2 => v = .non ∧ Q (.ref y) H2) (E σ)) : wpAny (model X.prog X.w) X.A (call (.ref C) us) (EP X pins σ Q) X.xe s := by
  have q := h (s.heap.objs.size + 1) s.heap.objs.size (I.hok.fresh (Nat.le_succ _)) (I.hok.fresh (Nat.le_refl _)) (Nat.ne_of_lt (Nat.lt_succ_self _))
  have J := Inv.made (C := C) I
  have rr : Vals (V.ref (s.heap.objs.size + 1) :: (vs ++ dvs)) (Value.ref (s.heap.objs.size + 1) :: (us ++ ds)) := .cons rfl (r.append hd)
  have n : (Value.ref (s.heap.objs.size + 1) :: us ++ ds).length = ps.length := by
    have e := rr.length
    rw [F.len _ _ _ _ q] at e
    exact e.symm
  have run := F.run _ X.stack _ _ ⟨Value.ref (s.heap.objs.size + 1) :: us, []⟩ (Value.ref (s.heap.objs.size + 1) :: (us ++ ds)) _ _ (E σ) (hr.make C us []) (J.env0.make C us []) (hb _ (Value.ref (s.heap.objs.size + 1) :: us) J.kIn n) rr q
  refine wpAny_call (make_map (f := f) I.kIn M.makes M.init (beq_iff_eq.mp M.fn) (codeAny_mono run fun r s' z => ?_))
  match r, z with
  | .error e, z => exact hx pins _ _ e s' J z
  | .ok (.ret u), z =>
    obtain ⟨v, H', I3, rv, ev, q3⟩ := J.after z
    subst ev
    exact ⟨rv, ⟨V.ref (s.heap.objs.size + 1), H', I3, rfl, q3⟩⟩
  | .ok .next, z => exact False.elim z
  | .ok .brk, z => exact False.elim z
  | .ok .cont, z => exact False.elim z
theorem pe_makeS (M : Mk X.K C f) (F : FnOk X.prog X.w X.K X.mg X.base CX k f fd ps sp) (hr : Room (k + 1) X.A) (hg : Gl X x) (hm : X.mg x = some (.ref C)) (hb : Binds X.K fd ps ds) (hd : Vals dvs ds) (hx : ∀ σ, PassesAt CX X σ (E σ)) (ha : PA X (e :: es) t) (hdb : (x == ("__debug__" : Str)) = false := by decide)
    (he : starEach (e :: es) X.env = (false, eval e X.env) :: starEach es X.env := by rfl) (hpl : (backTo pos (starEach es X.env)).any (·.1) = false := by rfl) : PE X (.Call (.Name x p) (e :: es) [] pos) (tMakeS C sp dvs E t) :=
  ⟨fun pins s σ H Q I h => wpAny_Call_Name_kw (ld_glob I hg hm (PySem.W.callWith_K (h₀ := X.base) I.ok.mod.kin M.kp (thn (ha.run pos pins s σ H _ I h) fun us s1 ⟨vs, H1, I1, r, q⟩ => ⟨I1.kIn, make_at M F hr hb hd (hx σ) I1 r q⟩) he hpl) hdb)⟩
end
end L2
namespace DL
open PySem L2 PySem.Spec PyProof.Rows
section
variable {X : Cx} {c : Ct} {W : WX} {e a b : Expr} {es : List Expr} {pos p pos' : Pos} {x f : Str} {ma mb me : ME} {ta tb te : TE} {mr : MA} {tr : TA} {C fI : Addr} {k n : Nat} {fd : FuncData} {ps : List Str} {ds : List Value} {dvs : List V} {dd : List D} {ff : FI}
theorem we_makeS {K : Fg} (hdd : ∀ G, RepL K G dvs dd) (ha : WA K c W tr mr) : WE K c W (tMakeS C (spI K n C ff) dvs (fun σ cls d H => W cls d σ H) tr) (mMake C ff dd n mr) := fun H G σ δ F Y Q cr rs h q xx => by
  refine ha H G σ δ _ _ _ cr rs h (fun vs ds H1 G1 g1 r1 h1 => ?_) xx
  intro y dx ny ndx ne
  have hx : ∀ {b : Addr} {o : HO}, H1 b = some o → upd (upd H1 dx (.own y)) y (.ins C dx []) b = some o := fun {b o} hb => by
    rw [upd_ne (ne_of_none hb ny), upd_ne (ne_of_none hb ndx)]
    exact hb
  have nG : G1 y = none := by
    cases z : G1 y with
    | none => rfl
    | some o =>
      rw [g1.sub _ _ z] at ny
      cases ny
  have back : ∀ {b : Addr}, upd (upd H1 dx (.own y)) y (.ins C dx []) b = none → H1 b = none := fun {b} hb => by
    cases z : H1 b with
    | none => rfl
    | some o =>
      rw [hx z] at hb
      cases hb
  refine ⟨G1, ds ++ dd, y, dx, vs ++ dvs, _, _, rfl, h1.1, upd_same, nG, fun b o hb => hx (g1.sub _ _ hb), r1.append (hdd G1), h1.2, ?_, ?_⟩
  · intro fv fs H2 G2 dx' gs hy ny2 rf f
    have g2 : Go none H1 G1 H2 (upd G2 y (.ins C dx' fv)) := {
      keep := fun b o hb _ => gs.keep b o (hx hb) (ne_of_none hb ny)
      grow := fun b o hb => by rw [upd_ne (ne_of_none (g1.sub _ _ hb) ny)]; exact gs.grow _ _ hb
      sub := fun b o hb => by
        by_cases q1 : b = y
        · subst q1
          rw [upd_same] at hb
          cases hb
          exact hy
        · rw [upd_ne q1] at hb
          exact gs.sub _ _ hb
      new := fun b o hb => by
        by_cases q1 : b = y
        · subst q1
          exact .inr ny
        · rw [upd_ne q1] at hb
          rcases gs.new _ _ hb with z | z
          · exact .inl z
          · exact .inr (back z)
      deal := .no }
    refine ⟨rfl, q (.ref y) (.obj C fs) H2 _ (g1.trans (g2.lift g1.deal)) (.obj upd_same (rf.mono fun b o hb => ?_)) f⟩
    rw [upd_ne (ne_of_none hb ny2)]
    exact hb
  · intro C' fs d H2 G2 gs ex f
    have g2 : Go none H1 G1 H2 (fun b => if b = y then none else G2 b) := {
      keep := fun b o hb _ => gs.keep b o (hx hb) (ne_of_none hb ny)
      grow := fun b o hb => by
        show (if b = y then none else G2 b) = some o
        rw [if_neg (ne_of_none (g1.sub _ _ hb) ny)]
        exact gs.grow _ _ hb
      sub := fun b o hb => by
        have hb : (if b = y then none else G2 b) = some o := hb
        split at hb
        · cases hb
        · exact gs.sub _ _ hb
      new := fun b o hb => by
        have hb : (if b = y then none else G2 b) = some o := hb
        split at hb
        · cases hb
        · rcases gs.new _ _ hb with z | z
          · exact .inl z
          · exact .inr (back z)
      deal := .no }
    have g2' : Go none H1 G1 H2 G2 ∨ True := .inr trivial
    refine xx C' fs d H2 (fun b => if b = y ∧ False then none else G2 b) ?_ ?_ f
    · have eG : (fun b => if b = y ∧ False then none else G2 b) = G2 := by
        funext b
        simp
      rw [eG]
      refine g1.trans (Go.lift g1.deal ⟨fun b o hb _ => gs.keep b o (hx hb) (ne_of_none hb ny), gs.grow, gs.sub, fun b o hb => ?_, .no⟩)
      rcases gs.new _ _ hb with z | z
      · exact .inl z
      · exact .inr (back z)
    · have eG : (fun b => if b = y ∧ False then none else G2 b) = G2 := by
        funext b
        simp
      rw [eG]
      exact ex
theorem de_makeS (M : Mk X.K C fI) (F : FnOk X.prog X.w X.K X.mg X.base (L2.CX X.prog X.w) k fI fd ps (spI X.K n C ff)) (hr : Room (k + 1) X.A) (hg : Gl X x) (hm : X.mg x = some (.ref C)) (hb : Binds X.K fd ps ds) (hd : Vals dvs ds) (hdd : ∀ G, RepL X.K G dvs dd) (tk : Takes X W)
    (ha : DA X c W (e :: es) tr mr) (hdb : (x == ("__debug__" : Str)) = false := by decide) (he : starEach (e :: es) X.env = (false, eval e X.env) :: starEach es X.env := by rfl) (hpl : (backTo pos (starEach es X.env)).any (·.1) = false := by rfl) :
    DE X c W (.Call (.Name x p) (e :: es) [] pos) (tMakeS C (spI X.K n C ff) dvs (fun σ cls d H => W cls d σ H) tr) (mMake C ff dd n mr) := by
  exact ⟨pe_makeS M F hr hg hm hb hd (passAt tk) ha.p hdb he hpl, we_makeS hdd ha.w⟩
/-- a class that others make, anywhere -/
theorem de_mkS (M : Mkr X.prog X.w X.K X.mg X.base x C k n ff) (hr : Room (k + 1) X.A) (hg : Gl X x) (tk : Takes X W) (ha : DA X c W (e :: es) tr mr)
    (hdb : (x == ("__debug__" : Str)) = false := by decide) (he : starEach (e :: es) X.env = (false, eval e X.env) :: starEach es X.env := by rfl) (hpl : (backTo pos (starEach es X.env)).any (·.1) = false := by rfl) :
    DE X c W (.Call (.Name x p) (e :: es) [] pos) (tMakeS C (spI X.K n C ff) [] (fun σ cls d H => W cls d σ H) tr) (mMake C ff [] n mr) := by
  obtain ⟨fI, fd, ps, m, F, hm, hb⟩ := M.ok
  exact de_makeS m F hr hg hm hb .nil (fun _ => .nil) tk ha hdb he hpl
end
end DL

set_option Elab.async false
set_option linter.all false
set_option maxRecDepth 100000
set_option maxHeartbeats 4000000
namespace DL
open PySem L2 PySem.Spec PyProof.Rows
/-! ### a text some times over -/
def rMulS : R2 := fun x y H Q => ∃ (z : Str) (n : Int), x = .str z ∧ y = .int n ∧ MulOk z n ∧ Q (.str (Txt.mul z n)) H
theorem op_mulS {X : Cx} : OpR X (binaryOp .Mult) rMulS := by
  intro pins s σ H x y v u Q I rx ry h
  obtain ⟨z, n, rfl, rfl, ok, q⟩ := h
  obtain ⟨t, rfl⟩ := (show ∃ t, v = Value.str z t from rx)
  obtain ⟨t', rfl⟩ := (show ∃ t, u = Value.int n t from ry)
  exact SB.mul ok fun t2 k => ⟨.str _, H, I.tok _, ⟨_, rfl⟩, q⟩
def gMulS (d e : D) (F : D → Prop) : Prop := ∃ (z : Str) (n : Int), d = .str z ∧ e = .int n ∧ MulOk z n ∧ F (.str (Txt.mul z n))
theorem rd_mulS {K : Fg} : RD K rMulS gMulS := fun H G x y d e F Q s rx ry h k => by
  obtain ⟨z, n, rfl, rfl, ok, f⟩ := h
  exact ⟨z, n, rx.str_of, ry.int_of, ok, k _ _ H G (Go.refl s .no) (.str _) f⟩
end DL

set_option Elab.async false
set_option linter.all false
set_option maxRecDepth 100000
set_option maxHeartbeats 4000000
namespace DL
open PySem L2 PySem.Spec PyProof.Rows XS
/-! ### rows within rows -/
def partR (r s : Rw) : Prop := ∀ (j : Nat) (x : Str), r[j]? = some (some x) → s[j]? = some (some x)
theorem plcF_mem : ∀ (r : Rw) (k : Nat) (i : Int), i ∈ plcF k r ↔ ∃ (j : Nat) (x : Str), i = (k : Int) + (j : Int) ∧ r[j]? = some (some x)
  | [], k, i => by
    constructor
    · exact fun h => nomatch h
    · rintro ⟨j, x, _, h⟩
      simp at h
  | none :: r, k, i => by
    show i ∈ plcF (k + 1) r ↔ _
    rw [plcF_mem r (k + 1) i]
    constructor
    · rintro ⟨j, x, e, h⟩
      exact ⟨j + 1, x, by omega, by simpa using h⟩
    · rintro ⟨j, x, e, h⟩
      cases j with
      | zero => simp at h
      | succ j => exact ⟨j, x, by omega, by simpa using h⟩
  | some y :: r, k, i => by
    show i ∈ (k : Int) :: plcF (k + 1) r ↔ _
    rw [List.mem_cons, plcF_mem r (k + 1) i]
    constructor
    · rintro (rfl | ⟨j, x, e, h⟩)
      · exact ⟨0, y, by omega, rfl⟩
      · exact ⟨j + 1, x, by omega, by simpa using h⟩
    · rintro ⟨j, x, e, h⟩
      cases j with
      | zero => exact .inl (by omega)
      | succ j => exact .inr ⟨j, x, by omega, by simpa using h⟩
theorem plc_mem {r : Rw} {i : Int} : i ∈ plc r ↔ ∃ (j : Nat) (x : Str), i = (j : Int) ∧ r[j]? = some (some x) := by
  unfold plc
  rw [plcF_mem]
  constructor <;> rintro ⟨j, x, e, h⟩ <;> exact ⟨j, x, by omega, h⟩
theorem cells_part {r s : Rw} : cellsR s (plc r) = cellsR r (plc r) ↔ partR r s := by
  unfold cellsR
  rw [List.map_inj_left]
  constructor
  · intro h j x e
    have q := h (j : Int) (plc_mem.mpr ⟨j, x, rfl, e⟩)
    rw [show ((j : Int)).toNat = j from rfl, e] at q
    cases e2 : s[j]? with
    | none => rw [e2] at q; cases q
    | some c =>
      rw [e2] at q
      have q : c = some x := q
      rw [q]
  · intro h i hi
    obtain ⟨j, x, rfl, e⟩ := plc_mem.mp hi
    rw [show ((j : Int)).toNat = j from rfl, e, h j x e]
theorem part_sub {r s : Rw} (l : s.length = r.length) (h : partR r s) (e : ∀ i ∈ plc s, i ∈ plc r) : s = r := by
  refine List.ext_getElem? fun j => ?_
  cases e1 : r[j]? with
  | none =>
    rw [List.getElem?_eq_none_iff] at e1 ⊢
    omega
  | some c =>
    cases c with
    | some x => exact h j x e1
    | none =>
      cases e2 : s[j]? with
      | none =>
        rw [List.getElem?_eq_none_iff] at e2
        have := (List.getElem?_eq_some_iff.mp e1).1
        omega
      | some c =>
        cases c with
        | none => rfl
        | some x =>
          have m : (j : Int) ∈ plc r := e _ (plc_mem.mpr ⟨j, x, rfl, e2⟩)
          obtain ⟨j2, y, e3, e4⟩ := plc_mem.mp m
          have : j = j2 := by omega
          subst this
          rw [e1] at e4
          cases e4
theorem part_same {r s : Rw} (l : s.length = r.length) (h : partR r s) (e : plc s = plc r) : s = r := part_sub l h fun i m => e ▸ m
theorem part_grow {r s : Rw} (l : s.length = r.length) (h : partR r s) (ne : s ≠ r) : (plc r).length + 1 ≤ (plc s).length := by
  have : ∃ i ∈ plc s, i ∉ plc r := Classical.byContradiction fun z => ne (part_sub l h fun i m => Classical.byContradiction fun n => z ⟨i, m, n⟩)
  obtain ⟨i, m, n⟩ := this
  refine nodup_len (i :: plc r) (plc s) (List.nodup_cons.mpr ⟨n, plc_nodup r⟩) fun y hy => ?_
  rcases List.mem_cons.mp hy with rfl | hy
  · exact m
  · obtain ⟨j, x, rfl, e⟩ := plc_mem.mp hy
    exact plc_mem.mpr ⟨j, x, rfl, h j x e⟩
theorem plc_le (r : Rw) : (plc r).length ≤ r.length := by
  have h := nodup_len (plc r) ((List.range r.length).map fun (i : Nat) => (i : Int)) (plc_nodup r) fun i m => by
    obtain ⟨h1, h2⟩ := plc_lt m
    exact List.mem_map.mpr ⟨i.toNat, List.mem_range.mpr (by omega), by omega⟩
  rwa [List.length_map, List.length_range] at h
/-- what the program keeps of rows: those with texts that are part of no other one -/
theorem keep_iff {a : List Rw} {n : Nat} (w : ∀ r ∈ a, r.length = n) {r : Rw} : keepR a r ↔ r ∈ a ∧ plc r ≠ [] ∧ ∀ s ∈ a, s ≠ r → ¬ partR r s := by
  unfold keepR
  constructor
  · rintro ⟨h1, h2, h3⟩
    refine ⟨h1, h2, fun s hs ne p => h3 s hs (fun e => ne (part_same (by rw [w s hs, w r h1]) p e)) (cells_part.mpr p)⟩
  · rintro ⟨h1, h2, h3⟩
    refine ⟨h1, h2, fun s hs ne e => h3 s hs (fun q => ne (by rw [q])) (cells_part.mp e)⟩
theorem partR.refl (r : Rw) : partR r r := fun _ _ h => h
theorem partR.trans {r s t : Rw} (h : partR r s) (k : partR s t) : partR r t := fun j x e => k j x (h j x e)
/-- each row with texts is part of one that is kept -/
theorem keep_over {a : List Rw} {n : Nat} (nd : a.Nodup) (w : ∀ r ∈ a, r.length = n) {r : Rw} (hr : r ∈ a) (ht : plc r ≠ []) : ∃ s, keepR a s ∧ partR r s := by
  -- by the number of rows of which r is no part
  have go : ∀ (k : Nat) (r : Rw), r ∈ a → plc r ≠ [] → n - (plc r).length ≤ k → ∃ s, keepR a s ∧ partR r s := by
    intro k
    induction k with
    | zero =>
      intro r hr ht hk
      refine ⟨r, (keep_iff w).mpr ⟨hr, ht, fun s hs ne p => ?_⟩, partR.refl r⟩
      have h1 := part_grow (by rw [w s hs, w r hr]) p ne
      have h2 := plc_le s
      rw [w s hs] at h2
      omega
    | succ k ih =>
      intro r hr ht hk
      by_cases z : ∃ s ∈ a, s ≠ r ∧ partR r s
      · obtain ⟨s, hs, ne, p⟩ := z
        have h1 := part_grow (by rw [w s hs, w r hr]) p ne
        obtain ⟨t, t1, t2⟩ := ih s hs (fun e => by rw [e] at h1; simp at h1) (by omega)
        exact ⟨t, t1, p.trans t2⟩
      · exact ⟨r, (keep_iff w).mpr ⟨hr, ht, fun s hs ne p => z ⟨s, hs, ne, p⟩⟩, partR.refl r⟩
  exact go _ r hr ht (Nat.le_refl _)
end DL

set_option Elab.async false
set_option linter.all false
set_option maxRecDepth 100000
set_option maxHeartbeats 4000000
namespace DL
open PySem L2 PySem.Spec PyProof.Rows XS
/-! ### dicts of one's own, by texts -/
def putF {α : Type} (fs : List (Str × α)) (x : Str) (d : α) : List (Str × α) := if (fs.any fun kv => decide (kv.1 = x)) = true then fs.map (fun kv => if kv.1 = x then (kv.1, d) else kv) else fs ++ [(x, d)]
theorem key_eq {x y : Str} : ((Sum.inr x : Key) = Sum.inr y) ↔ x = y := ⟨fun h => Sum.inr.inj h, fun h => congrArg _ h⟩
theorem put_keyd (vs : List (Str × V)) (x : Str) (v : V) : putK (keyd vs) (Sum.inr x) v = keyd (putF vs x v) := by
  unfold putK putF keyd
  rw [List.any_map]
  have e : ((fun kv : Key × V => decide (kv.1 = Sum.inr x)) ∘ fun y : Str × V => ((Sum.inr y.1 : Key), y.2)) = fun kv : Str × V => decide (kv.1 = x) := by
    funext y
    exact decide_eq_decide.mpr key_eq
  rw [e]
  split
  · rw [List.map_map, List.map_map]
    refine List.map_congr_left fun y _ => ?_
    show (if (Sum.inr y.1 : Key) = Sum.inr x then ((Sum.inr y.1 : Key), v) else ((Sum.inr y.1 : Key), y.2)) = (fun y : Str × V => ((Sum.inr y.1 : Key), y.2)) (if y.1 = x then (y.1, v) else y)
    by_cases h : y.1 = x
    · rw [if_pos (key_eq.mpr h), if_pos h]
    · rw [if_neg (fun z => h (key_eq.mp z)), if_neg h]
  · rw [List.map_append]
    rfl
theorem val_keyd (x : Str) : ∀ vs : List (Str × V), valV (keyd vs) (Sum.inr x) = vs.lookup x
  | [] => rfl
  | (y, v) :: vs => by
    have ih := val_keyd x vs
    unfold valV keyd at ih ⊢
    rw [List.map_cons, List.find?_cons]
    by_cases h : y = x
    · subst h
      simp [List.lookup]
    · have hb : (x == y) = false := beq_eq_false_iff_ne.mpr (Ne.symm h)
      have hd : decide ((Sum.inr y : Key) = Sum.inr x) = false := decide_eq_false fun z => h (key_eq.mp z)
      rw [hd]
      simp only [List.lookup, hb]
      exact ih
theorem keyd_len (vs : List (Str × V)) : (keyd vs).length = vs.length := List.length_map ..
section
variable {K : Fg} {G : Hp}
theorem RepF.any : ∀ {vs : List (Str × V)} {fs : List (Str × D)} (x : Str), RepF K G vs fs → (vs.any fun kv => decide (kv.1 = x)) = fs.any fun kv => decide (kv.1 = x)
  | _, _, _, .nil => rfl
  | _, _, x, .cons (f := f) _ r => by rw [List.any_cons, List.any_cons, RepF.any x r]
theorem RepF.over : ∀ {vs : List (Str × V)} {fs : List (Str × D)} {v : V} {d : D} (x : Str), Rep K G v d → RepF K G vs fs → RepF K G (vs.map fun kv => if kv.1 = x then (kv.1, v) else kv) (fs.map fun kv => if kv.1 = x then (kv.1, d) else kv)
  | _, _, _, _, _, _, .nil => .nil
  | (f, w) :: vs, (_, e) :: fs, v, d, x, q, .cons a r => by
    rw [List.map_cons, List.map_cons]
    by_cases h : f = x
    · rw [if_pos h, if_pos h]
      exact .cons q (RepF.over x q r)
    · rw [if_neg h, if_neg h]
      exact .cons a (RepF.over x q r)
theorem RepF.app : ∀ {vs ws : List (Str × V)} {fs gs : List (Str × D)}, RepF K G vs fs → RepF K G ws gs → RepF K G (vs ++ ws) (fs ++ gs)
  | _, _, _, _, .nil, s => s
  | _, _, _, _, .cons a r, s => .cons a (RepF.app r s)
theorem RepF.putD {vs : List (Str × V)} {fs : List (Str × D)} {v : V} {d : D} (x : Str) (r : RepF K G vs fs) (q : Rep K G v d) : RepF K G (putF vs x v) (putF fs x d) := by
  unfold putF
  rw [r.any x]
  split
  · exact r.over x q
  · exact r.app (.cons q .nil)
theorem RepF.len : ∀ {vs : List (Str × V)} {fs : List (Str × D)}, RepF K G vs fs → vs.length = fs.length
  | _, _, .nil => rfl
  | _, _, .cons _ r => congrArg Nat.succ (RepF.len r)
theorem RepF.keyAt : ∀ {vs : List (Str × V)} {fs : List (Str × D)} {i : Nat} {k : Key} {v : V}, RepF K G vs fs → (keyd vs)[i]? = some (k, v) → ∃ (x : Str) (d : D), k = Sum.inr x ∧ fs[i]? = some (x, d)
  | _, _, i, _, _, .nil, e => by cases i <;> cases e
  | (f, w) :: vs, (_, d) :: fs, 0, _, _, .cons a r, e => by
    cases e
    exact ⟨f, d, rfl, rfl⟩
  | (f, w) :: vs, (_, d) :: fs, i + 1, _, _, .cons a r, e => RepF.keyAt (i := i) r e
end
/-- no other dict of one's own -/
def oneD (j : Nat) (δ : List Sl) : Prop := ∀ i t, i ≠ j → δ[i]? = some t → ∀ es, t ≠ .odc es ∧ t ≠ .odl es
section
variable {K : Fg} {c : Ct} {H G : Hp} {σ : L2.St} {δ : List Sl}
theorem Cr.setX (cr : Cr c H G) {p : Addr} {o o' : HO} (h1 : H p = some o) (ni : ∀ C dx fv, o ≠ .ins C dx fv) (h2 : G p = none) (h3 : c.He p = none) : Cr c (upd H p o') G where
  keep := fun a u z nd m => by rw [upd_ne (ne_of_none z h3)]; exact cr.keep a u z nd m
  grow := cr.grow
  sub := fun a u z => by rw [upd_ne (ne_of_none z h2)]; exact cr.sub a u z
  new := cr.new
  dlok := fun p' l' e => by
    obtain ⟨⟨ns, m, q1, q2, q3⟩, g1, g2⟩ := cr.dlok p' l' e
    obtain ⟨n1, n2⟩ := notDl_own cr h3 p' l' e
    exact ⟨⟨ns, m, by rw [upd_ne (Ne.symm n1)]; exact q1, by rw [upd_ne (Ne.symm n2)]; exact q2, q3⟩, g1, g2⟩
  he := cr.he
  sfo := fun a e => by
    obtain ⟨C, dx, fv, z⟩ := cr.sfo a e
    refine ⟨C, dx, fv, ?_⟩
    rw [upd_ne (fun y => by rw [y, h1] at z; exact ni _ _ _ (Option.some.inj z))]
    exact z
theorem RS.swap (r : RS K c H G σ δ) {j : Nat} {p : Addr} {o o' : HO} {s s' : Sl} (hj : δ[j]? = some s) (hs : σ[j]? = some (some (.ref p))) (h1 : H p = some o) (nl : ∀ xs, o ≠ .lst xs) (ni : ∀ C dx fv, o ≠ .ins C dx fv)
    (no' : ∀ es, s' ≠ .own es) (q : SlotOk K c (upd H p o') G (some (.ref p)) s') (one : oneD j δ) : RS K c (upd H p o') G σ (δ.set j s') where
  len := by rw [List.length_set]; exact r.len
  at_ := fun i t e => by
    by_cases hij : j = i
    · subst hij
      have hl : j < δ.length := (List.getElem?_eq_some_iff.mp hj).1
      rw [List.getElem?_set_self hl] at e
      cases e
      exact ⟨_, hs, q⟩
    · rw [List.getElem?_set_ne hij] at e
      obtain ⟨x, q1, q2⟩ := r.at_ i t e
      refine ⟨x, q1, ?_⟩
      have on := one i t (fun z => hij z.symm) e
      cases t with
      | un => trivial
      | dat d => exact q2
      | own fs =>
        obtain ⟨p', xs', a1, a2, a3, a4, a5⟩ := q2
        exact ⟨p', xs', a1, by rw [upd_ne (fun z => by rw [z, h1] at a2; exact nl _ (Option.some.inj a2))]; exact a2, a3, a4, a5⟩
      | odc fs => exact absurd rfl (on fs).1
      | odl fs => exact absurd rfl (on fs).2
      | deal => exact q2
      | exn a C d fs => exact q2
      | self C fs =>
        obtain ⟨a, dx, fv, a1, a2, a3, a4, a5⟩ := q2
        refine ⟨a, dx, fv, a1, a2, ?_, a4, a5⟩
        rw [upd_ne (fun z => by rw [z, h1] at a3; exact ni _ _ _ (Option.some.inj a3))]
        exact a3
  sep := fun i k q' ds' fs n e1 e2 h => by
    have up : ∀ (i : Nat) (ds' : List D), (δ.set j s')[i]? = some (.own ds') → δ[i]? = some (.own ds') := fun i ds' e => by
      by_cases hij : j = i
      · subst hij
        have hl : j < δ.length := (List.getElem?_eq_some_iff.mp hj).1
        rw [List.getElem?_set_self hl] at e
        exact absurd (Option.some.inj e) (no' _)
      · rw [List.getElem?_set_ne hij] at e
        exact e
    exact r.sep i k q' _ _ n (up i ds' e1) (up k fs e2) h
end
section
variable {X : Cx} {c : Ct} {W : WX} {K : Fg} {e i : Expr} {pos pos' : Pos} {me mk : ME} {te tk : TE} {x : Str} {m : ME} {t : TE}
def msNewD (i : Nat) : MS := fun δ k => k.nx (δ.set i (.odc []))
theorem ws_newD (i : Nat) : WS K c W (tAsg tDNewK (gName i)) (msNewD i) := fun H G σ δ k Y cr rs h en => by
  intro p hp
  have g := (Go.mine (o := .dK []) cr.sub hp).lift cr.dlok
  have nG : G p = none := by
    cases z : G p with
    | none => rfl
    | some o =>
      rw [cr.sub _ _ z] at hp
      cases hp
  exact en.nx _ _ _ G (cr.step g) ((rs.step cr g).put i (s := .odc []) ⟨p, [], rfl, upd_same, nG, He_none (H' := H) (G' := G) cr hp, .nil⟩ fun _ z => nomatch z) g.grow h
theorem ds_newD (i : Nat) {dp : Pos} (hN : X.N.Nodup) (hi : X.N[i]? = some x) (hx : Loc X.env.scope x) (hs : swapsWith (.Dict [] [] dp) (some (.Name x pos')) pos.line X.env = pure false := by rfl) (hf : X.fn x = true ∨ X.env.scope.names.lookup x = some .local := by first | exact .inl rfl | exact .inr rfl | assumption) :
    DS X c W (.Assign [.Name x pos'] (.Dict [] [] dp) pos) (tAsg tDNewK (gName i)) (msNewD i) := ⟨ps_set hN hi hx pe_dnewK hs hf, ws_newD i⟩
def msPutD (j : Nat) (me mk : ME) : MS := fun δ k => match δ[j]? with
  | some (.odc fs) => me δ (fun d => mk δ (fun y => match y with
    | .str x => oneD j δ ∧ fs.length < sizeLine ∧ k.nx (δ.set j (.odc (putF fs x d)))
    | _ => False) (fun x => k.rs x δ)) (fun x => k.rs x δ)
  | _ => False
theorem ws_putD (j : Nat) (he : WE K c W te me) (hk : WE K c W tk mk) : WS K c W (sDPut (tVar j) tk te) (msPutD j me mk) := fun H G σ δ k Y cr rs h en => by
  unfold msPutD at h
  split at h
  · rename_i fs ej
    refine he H G σ δ _ _ _ cr rs h (fun v d H1 G1 g1 r1 h2 => ?_) (en.xw cr rs)
    have cr1 := cr.step g1
    have rs1 := rs.step cr g1
    obtain ⟨y, q1, p, xs, q2, _⟩ := rs1.at_ _ _ ej
    subst q2
    refine ⟨_, q1, ?_⟩
    refine hk H1 G1 σ δ _ _ _ cr1 rs1 h2 (fun u b H2 G2 g2 r2 h3 => ?_) ((en.mono g1.grow).xw cr1 rs1)
    split at h3
    · rename_i x
      obtain ⟨one, lt, h3⟩ := h3
      have cr2 := cr1.step g2
      have rs2 := rs1.step cr1 g2
      obtain ⟨y, u1, p', ys, u2, u3, u4, u5, u6⟩ := rs2.at_ _ _ ej
      rw [q1] at u1
      cases u1
      cases u2
      have lt2 : (keyd ys).length < sizeLine := by rw [keyd_len, u6.len]; exact lt
      refine ⟨p, _, rfl, by rw [r2.str_of]; exact DPut.k (k := Sum.inr x) u3 lt2, ?_⟩
      rw [put_keyd]
      have r1' := r1.mono g2.grow
      exact en.nx _ _ _ G2 (cr2.setX u3 (fun _ _ _ z => nomatch z) u4 u5) (rs2.swap (s' := .odc (putF fs x d)) ej q1 u3 (fun _ z => nomatch z) (fun _ _ _ z => nomatch z) (fun _ z => nomatch z) ⟨p, _, rfl, upd_same, u4, u5, u6.putD x r1'⟩ one) (g1.grow.trans g2.grow) h3
    · exact h3.elim
  · exact h.elim
theorem ds_putD (j : Nat) {z : Str} {zp sp : Pos} (hu : X.A.units + 1 < cLine) (hz : PE X (.Name z zp) (tVar j)) (hk : DE X c W i tk mk) (he : DE X c W e te me)
    (hs : swapsWith e (some (.Subscript (.Name z zp) i sp)) pos.line X.env = pure false := by rfl) :
    DS X c W (.Assign [.Subscript (.Name z zp) i sp] e pos) (sDPut (tVar j) tk te) (msPutD j me mk) := ⟨ps_dput hu hz hk.p he.p hs, ws_putD j he.w hk.w⟩
/-- d[k] -/
def mGetD (j : Nat) (me : ME) : ME := fun δ F Y => me δ (fun y => match y, δ[j]? with
  | .str x, some (.odc fs) => ∃ d, fs.lookup x = some d ∧ F d
  | _, _ => False) Y
def mGet (j : Nat) (me : ME) : ME := fun δ F Y => match δ[j]? with
  | some (.odc fs) => mGetD j me δ F Y
  | _ => False
theorem we_getD (j : Nat) (he : WE K c W te me) : WE K c W (tDGet (tVar j) te) (mGet j me) := fun H G σ δ F Y Q cr rs h q xw => by
  unfold mGet at h
  split at h
  · rename_i fs ej
    obtain ⟨y, q1, p, xs, q2, _⟩ := rs.at_ _ _ ej
    subst q2
    refine ⟨_, q1, ?_⟩
    refine he H G σ δ _ _ _ cr rs h (fun v d H1 G1 g1 r1 h2 => ?_) xw
    have rs1 := rs.step cr g1
    rw [ej] at h2
    split at h2
    · rename_i x fs' e2
      cases e2
      obtain ⟨d, e3, h2⟩ := h2
      obtain ⟨y, u1, p', ys, u2, u3, u4, u5, u6⟩ := rs1.at_ _ _ ej
      rw [q1] at u1
      cases u1
      cases u2
      obtain ⟨w, w1, w2⟩ := u6.look e3
      refine ⟨p, w, rfl, ?_, q _ _ H1 G1 g1 w2 h2⟩
      rw [r1.str_of]
      have dg := DGet.k (k := Sum.inr x) u3
      rw [val_keyd, w1] at dg
      exact dg
    · exact h2.elim
  · exact h.elim
theorem de_getD (j : Nat) {z : Str} {zp : Pos} (hu : X.A.units + 1 < cLine) (hz : PE X (.Name z zp) (tVar j)) (he : DE X c W e te me) (hn : NoSl e) : DE X c W (.Subscript (.Name z zp) e pos) (tDGet (tVar j) te) (mGet j me) :=
  ⟨pe_dget hu hz he.p hn, we_getD j he.w⟩
/-- a look over the keys -/
def mLock (j : Nat) (m : ME) : ME := fun δ F _ => match δ[j]? with
  | some (.odc fs) => oneD j δ ∧ m (δ.set j (.odl fs)) F (fun _ => False)
  | _ => False
theorem we_lock (j : Nat) (he : WE K c W0 te me) : WE K c W (tLockE te) (mLock j me) := fun H G σ δ F Y Q cr rs h q xw => by
  unfold mLock at h
  split at h
  · rename_i fs ej
    obtain ⟨one, h⟩ := h
    obtain ⟨y, q1, p, xs, q2, u3, u4, u5, u6⟩ := rs.at_ _ _ ej
    subst q2
    refine ⟨p, _, u3, trivial, fun od => ?_⟩
    have cr2 : Cr c (upd H p (.frz od (.dK (keyd xs)))) G := cr.setX u3 (fun _ _ _ z => nomatch z) u4 u5
    have rs2 := rs.swap (o' := .frz od (.dK (keyd xs))) (s' := .odl fs) ej q1 u3 (fun _ z => nomatch z) (fun _ _ _ z => nomatch z) (fun _ z => nomatch z) ⟨p, od, xs, rfl, upd_same, u4, u5, u6⟩ one
    refine he _ G σ _ F _ _ cr2 rs2 h (fun v d H1 G1 g1 r1 f => ?_) XW.no
    have at1 : H1 p = some (.frz od (.dK (keyd xs))) := g1.keep _ _ upd_same (notDl_own cr u5)
    have nG : G1 p = none := by
      cases z : G1 p with
      | none => rfl
      | some o =>
        rcases g1.new _ _ z with y | y
        · rw [u4] at y; cases y
        · rw [upd_same] at y; cases y
    refine ⟨at1, q v d _ G1 ?_ r1 f⟩
    exact {
      keep := fun a o z nd => by
        by_cases ea : a = p
        · subst ea
          rw [upd_same, ← u3]
          exact z
        · rw [upd_ne ea]
          exact g1.keep a o (by rw [upd_ne ea]; exact z) nd
      grow := g1.grow
      sub := fun a o z => by rw [upd_ne (ne_of_none z nG)]; exact g1.sub a o z
      new := fun a o z => by
        rcases g1.new a o z with y | y
        · exact .inl y
        · right
          by_cases ea : a = p
          · subst ea
            rw [upd_same] at y
            cases y
          · rw [upd_ne ea] at y
            exact y
      deal := fun p' l' e => by
        obtain ⟨⟨ns, mm, z1, z2, z3⟩, w1, w2⟩ := g1.deal p' l' e
        obtain ⟨n1, n2⟩ := notDl_own cr u5 p' l' e
        exact ⟨⟨ns, mm, by rw [upd_ne (Ne.symm n1)]; exact z1, by rw [upd_ne (Ne.symm n2)]; exact z2, z3⟩, w1, w2⟩ }
  · exact h.elim
theorem de_lock (j : Nat) (he : DE X c W0 e te me) : DE X c W e (tLockE te) (mLock j me) := ⟨pe_lock he.p, we_lock j he.w⟩
def miKeys (j : Nat) : MA := fun δ F _ => match δ[j]? with
  | some (.odl fs) => F (fs.map fun x => D.str x.1)
  | _ => False
theorem di_keys (j : Nat) {z : Str} {zp : Pos} {tg : Expr} (hz : PE X (.Name z zp) (tVar j)) : DIC X c W tg (.Name z zp) (iKeys (tVar j)) (miKeys j) := by
  refine ⟨pi_keys hz, fun H G σ δ F Y R cr rs h q _ => ?_⟩
  unfold miKeys at h
  split at h
  · rename_i fs ej
    obtain ⟨y, q1, p, od, xs, q2, u3, u4, u5, u6⟩ := rs.at_ _ _ ej
    subst q2
    refine ⟨_, q1, p, od, rfl, .inl ⟨_, u3, ?_⟩⟩
    refine q _ _ H G cr.rfl' (fun i H1 G1 g1 => ?_) h
    have at1 := g1.keep _ _ u3 (notDl_own cr u5)
    refine ⟨fun d e => ?_, fun e => ⟨at1, by rw [keyd_len, u6.len, e, List.length_map]; exact Nat.le_refl _⟩⟩
    rw [List.getElem?_map] at e
    cases e2 : fs[i]? with
    | none => rw [e2] at e; cases e
    | some x =>
      rw [e2] at e
      cases e
      have lt : i < fs.length := (List.getElem?_eq_some_iff.mp e2).1
      refine ⟨⟨at1, by rw [keyd_len, u6.len]; exact lt⟩, fun v H2 ⟨e3, k, w, e4, e5⟩ => ?_⟩
      subst e3 e5
      obtain ⟨y, d, rfl, e6⟩ := u6.keyAt e4
      rw [e2] at e6
      cases e6
      exact ⟨G1, Go.refl g1.sub .no, .str _⟩
  · exact h.elim
end
end DL

set_option Elab.async false
set_option linter.all false
set_option maxRecDepth 100000
set_option maxHeartbeats 4000000
namespace L2
open PySem PySem.Spec PyProof.Rows
/-! ### a class that a local name holds, called -/
section
variable {X : Cx} {CX : CXT} {k i : Nat} {f C : Addr} {fd : FuncData} {ps : List Str} {sp : Sp} {dvs : List V} {ds : List Value} {E : St → XK} {x : Str} {p pos : Pos} {e : Expr} {es : List Expr} {t : TA}
def tMakeV (i : Nat) (C : Addr) (sp : Sp) (dvs : List V) (E : St → XK) (t : TA) : TE := fun σ H Q => σ[i]? = some (some (.ref C)) ∧ tMakeS C sp dvs E t σ H Q
theorem pe_makeV (hv : PE X (.Name x p) (tVar i)) (M : Mk X.K C f) (F : FnOk X.prog X.w X.K X.mg X.base CX k f fd ps sp) (hr : Room (k + 1) X.A) (hb : Binds X.K fd ps ds) (hd : Vals dvs ds) (hx : ∀ σ, PassesAt CX X σ (E σ)) (ha : PA X (e :: es) t)
    (he : starEach (e :: es) X.env = (false, eval e X.env) :: starEach es X.env := by rfl) (hpl : (backTo pos (starEach es X.env)).any (·.1) = false := by rfl) : PE X (.Call (.Name x p) (e :: es) [] pos) (tMakeV i C sp dvs E t) := by
  refine ⟨fun pins s σ H Q I h => wpAny_Call_Name_kw ?_⟩
  obtain ⟨h1, h2⟩ := h
  refine thn (hv.run pins s σ H (fun v H' => v = .ref C ∧ H' = H) I ⟨_, h1, rfl, rfl⟩) fun u s1 ⟨v, H1, I1, r1, q⟩ => ?_
  obtain ⟨rfl, rfl⟩ := q
  cases (show u = Value.ref C from r1)
  exact PySem.W.callWith_K (h₀ := X.base) I1.ok.mod.kin M.kp (thn (ha.run pos pins s1 σ H1 _ I1 h2) fun us s2 ⟨vs, H2, I2, r, q⟩ => ⟨I2.kIn, make_at M F hr hb hd (hx σ) I2 r q⟩) he hpl
end
end L2
namespace DL
open PySem L2 PySem.Spec PyProof.Rows XS
/-! ### len of an own object -/
section
variable {X : Cx} {pins : List (Addr × Obj)} {σ : L2.St} {H : Hp} {s : Shared} {k : Nat} {A : Around} {E : Value → Shared → Prop} {f : Addr} {fd : FuncData} {ps : List Str} {sp : Sp}
def rLenO (X : Cx) (k : Nat) : List V → Hp → VK → Prop := fun xs H Q => ∃ (a C dx : Addr) (fs : List (Str × V)) (ff : FF), xs = [.ref a] ∧ H a = some (.ins C dx fs) ∧ Own1 X.prog X.w X.K X.mg X.base C "__len__" k 1 ff ∧ spD X.K 1 false ff [.ref a] H (fun v H' => (∃ n : Int, v = .int n ∧ 0 ≤ n ∧ n < 2 ^ 63) ∧ Q v H') (fun _ _ _ => False)
theorem call_lenO {k : Nat} (hr : Room (k + 1) X.A) : CallR X (.builtin "len") (rLenO X k) := by
  intro pins s σ H xs us Q I r h
  obtain ⟨a, C, dx, fs, ff, rfl, ha, ⟨f, fd, ps, hs, tf, hb, FO⟩, h⟩ := h
  obtain ⟨u, rfl, r1⟩ := vals1 r
  cases r1
  obtain ⟨mA, J, _⟩ := ins_get I.hok ha
  obtain ⟨od, J, _⟩ := J.look
  refine wpAny_call (codeAny_call_builtin plain_len entry_len (wpAny_of_eq (args_len1 _) ?_))
  unfold Builtin.len
  refine wpAny_bind ?_
  refine wpAny_of_eq (a := .ref a) rfl ?_
  refine wpAny_bind ?_
  unfold callSpecial? specialOf
  refine wpAny_bind (wpAny_bind (J.type.here ((PySem.W.looks_findIn I.kIn hs).here ?_)))
  refine wpAny_holding (wpAny_bind ((PySem.W.bind_fn I.kIn (.ref a) tf).here ?_))
  refine wpAny_bind (wpAny_mono (run_at (E := X.xe) FO hr.in1 rfl hb I (vs := [.ref a]) (us := [.ref a]) (.cons rfl .nil) h) (fun v s' hq => ?_) fun _ _ z => z)
  obtain ⟨y, H', I', r, ⟨n, rfl, n0, n1⟩, q⟩ := hq
  obtain ⟨t, rfl⟩ := (show ∃ t, v = Value.int n t from r)
  refine wpAny_pure ?_
  refine wpAny_bind (wpAny_pure ?_)
  refine wpAny_bind (wpAny_letGo ?_)
  have e1 : ¬ n < 0 := by omega
  have e2 : ¬ n ≥ 2 ^ 63 := by omega
  show wpAny _ _ (if n < 0 then _ else _) _ _ _
  rw [if_neg e1]
  show wpAny _ _ (if n ≥ 2 ^ 63 then _ else _) _ _ _
  rw [if_neg e2]
  exact wpAny_bind (wpAny_mkInt (wpAny_pure ⟨.int n, H', I'.tok _, ⟨_, rfl⟩, q⟩))
/-- len of what is not a list -/
def gLenO (good : Addr → Prop) (ff : Addr → FF) (ds : List D) (F : D → Prop) : Prop := match ds with
  | [.obj C fs] => good C ∧ ff C [.obj C fs] (fun d => (∃ n : Int, d = .int n ∧ 0 ≤ n ∧ n < 2 ^ 63) ∧ F d) (fun _ => False)
  | _ => False
theorem cd_lenO {good : Addr → Prop} {k : Nat} {ff : Addr → FF} (M : OwnM X.prog X.w X.K X.mg X.base good "__len__" k 1 ff) : CD X.K (rLenO X k) (gLenO good ff) := fun H G vs ds F Q s r h q => by
  unfold gLenO at h
  split at h
  · rename_i C fs
    obtain ⟨v, rfl, r1⟩ := r.one
    obtain ⟨a, dx, fv, rfl, g1, r2⟩ := r1.obj_of
    refine ⟨a, C, dx, fv, ff C, rfl, s _ _ g1, M.ok C h.1, ?_⟩
    refine ⟨G, [.obj C fs], none, [.ref a], _, _, rfl, ⟨rfl, rfl⟩, s, .no, .cons r1 .nil, h.2, fun v d H' G' g r f => ?_, fun _ _ _ _ _ _ _ z => z.elim⟩
    obtain ⟨⟨n, rfl, n0, n1⟩, f⟩ := f
    exact ⟨⟨n, r.int_of, n0, n1⟩, q _ _ H' G' g r f⟩
  · exact h.elim
end
section
variable {X : Cx} {c : Ct} {W : WX} {pos p apos : Pos} {e o : Expr} {es : List Expr} {mr : MA} {tr : TA} {ma : ME} {ta : TE} {x m : Str} {C fI g q : Addr} {k n i : Nat} {fd : FuncData} {ps : List Str} {ds : List Value} {dvs : List V} {dd : List D} {ff : FI} {mc : Value}
theorem de_lenC {k : Nat} {good : Addr → Prop} {ff : Addr → FF} (M : OwnM X.prog X.w X.K X.mg X.base good "__len__" k 1 ff) (hr : Room (k + 1) X.A) (hg : Gl X "len") (hm : X.mg "len" = none) (ha : DA X c W (e :: es) tr mr)
    (he : starEach (e :: es) X.env = (false, eval e X.env) :: starEach es X.env := by rfl) (hpl : (backTo pos (starEach es X.env)).any (·.1) = false := by rfl) :
    DE X c W (.Call (.Name "len" p) (e :: es) [] pos) (tCB (rLenO X k) tr) (mCB (gLenO good ff) mr) :=
  de_callB (call_lenO hr) (cd_lenO M) hg hm (by decide +kernel) ha (he := he) (hpl := hpl)
/-- cls(..), cls a local name -/
def mMakeV (i : Nat) (C : Addr) (ff : FI) (dd : List D) (n : Nat) (mr : MA) : ME := fun δ F Y => δ[i]? = some (.dat (.fx (.ref C))) ∧ mMake C ff dd n mr δ F Y
theorem de_makeV (i : Nat) (hv : PE X (.Name x p) (tVar i)) (M : Mk X.K C fI) (F : FnOk X.prog X.w X.K X.mg X.base (L2.CX X.prog X.w) k fI fd ps (spI X.K n C ff)) (hr : Room (k + 1) X.A) (hb : Binds X.K fd ps ds) (hd : Vals dvs ds) (hdd : ∀ G, RepL X.K G dvs dd) (tk : Takes X W)
    (ha : DA X c W (e :: es) tr mr) (he : starEach (e :: es) X.env = (false, eval e X.env) :: starEach es X.env := by rfl) (hpl : (backTo pos (starEach es X.env)).any (·.1) = false := by rfl) :
    DE X c W (.Call (.Name x p) (e :: es) [] pos) (tMakeV i C (spI X.K n C ff) dvs (fun σ cls d H => W cls d σ H) tr) (mMakeV i C ff dd n mr) := by
  refine ⟨pe_makeV hv M F hr hb hd (passAt tk) ha.p he hpl, fun H G σ δ F' Y Q cr rs h q xx => ⟨?_, we_makeS hdd ha.w H G σ δ F' Y Q cr rs h.2 q xx⟩⟩
  obtain ⟨z, q1, v, q2, q3⟩ := rs.at_ _ _ h.1
  rw [q1, q2, q3.fx_of]
theorem de_mkV {y : Str} (i : Nat) (hv : PE X (.Name x p) (tVar i)) (M : MkrD X.prog X.w X.K X.mg X.base y C k n ff dvs dd) (hr : Room (k + 1) X.A) (tk : Takes X W) (ha : DA X c W (e :: es) tr mr)
    (he : starEach (e :: es) X.env = (false, eval e X.env) :: starEach es X.env := by rfl) (hpl : (backTo pos (starEach es X.env)).any (·.1) = false := by rfl) :
    DE X c W (.Call (.Name x p) (e :: es) [] pos) (tMakeV i C (spI X.K n C ff) dvs (fun σ cls d H => W cls d σ H) tr) (mMakeV i C ff dd n mr) := by
  obtain ⟨fI, fd, ps, ds, m, F, hm, hd, hb, hdd⟩ := M.ok
  exact de_makeV i hv m F hr hb hd hdd tk ha he hpl
/-- C.m(..), m a classmethod -/
theorem fnR_of {P : Program} {w : World} {K : Fg} {mg : Str → Option Value} {base : Heap} {CX : CXT} {f : Addr} {sp : Sp} (F : FnOk P w K mg base CX k f fd ps sp) (hb : ∀ (s : Shared) (us : List Value), us.length = ps.length → BindsTo s fd ⟨us, []⟩ (ps.zip us)) : FnR P w K mg base CX k f sp :=
  fun A outer s H us vs Q E hr h0 rv h => F.run A outer s H ⟨us, []⟩ us vs Q E hr h0 (hb s us (by rw [← rv.length]; exact F.len _ _ _ _ h)) rv h
/-- what callers need of a classmethod -/
structure Cmt (P : Program) (w : World) (K : Fg) (mg : Str → Option Value) (base : Heap) (C : Addr) (m : Str) (k n : Nat) (ff : FF) : Prop where
  ok : ∃ (mc : Value) (q g : Addr), ClX.CRead K C mc ∧ ClX.CMet K C mc m q g ∧ FnR P w K mg base (L2.CX P w) k g (spD K (n + 1) false ff)
def mCmet (C : Addr) (n : Nat) (ff : FF) (ma : ME) (mr : MA) : ME := fun δ F Y => ma δ (fun d => d = .fx (.ref C) ∧ mr δ (fun ds => ds.length = n ∧ ff (.fx (.ref C) :: ds) F (fun _ => False)) Y) Y
theorem we_cmet {K : Fg} {ff : FF} (wa : WE K c W ta ma) (wr : WA K c W tr mr) : WE K c W (ClX.tCMeth C (spD K (n + 1) false ff) E0 ta tr) (mCmet C n ff ma mr) := fun H G σ δ F Y Q cr rs h q xx => by
  refine wa H G σ δ _ _ _ cr rs h (fun v d H1 G1 g1 r1 h1 => ?_) xx
  obtain ⟨rfl, h1⟩ := h1
  refine ⟨r1.fx_of, ?_⟩
  refine wr H1 G1 σ δ _ _ _ (cr.step g1) (rs.step cr g1) h1 (fun vs ds H2 G2 g2 r2 h2 => ?_) (xx.step g1)
  refine ⟨G2, .fx (.ref C) :: ds, none, .ref C :: vs, F, _, by rw [List.length_cons, h2.1], ⟨rfl, rfl⟩, g2.sub, .no, .cons (.fx _) r2, h2.2, fun v d H3 G3 g3 r3 f3 => q v d H3 G3 ((g1.trans g2).trans (g3.lift g2.deal)) r3 f3, fun _ _ _ _ _ _ _ z => z.elim⟩
theorem de_cmet {pl : Sem Bool} {ff : FF} (M : Cmt X.prog X.w X.K X.mg X.base C m k n ff) (hr : Room k X.A) (tk : Takes X W) (hc : DE X c W o ta ma) (ha : DA X c W (e :: es) tr mr)
    (he : starEach (e :: es) X.env = (false, eval e X.env) :: starEach es X.env := by rfl) (hpl : (backTo pos (starEach es X.env)).any (·.1) = false := by rfl)
    (hev : eval (.Call (.Attribute o m apos) (e :: es) [] pos) X.env = (do
      let ov ← eval o X.env
      standAt apos.atName
      let (f, first) ← holding [ov] (getMethod ov m pl)
      callWith pos f first (backTo pos (starEach (e :: es) X.env)) (backToKw pos (keywordEach [] X.env))) := by rfl) :
    DE X c W (.Call (.Attribute o m apos) (e :: es) [] pos) (ClX.tCMeth C (spD X.K (n + 1) false ff) E0 ta tr) (mCmet C n ff ma mr) := by
  obtain ⟨mc, q, g, rd, cm, F⟩ := M.ok
  exact ⟨ClX.pe_cmeth hc.p rd cm F hr (passes_call tk fun _ _ _ _ z => z.elim) ha.p he hpl hev, we_cmet hc.w ha.w⟩
end
/-! ### what the head says of a classmethod -/
def fnA (K : Fg) (g : Addr) : He.FnW := match List.lookup g K with
  | some o => match o.data with
    | .func fd => some (fd.name, fd.qualname, fd.params, fd.body, fd.scope, fd.globals, fd.closure, fd.builtins)
    | _ => none
  | none => none
def noneB : Value → Bool
  | .none => true
  | _ => false
def okA (K : Fg) (g : Addr) (qual : Str) : Bool := match List.lookup g K with
  | some o => match o.data with
    | .func fd => PySem.W.codeIn K fd.code qual && (noneB fd.defaults && PySem.W.keepIn K (.ref g))
    | _ => false
  | none => false
theorem fun_ofA {K : Fg} {g : Addr} {x qual : Str} {params : Arguments} {body : List Stmt} {scope : Scope} (h1 : fnA K g = some (x, qual, params, .stmts body, scope, mainGlobals, [], builtinsNs)) (h2 : okA K g qual = true) : ∃ fd, FunD K x qual params body scope [] [] g fd := by
  unfold fnA at h1
  unfold okA at h2
  cases hl : List.lookup g K with
  | none => rw [hl] at h1; cases h1
  | some o =>
    rw [hl] at h1 h2
    obtain ⟨oc, od, dat, osl⟩ := o
    cases dat with
    | func fd =>
      have h1 : some (fd.name, fd.qualname, fd.params, fd.body, fd.scope, fd.globals, fd.closure, fd.builtins) = some (x, qual, params, FuncBody.stmts body, scope, mainGlobals, [], builtinsNs) := h1
      have h2 : (PySem.W.codeIn K fd.code qual && (noneB fd.defaults && PySem.W.keepIn K (.ref g))) = true := h2
      rw [Bool.and_eq_true, Bool.and_eq_true] at h2
      obtain ⟨c1, c2, c3⟩ := h2
      obtain ⟨n1, n2, n3, n4, n5, n6, n7, n8, n9, n10, n11, n12, n13, n14, n15⟩ := fd
      cases h1
      have e9 : n8 = .none := by
        cases n8 <;> first | rfl | cases c2
      subst e9
      exact ⟨_, ⟨⟨oc, od, .none, n9, n10, n11, n12, n13, n14, osl, rfl, hl, c1, .inl ⟨rfl, rfl⟩, .inl rfl⟩, c3⟩⟩
    | _ => cases h1
/-- where the function of a classmethod stands -/
def cmq (K : Fg) (C : Addr) (m : Str) : Addr := match PySem.W.findIn K (.ref C) m with
  | some (some (.ref q)) => q
  | _ => 0
def cmA (K : Fg) (C : Addr) (m : Str) : Addr := match PySem.W.recIn K (cmq K C m) "classmethod" with
  | some (.ref g :: _) => g
  | _ => 0
def cmB (K : Fg) (C : Addr) (m : Str) : Bool := (match PySem.W.findCls K (.ref C) (.type "type") m with
    | some (.get (.builtin b) (.ref q) .none (.ref z)) => (b == "classmethod.__get__") && (q == cmq K C m && z == C)
    | _ => false) && ((match PySem.W.recIn K (cmq K C m) "classmethod" with
    | some (.ref _ :: _) => true
    | _ => false) && (PySem.W.fnIn K (cmA K C m) && (PySem.W.readsIn K C (.type "type") && (match PySem.W.specialIn K (.ref C) "__getattribute__" with
    | some (some (.builtin b)) => b == "type.__getattribute__"
    | _ => false))))
theorem cm_facts {K : Fg} {C : Addr} {m : Str} (h : cmB K C m = true) : ClX.CRead K C (.type "type") ∧ ClX.CMet K C (.type "type") m (cmq K C m) (cmA K C m) := by
  unfold cmB at h
  rw [Bool.and_eq_true, Bool.and_eq_true, Bool.and_eq_true, Bool.and_eq_true] at h
  obtain ⟨h1, h2, h3, h4, h5⟩ := h
  refine ⟨⟨h4, ?_⟩, ⟨?_, ?_, h3⟩⟩
  · split at h5
    · rename_i b e
      rw [e, show b = "type.__getattribute__" from by simpa using h5]
    · cases h5
  · split at h1
    · rename_i b q z e
      rw [Bool.and_eq_true, Bool.and_eq_true] at h1
      obtain ⟨q1, q2, q3⟩ := h1
      rw [e, show b = "classmethod.__get__" from by simpa using q1, show q = cmq K C m from by simpa using q2, show z = C from by simpa using q3]
    · cases h1
  · split at h2
    · rename_i g rest e
      refine ⟨rest, ?_⟩
      unfold cmA
      rw [e]
    · cases h2
end DL

set_option Elab.async false
set_option linter.all false
set_option maxRecDepth 100000
set_option maxHeartbeats 4000000
namespace DL
open PySem L2 PySem.Spec PyProof.Rows XS HandSHeadRun
/-! ### the head's hook, with classmethods -/
def asC (g : Addr → Option Obj) (n : Nat) : List Addr := growF g n (Nat.lor (Nat.shiftLeft 1 mainGlobals) (Nat.shiftLeft 1 cStatics)) [mainGlobals, cStatics] [mainGlobals]
abbrev AlC : Type := (He.AlD × Bool) × List He.FnW
def obsC (n : Nat) (fa : List He.Fa) (fn : List He.DefD) (fc : List ((Fg → Addr) × He.DefD)) (ex : Fg → Bool) (g : Addr → Option Obj) : AlC :=
  ((He.obsD fa fn (He.frG g (asC g n)), ex (He.frG g (asC g n))), fc.map fun d => fnA (He.frG g (asC g n)) (d.1 (He.frG g (asC g n))))
def SaysC (fc : List ((Fg → Addr) × He.DefD)) (K : Fg) : Prop := (fc.map fun d => fnA K (d.1 K)) = fc.map fun d => d.2.val
def hookC (n : Nat) (fa : List He.Fa) (fn : List He.DefD) (fc : List ((Fg → Addr) × He.DefD)) (ex : Fg → Bool) : PySem.W.Hook where
  α := AlC
  obs := fun s => obsC n fa fn fc ex s.heap.get?
  val := fun _ => ((He.valD fn, true), fc.map fun d : (Fg → Addr) × He.DefD => d.2.val)
  says := fun _ h => ∃ K : Fg, K.In h ∧ He.SaysD fa fn K ∧ ex K = true ∧ SaysC fc K
  of := fun _ _ e => ⟨_, He.frG_in, congrArg (fun z : AlC => z.1.1) e, congrArg (fun z : AlC => z.1.2) e, (by exact congrArg (fun z : AlC => z.2) e)⟩
  keeps := fun _ _ _ ⟨K, hK, c⟩ k => ⟨K, PySem.W.Frag.In.keeps hK k, c⟩
theorem obsC_eq {n : Nat} {fa : List He.Fa} {fn : List He.DefD} {fc : List ((Fg → Addr) × He.DefD)} {ex : Fg → Bool} {g : Addr → Option Obj} {s : Shared} (h : ∀ a, g a = s.heap.get? a) : obsC n fa fn fc ex g = (hookC n fa fn fc ex).obs s := by
  have e : g = s.heap.get? := funext h
  rw [e] <;> rfl
theorem SaysC.one {p : Fg → Addr} {d : He.DefD} {K : Fg} (h : SaysC [(p, d)] K) : fnA K (p K) = d.val := (List.cons.inj h).1
/-! ### split, str of texts and ints, sorted of texts -/
def gSplit (z : Str) (ds : List D) (F : D → Prop) : Prop := match ds with
  | [.str b] => (b.length == 0) = false ∧ z.length + 2 ≤ sizeLine ∧ F (.lst ((Txt.split z b).map D.str))
  | _ => False
theorem reps_strs {K : Fg} {G : Hp} : ∀ xs : List Str, RepL K G (xs.map V.str) (xs.map D.str)
  | [] => .nil
  | x :: xs => .cons (.str x) (reps_strs xs)
theorem strs_reps {K : Fg} {G : Hp} : ∀ {xs : List Str} {vs : List V}, RepL K G vs (xs.map D.str) → vs = xs.map V.str
  | [], _, .nil => rfl
  | x :: xs, _, .cons a r => by rw [a.str_of, strs_reps r]; rfl
theorem md_split {K : Fg} : MD K (fun x xs H Q => ∃ a b, x = .str a ∧ xs = [.str b] ∧ (b.length == 0) = false ∧ a.length + 2 ≤ sizeLine ∧ rNewStrs (Txt.split a b) H Q) gSplit := fun H G z vs ds F Q s r h q => by
  unfold gSplit at h
  split at h
  · rename_i b
    obtain ⟨v, rfl, r1⟩ := r.one
    refine ⟨z, b, rfl, by rw [r1.str_of], h.1, h.2.1, fun p hp => ?_⟩
    exact q _ _ _ _ (Go.laid s hp) (.lst upd_same (reps_strs _)) h.2.2
  · exact h.elim
def gStrP (ds : List D) (F : D → Prop) : Prop := match ds with
  | [.str a] => F (.str a)
  | [.int i] => i.natAbs.log2 < 1920 ∧ F (.str (toString i))
  | _ => False
abbrev rStrP : List V → Hp → VK → Prop := fun xs H Q => (∃ i, xs = [.int i] ∧ i.natAbs.log2 < 1920 ∧ Q (.str (toString i)) H) ∨ ∃ a, xs = [.str a] ∧ Q (.str a) H
theorem CallR.or {X : Cx} {f : Value} {r r' : List V → Hp → VK → Prop} (a : CallR X f r) (b : CallR X f r') : CallR X f (fun xs H Q => r xs H Q ∨ r' xs H Q) := fun pins s σ H xs us Q I v h => h.elim (a pins s σ H xs us Q I v) (b pins s σ H xs us Q I v)
theorem call_strP {X : Cx} : CallR X (.type "str") rStrP := call_str_int.or SkE.call_str_str
theorem cd_strP {K : Fg} : CD K rStrP gStrP := fun H G vs ds F Q s r h q => by
  unfold gStrP at h
  split at h
  · obtain ⟨v, rfl, r1⟩ := r.one
    exact .inr ⟨_, by rw [r1.str_of], q _ _ H G (Go.refl s .no) (.str _) h⟩
  · obtain ⟨v, rfl, r1⟩ := r.one
    exact .inl ⟨_, by rw [r1.int_of], h.1, q _ _ H G (Go.refl s .no) (.str _) h.2⟩
  · exact h.elim
/-- sorted of a list of texts -/
def gSortS (ds : List D) (F : D → Prop) : Prop := match ds with
  | [.lst l] => ∃ xs : List Str, l = xs.map D.str ∧ xs.length < 64 ∧ ∀ ys : List Str, ys.Perm xs → sortedS ys = true → F (.lst (ys.map D.str))
  | _ => False
theorem cd_sortS {K : Fg} : CD K (rSortedS K) gSortS := fun H G vs ds F Q s r h q => by
  unfold gSortS at h
  split at h
  · obtain ⟨v, rfl, r1⟩ := r.one
    obtain ⟨xs, rfl, lt, h⟩ := h
    obtain ⟨a, ws, rfl, g1, r2⟩ := r1.lst_of
    obtain rfl := strs_reps r2
    exact ⟨a, xs, rfl, SqL.of (s _ _ g1), lt, fun ys p pm so hp => q _ _ _ _ (Go.laid s hp) (.lst upd_same (reps_strs _)) (h ys pm so)⟩
  · exact h.elim
end DL

set_option Elab.async false
set_option linter.all false
set_option maxRecDepth 100000
set_option maxHeartbeats 4000000
namespace XS
open PySem L2 PySem.Spec PyProof.Rows
/-! ### enumerate of a list, from a number on -/
theorem callWith_typeK {M : Model} {A : Around} {E : Value → Shared → Prop} {s : Shared} {pos : Pos} {T : String} {first : List Value} {args : List (Bool × Sem Value)} {kws : List (Option Str × Sem Value)} {Q : Value → Shared → Prop}
    (h1 : ((args.any fun x => x.fst) || kws.any fun x => x.fst.isNone) = false)
    (h : wpAny M A (evalArgs (.type T) true args kws) (fun a s1 => wpAny M A (call (.type T) (first ++ a.pos) a.kw) Q E s1) E s) : wpAny M A (callWith pos (.type T) first args kws) Q E s := by
  unfold callWith
  refine wpAny_bind (wpAny_holding (wpAny_mono h (fun a s1 q => ?_) fun _ _ z => z))
  refine wpAny_bind (wpAny_standAt ?_)
  simp only [h1]
  refine wpAny_bind (wpAny_of_eq (a := Keeper.machine) rfl ?_)
  exact wpAny_bind (wpAny_mono q (fun v s2 z => wpAny_bind (wpAny_holding (wpAny_point (wpAny_pure z)))) fun _ _ z => z)
/-- the list at a, each item in a new pair, numbers from k0 on -/
def Itel (K : PySem.W.Frag) (k0 : Int) (a : Addr) : It where
  go := fun i H => ∃ (xs : List V) (x : V), SqL K H a xs ∧ xs[i]? = some x
  yld := fun i H v H' => ∃ T x, v = .ref T ∧ H T = none ∧ H' = upd H T (.tup [.int (k0 + (i : Nat)), x]) ∧ ∀ xs, SqL K H a xs → xs[i]? = some x
  stop := fun i H => ∃ xs : List V, SqL K H a xs ∧ i = xs.length
theorem turn_enumL {P : Program} {w : World} {K : PySem.W.Frag} {elts : List Expr} {kk : Nat} {tpos : Pos} (k0 : Int) (a e it : Addr) :
    Turn P w K (.Tuple elts kk tpos) (Itel K k0 a) [e, it] e (fun i h => (∃ old, IsEnum h e it (k0 + (i : Nat)) old) ∧ h.IsListIter it a i ∧ e ≠ it) where
  mem := by simp
  obj := fun i h ⟨⟨old, he⟩, ⟨o, ho, _, hd⟩, _⟩ b m => by
    rcases (show b = e ∨ b = it by simpa using m) with rfl | rfl
    · exact ⟨_, he, fun v q => nomatch q⟩
    · exact ⟨o, ho, fun v q => by rw [hd] at q; cases q⟩
  keep := fun i h h' ⟨⟨old, he⟩, hi, ne⟩ k => ⟨⟨old, k e (by simp) _ he⟩, hi.at fun o q => k it (by simp) o q, ne⟩
  item := by
    intro X hP hw hK calm i pins s σ H E I hf ⟨⟨old, he⟩, hit, ne⟩ ⟨xs, x, hq, hx⟩
    subst hP hw hK
    obtain ⟨its, rv, pl, _⟩ := I.list hq
    obtain ⟨u, hu, ru⟩ := rv.get hx
    have le := Heap.lt_size he
    have far : e ≠ a := fun z => by
      obtain ⟨o, n, ho, hc, _⟩ := pl
      rw [← z, he] at ho
      cases ho
      exact absurd hc (by simp)
    have ei : i < its.toArray.size := by
      rw [List.size_toArray]
      exact (List.getElem?_eq_some_iff.mp hu).1
    have apart : it ≠ a := fun z => by
      obtain ⟨o, n, ho, hc, _⟩ := pl
      obtain ⟨o2, ho2, hc2, _⟩ := hit
      rw [z, ho] at ho2
      cases ho2
      rw [hc] at hc2
      exact absurd hc2 (by simp)
    have pl2 : s.heap.IsList a its.toArray := by
      obtain ⟨o, n, z1, z2, z3, z4⟩ := pl
      exact ⟨o, z1, z2, n, z4⟩
    refine wpAny_pyNext_enum_itemC (Draws.list (by exact I.ok.hd calm) it a (Ne.symm apart) its.toArray) he ⟨hit, pl2⟩ ei ne (by simp [ne, far]) fun y h1 tk hy out ⟨hit1, _⟩ hT hsz hk => ?_
    have ey : y = u := by
      have hy : its.toArray[i]? = some y := hy
      rw [show its.toArray[i]? = some u by simpa using hu] at hy
      exact (Option.some.inj hy).symm
    subst ey
    refine ⟨_, rfl, wpAny_letOwnedTupleGo_enum (s := { s with heap := h1, toks := tk + 1 }) out fun h2 he2 sb => ?_⟩
    have hT2 := (sb.2 _ (Nat.ne_of_gt le)).trans hT
    have new : ObjOk X.prog X.w (upd H s.heap.objs.size (.tup [.int (k0 + (i : Nat)), x])) h2 s.heap.objs.size (.tup [.int (k0 + (i : Nat)), x]) := ⟨by show 2 ≤ sizeLine; decide, [.int (k0 + (i : Nat)) tk, y], .cons ⟨_, rfl⟩ (.cons ru .nil), ⟨_, hT2, rfl, _, rfl⟩⟩
    have I1 : Inv X pins σ (upd H s.heap.objs.size (.tup [.int (k0 + (i : Nat)), x])) { s with heap := h2, toks := tk + 1 } :=
      I.turnedNew (ch := [e, it]) (fun b ob nb q => (sb.2 b fun z => nb (by simp [z])).trans (hk b ob (fun z => nb (by simp [z])) (fun z => nb (by simp [z])) q)) hf (Nat.le_refl _) new
    refine ⟨.ref s.heap.objs.size, _, I1, rfl, ⟨_, x, rfl, I.hok.fresh (Nat.le_refl _), rfl, fun ys hy => by rw [I.list_inj hy hq]; exact hx⟩, ⟨⟨y, ?_⟩, hit1.at fun o q => (sb.2 it (Ne.symm ne)).trans q, ne⟩, fun b m => ?_⟩
    · rw [show k0 + ((i + 1 : Nat) : Int) = k0 + (i : Int) + 1 by omega]
      exact he2
    · have lb : b < s.heap.objs.size := by
        rcases (show b = e ∨ b = it by simpa using m) with rfl | rfl
        · exact le
        · obtain ⟨_, q, _⟩ := hit
          exact Heap.lt_size q
      exact (upd_ne (Nat.ne_of_lt lb)).trans (hf b m).1
  done := by
    intro X hP hw hK calm i pins s σ H E I hf ⟨⟨old, he⟩, hit, ne⟩ ⟨xs, hq, hx⟩
    subst hP hw hK
    obtain ⟨its, rv, pl, _⟩ := I.list hq
    obtain ⟨f0, f1, f2, f3, f4, f5⟩ := hf it (by simp)
    have ln := rv.length
    have apart : it ≠ a := fun z => by
      obtain ⟨o, n, ho, hc, _⟩ := pl
      obtain ⟨o2, ho2, hc2, _⟩ := hit
      rw [z, ho] at ho2
      cases ho2
      rw [hc] at hc2
      exact absurd hc2 (by simp)
    have hit : s.heap.IsListIter it a its.toArray.size := by
      rw [List.size_toArray, ← ln, ← hx]
      exact hit
    have pl2 : s.heap.IsList a its.toArray := by
      obtain ⟨o, n, z1, z2, z3, z4⟩ := pl
      exact ⟨o, z1, z2, n, z4⟩
    exact wpAny_pyNext_enum_endD (Draws.list (by exact I.ok.hd calm) it a (Ne.symm apart) its.toArray) he ⟨hit, pl2⟩ fun h' eb => ⟨rfl, I.turned (t' := s.toks) (fun b o nb q => eb b o nb q) f0 f1 f3 f4 f5⟩
  self := fun A i s Q E ⟨⟨_, he⟩, _⟩ h => wpAny_pyIter_enum he h
def iEnumL (K : PySem.W.Frag) (k0 : Int) (ta : TA) : TI := fun σ H R => ta σ H fun vs H1 => ∃ a xs, vs = [.ref a] ∧ SqL K H1 a xs ∧ R (Itel K k0 a) H1
theorem pi_enumL {X : Cx} {e ke : Expr} {ta : TA} {p pos tpos : Pos} {elts : List Expr} {kk : Nat} {kws : List Keyword} {k0 : Int} (r0 : -2 ^ 63 ≤ k0) (r1 : k0 < 2 ^ 63) (hg : Gl X "enumerate") (hm : X.mg "enumerate" = none) (ha : PA X [e] ta) (hk : PE X ke (tC (.int k0)))
    (hs : starEach [e] X.env = [(false, eval e X.env)] := by rfl) (hkw : backToKw pos (keywordEach kws X.env) = backToKw pos [(some "start", eval ke X.env)] := by rfl) :
    PI X (.Tuple elts kk tpos) (.Call (.Name "enumerate" p) [e] kws pos) (iEnumL X.K k0 ta) := by
  refine ⟨fun pins s σ H R I h => wpAny_Call_Name_kw (ld_blt I hg hm boot_enumerate (callWith_typeK ?_ (evalArgs_kw2 ?_ (thn (ha.run pos pins s σ H _ I h) fun us s1 ⟨vs, H1, I1, r1', a, xs, ex, hq, q⟩ => ?_) hs)))⟩
  · rw [hkw, hs]
    rfl
  · rw [hkw]
    rfl
  subst ex
  obtain rfl := Vals.ref1 r1'
  rw [hkw]
  show wpAny _ _ (evalAll [do
    let v ← eval ke X.env
    standAt pos
    pure v]) _ _ _
  unfold evalAll
  refine wpAny_bind (wpAny_bind (wpAny_mono (hk.run pins s1 σ H1 (fun v H' => v = .int k0 ∧ H' = H1) I1 ⟨rfl, rfl⟩) (fun kv s2 z => ?_) fun _ _ z => z))
  obtain ⟨v, H2, I2, r2, rfl, rfl⟩ := z
  obtain ⟨t, rfl⟩ := (show ∃ t, kv = Value.int k0 t from r2)
  refine wpAny_bind (wpAny_standAt (wpAny_pure ?_))
  refine wpAny_bind (wpAny_holding ?_)
  unfold evalAll
  refine wpAny_pure (wpAny_pure ?_)
  obtain ⟨its, _, pl, _⟩ := I2.list hq
  have pl2 : s2.heap.IsList a its.toArray := by
    obtain ⟨o, n, z1, z2, z3, z4⟩ := pl
    exact ⟨o, z1, z2, n, z4⟩
  refine enum_begins_start (begins_list a its.toArray) pl2 r0 r1 fun h' he at_ sz kept => wpAny_pyIter_enum he ?_
  refine ⟨s2.heap.objs.size + 1, [s2.heap.objs.size + 1, s2.heap.objs.size], _, _, H2, rfl, I2.kept (t' := s2.toks) kept, turn_enumL k0 a (s2.heap.objs.size + 1) s2.heap.objs.size, ⟨⟨.none, by simpa using he⟩, ⟨_, at_, rfl, rfl⟩, Nat.succ_ne_self _⟩, fun b m => ?_, q⟩
  have le : s2.heap.objs.size ≤ b := by
    rcases (show b = s2.heap.objs.size + 1 ∨ b = s2.heap.objs.size by simpa using m) with rfl | rfl
    · exact Nat.le_succ _
    · exact Nat.le_refl _
  exact I2.fpOk le (I2.hok.fresh le)
end XS
namespace DL
open PySem L2 PySem.Spec PyProof.Rows XS
def enumZ (k : Int) : List D → List D
  | [] => []
  | d :: ds => .tup [.int k, d] :: enumZ (k + 1) ds
theorem enumZ_len : ∀ (k : Int) (ds : List D), (enumZ k ds).length = ds.length
  | _, [] => rfl
  | k, d :: ds => by rw [enumZ, List.length_cons, List.length_cons, enumZ_len (k + 1) ds]
theorem enumZ_get : ∀ (k : Int) (ds : List D) (i : Nat), (enumZ k ds)[i]? = ds[i]?.map fun d => .tup [.int (k + (i : Nat)), d]
  | _, [], i => by simp [enumZ]
  | k, d :: ds, 0 => by simp [enumZ]
  | k, d :: ds, i + 1 => by
    rw [enumZ, List.getElem?_cons_succ, List.getElem?_cons_succ, enumZ_get (k + 1) ds i]
    congr 1
    funext d
    rw [show k + 1 + (i : Int) = k + ((i + 1 : Nat) : Int) by omega]
theorem walk_enumL {K : Fg} {G0 : Hp} {k0 : Int} {a : Addr} {xs : List V} {as : List D} (ha : G0 a = some (.lst xs)) (ra : RepL K G0 xs as) : IsWalk K G0 (Itel K k0 a) (enumZ k0 as) := fun i H G s sg => by
  have hA : SqL K H a xs := SqL.of (sg _ _ (s _ _ ha))
  refine ⟨fun d e => ?_, fun e => ⟨xs, hA, by rw [enumZ_len] at e; rw [ra.length]; exact e⟩⟩
  rw [enumZ_get] at e
  cases e1 : as[i]? with
  | none => rw [e1] at e; cases e
  | some u =>
    rw [e1] at e
    cases e
    obtain ⟨x, f1, r1⟩ := ra.get e1
    refine ⟨⟨xs, x, hA, f1⟩, fun v H' ⟨T, x', h1, h2, h3, h4⟩ => ?_⟩
    subst h1 h3
    have h4 := h4 _ hA
    rw [f1] at h4
    cases h4
    have gl := Go.laid (o := .tup [.int (k0 + (i : Nat)), x]) sg h2
    exact ⟨_, gl, .tup (SqT.of upd_same) (.cons (.int _) (.cons ((r1.mono s).mono gl.grow) .nil))⟩
def miEnumL (k0 : Int) (ma : ME) : MA := fun δ F X => ma δ (fun d => match d with
  | .lst ds => F (enumZ k0 ds)
  | _ => False) X
theorem di_enumL {X : Cx} {c : Ct} {W : WX} {e ke : Expr} {ta : TE} {ma : ME} {p pos tpos : Pos} {elts : List Expr} {kk : Nat} {kws : List Keyword} {k0 : Int} (hg : Gl X "enumerate") (hm : X.mg "enumerate" = none) (hk : PE X ke (tC (.int k0))) (ha : DE X c W e ta ma) (r0 : -2 ^ 63 ≤ k0 := by decide) (r1 : k0 < 2 ^ 63 := by decide)
    (hs : starEach [e] X.env = [(false, eval e X.env)] := by rfl) (hkw : backToKw pos (keywordEach kws X.env) = backToKw pos [(some "start", eval ke X.env)] := by rfl) :
    DI X c W (.Tuple elts kk tpos) (.Call (.Name "enumerate" p) [e] kws pos) (iEnumL X.K k0 (tCons ta tNil)) (miEnumL k0 ma) := by
  refine ⟨pi_enumL r0 r1 hg hm (pa_cons ha.p pa_nil hs) hk hs hkw, fun H G σ δ F Y R cr rs h q x => ?_⟩
  refine ha.w H G σ δ _ _ _ cr rs h (fun v d H1 G1 g1 r1 h1 => ?_) x
  split at h1
  · obtain ⟨a, xs, rfl, g2, r2⟩ := r1.lst_of
    exact ⟨a, xs, rfl, SqL.of (g1.sub _ _ g2), q _ _ H1 G1 g1 (walk_enumL g2 r2) h1⟩
  · exact h1.elim
end DL

set_option Elab.async false
set_option linter.all false
set_option maxRecDepth 100000
set_option maxHeartbeats 4000000
namespace DL
open PySem L2 PySem.Spec PyProof.Rows XS
/-! ### tuples of texts are in the order of their lines -/
abbrev lt1 (a b : List Nat) : Bool := Spec.ltCps a b
def jn : List (List Nat) → List Nat
  | [] => []
  | [x] => x
  | x :: y :: l => x ++ 32 :: jn (y :: l)
theorem lt_cons (a b : Nat) (r t : List Nat) : lt1 (a :: r) (b :: t) = (decide (a < b) || a == b && lt1 r t) := rfl
theorem lt_irr : ∀ x : List Nat, lt1 x x = false
  | [] => rfl
  | a :: r => by rw [lt_cons, lt_irr r]; simp
theorem lt_glue {u v : List Nat} : ∀ (x y : List Nat), (∀ n ∈ x, 32 < n) → (∀ n ∈ y, 32 < n) → lt1 (x ++ 32 :: u) (y ++ 32 :: v) = (lt1 x y || (decide (x = y) && lt1 u v))
  | [], [], _, _ => by
    rw [List.nil_append, List.nil_append, lt_cons, lt_irr]
    simp
  | [], b :: y, _, hy => by
    have hb := hy b (List.mem_cons_self ..)
    rw [List.nil_append, List.cons_append, lt_cons]
    have e : decide (32 < b) = true := decide_eq_true hb
    rw [e]
    rfl
  | a :: x, [], hx, _ => by
    have ha := hx a (List.mem_cons_self ..)
    rw [List.nil_append, List.cons_append, lt_cons]
    have e1 : decide (a < 32) = false := decide_eq_false (by omega)
    have e2 : (a == 32) = false := beq_eq_false_iff_ne.mpr (by omega)
    rw [e1, e2]
    rfl
  | a :: x, b :: y, hx, hy => by
    have ih := lt_glue (u := u) (v := v) x y (fun n m => hx n (List.mem_cons_of_mem _ m)) (fun n m => hy n (List.mem_cons_of_mem _ m))
    rw [List.cons_append, List.cons_append, lt_cons, lt_cons, ih]
    by_cases h : a = b
    · subst h
      have : decide (a :: x = a :: y) = decide (x = y) := decide_eq_decide.mpr ⟨fun e => (List.cons.inj e).2, fun e => by rw [e]⟩
      rw [this]
      simp
    · have e2 : (a == b) = false := beq_eq_false_iff_ne.mpr h
      have : decide (a :: x = b :: y) = false := decide_eq_false fun e => h (List.cons.inj e).1
      rw [this, e2]
      simp
def tkS : List Str → List (Int ⊕ List Nat)
  | [] => [Sum.inl 0]
  | x :: l => Sum.inl 1 :: Sum.inr x.cps.toList :: tkS l
theorem tk_all : ∀ l : List Str, PySem.W.keyToksAll (l.map PyData.str) = tkS l
  | [] => rfl
  | x :: l => by
    show Sum.inl 1 :: ([Sum.inr x.cps.toList] ++ PySem.W.keyToksAll (l.map PyData.str)) = _
    rw [tk_all l]
    rfl
def ltK (l m : List Str) : Bool := lexLt itemOrd (tkS l) (tkS m)
theorem ltT_K (l m : List Str) : ltT PyData.str l m = ltK l m := by
  unfold ltT ltK PySem.W.dataLt XS.encT
  show lexLt itemOrd (PySem.W.keyToksAll (l.map PyData.str)) (PySem.W.keyToksAll (m.map PyData.str)) = _
  rw [tk_all, tk_all]
theorem ltK_cons (x y : Str) (l m : List Str) : ltK (x :: l) (y :: m) = (lt1 x.cps.toList y.cps.toList || (!lt1 y.cps.toList x.cps.toList && ltK l m)) := by
  show (itemLt (Sum.inl 1) (Sum.inl 1) || (!itemLt (Sum.inl 1) (Sum.inl 1) && (itemLt (Sum.inr x.cps.toList) (Sum.inr y.cps.toList) || (!itemLt (Sum.inr y.cps.toList) (Sum.inr x.cps.toList) && ltK l m)))) = _
  rw [show lt1 x.cps.toList y.cps.toList = decide (x.cps.toList < y.cps.toList) from ltCps_eq _ _, show lt1 y.cps.toList x.cps.toList = decide (y.cps.toList < x.cps.toList) from ltCps_eq _ _]
  rfl
theorem lt_tot {a b : List Nat} (h1 : lt1 a b = false) (h2 : lt1 b a = false) : a = b := by
  rw [show lt1 a b = decide (a < b) from ltCps_eq a b] at h1
  rw [show lt1 b a = decide (b < a) from ltCps_eq b a] at h2
  have h1 := of_decide_eq_false h1
  have h2 := of_decide_eq_false h2
  exact List.le_antisymm h2 h1
theorem ltK_jn : ∀ (l m : List Str), l.length = m.length → l ≠ [] → (∀ x ∈ l, ∀ n ∈ x.cps.toList, 32 < n) → (∀ x ∈ m, ∀ n ∈ x.cps.toList, 32 < n) →
    ltK l m = lt1 (jn (l.map fun x => x.cps.toList)) (jn (m.map fun x => x.cps.toList))
  | [], _, _, h, _, _ => absurd rfl h
  | _ :: _, [], h, _, _, _ => by simp at h
  | [x], [y], _, _, _, _ => by
    rw [ltK_cons]
    have : ltK [] [] = false := rfl
    rw [this]
    simp [jn]
  | [x], _ :: _ :: _, h, _, _, _ => by simp at h
  | _ :: _ :: _, [_], h, _, _, _ => by simp at h
  | x :: x2 :: l, y :: y2 :: m, h, _, hx, hy => by
    have ih := ltK_jn (x2 :: l) (y2 :: m) (by simpa using h) (fun z => nomatch z) (fun z mz => hx z (List.mem_cons_of_mem _ mz)) (fun z mz => hy z (List.mem_cons_of_mem _ mz))
    rw [ltK_cons, ih]
    show _ = lt1 (x.cps.toList ++ 32 :: jn ((x2 :: l).map fun x => x.cps.toList)) (y.cps.toList ++ 32 :: jn ((y2 :: m).map fun x => x.cps.toList))
    rw [lt_glue _ _ (hx x (List.mem_cons_self ..)) (hy y (List.mem_cons_self ..))]
    cases e1 : lt1 x.cps.toList y.cps.toList with
    | true => rfl
    | false =>
      cases e2 : lt1 y.cps.toList x.cps.toList with
      | true =>
        have : decide (x.cps.toList = y.cps.toList) = false := decide_eq_false fun e => by
          rw [e, lt_irr] at e2
          cases e2
        rw [this]
        rfl
      | false =>
        have : decide (x.cps.toList = y.cps.toList) = true := decide_eq_true (lt_tot e1 e2)
        rw [this]
        rfl
/-! the line of a tuple of texts -/
theorem join_jn : ∀ l : List Str, (Txt.join " " l).cps.toList = jn (l.map fun x => x.cps.toList)
  | l => by
    show (Builtin.Str.glued " " l).cps.toList = _
    rw [StrLaws.glued_eq_join]
    have go : ∀ l : List Str, (Str.join " " l).cps.toList = jn (l.map fun x => x.cps.toList) := by
      intro l
      induction l with
      | nil => rfl
      | cons x l ih =>
        cases l with
        | nil => rfl
        | cons y l =>
          show ((x ++ (" " : Str) ++ Str.join " " (y :: l)) : Str).cps.toList = x.cps.toList ++ 32 :: jn ((y :: l).map fun x => x.cps.toList)
          rw [← ih]
          show (x.cps ++ (" " : Str).cps ++ (Str.join " " (y :: l)).cps).toList = _
          rw [Array.toList_append, Array.toList_append, List.append_assoc]
          rfl
    exact go l
theorem str_cps {x y : Str} (h : x.cps.toList = y.cps.toList) : x = y := by
  obtain ⟨a⟩ := x
  obtain ⟨b⟩ := y
  have : a = b := by
    have h : a.toList = b.toList := h
    rw [← Array.toArray_toList (xs := a), h, Array.toArray_toList]
  rw [this]
theorem jn_inj : ∀ (l m : List (List Nat)), l.length = m.length → (∀ x ∈ l, ∀ n ∈ x, 32 < n) → (∀ x ∈ m, ∀ n ∈ x, 32 < n) → jn l = jn m → l = m
  | [], [], _, _, _, _ => rfl
  | [], _ :: _, h, _, _, _ => by simp at h
  | _ :: _, [], h, _, _, _ => by simp at h
  | [x], [y], _, _, _, e => by rw [show x = y from e]
  | [x], _ :: _ :: _, h, _, _, _ => by simp at h
  | _ :: _ :: _, [_], h, _, _, _ => by simp at h
  | x :: x2 :: l, y :: y2 :: m, h, hx, hy, e => by
    have e : x ++ 32 :: jn (x2 :: l) = y ++ 32 :: jn (y2 :: m) := e
    have go : ∀ (x y u v : List Nat), (∀ n ∈ x, 32 < n) → (∀ n ∈ y, 32 < n) → x ++ 32 :: u = y ++ 32 :: v → x = y ∧ u = v := by
      intro x
      induction x with
      | nil =>
        intro y u v _ hy e
        cases y with
        | nil => exact ⟨rfl, (List.cons.inj e).2⟩
        | cons b y =>
          have := hy b (List.mem_cons_self ..)
          have e2 := (List.cons.inj e).1
          omega
      | cons a x ih =>
        intro y u v hx hy e
        cases y with
        | nil =>
          have := hx a (List.mem_cons_self ..)
          have e2 := (List.cons.inj e).1
          omega
        | cons b y =>
          obtain ⟨e1, e2⟩ := List.cons.inj e
          obtain ⟨q1, q2⟩ := ih y u v (fun n m => hx n (List.mem_cons_of_mem _ m)) (fun n m => hy n (List.mem_cons_of_mem _ m)) e2
          exact ⟨by rw [e1, q1], q2⟩
    obtain ⟨q1, q2⟩ := go x y _ _ (hx x (List.mem_cons_self ..)) (hy y (List.mem_cons_self ..)) e
    rw [q1, jn_inj (x2 :: l) (y2 :: m) (by simpa using h) (fun z mz => hx z (List.mem_cons_of_mem _ mz)) (fun z mz => hy z (List.mem_cons_of_mem _ mz)) q2]
/-! lists in one order are the same -/
def upL (l : List (List Nat)) : Prop := l.Pairwise fun a b => lt1 b a = false
theorem lt_trans' {a b c : List Nat} (h1 : lt1 b a = false) (h2 : lt1 c b = false) : lt1 c a = false := by
  rw [show lt1 b a = decide (b < a) from ltCps_eq b a] at h1
  rw [show lt1 c b = decide (c < b) from ltCps_eq c b] at h2
  rw [show lt1 c a = decide (c < a) from ltCps_eq c a]
  have h1 := of_decide_eq_false h1
  have h2 := of_decide_eq_false h2
  refine decide_eq_false fun h => ?_
  exact absurd h (show a ≤ c from List.le_trans h1 h2)
theorem rising_up : ∀ (l : List Str) (p : Str), risingS p l = true → upL ((p :: l).map fun x => x.cps.toList)
  | [], p, _ => List.pairwise_singleton ..
  | x :: l, p, h => by
    have h : (!lt1 x.cps.toList p.cps.toList && risingS x l) = true := h
    rw [Bool.and_eq_true, Bool.not_eq_true'] at h
    obtain ⟨h1, h2⟩ := h
    have ih := rising_up l x h2
    refine List.pairwise_cons.mpr ⟨fun y my => ?_, ih⟩
    rw [List.map_cons] at my
    rcases List.mem_cons.mp my with rfl | my
    · exact h1
    · exact lt_trans' h1 ((List.pairwise_cons.mp ih).1 y my)
theorem sorted_up : ∀ {l : List Str}, sortedS l = true → upL (l.map fun x => x.cps.toList)
  | [], _ => .nil
  | x :: l, h => rising_up l x h
theorem up_same : ∀ {l m : List (List Nat)}, upL l → upL m → l.Perm m → l = m
  | [], m, _, _, p => by rw [p.symm.eq_nil]
  | a :: l, [], _, _, p => by have := p.eq_nil; cases this
  | a :: l, b :: m, h1, h2, p => by
    obtain ⟨u1, v1⟩ := List.pairwise_cons.mp h1
    obtain ⟨u2, v2⟩ := List.pairwise_cons.mp h2
    have e : a = b := by
      rcases List.mem_cons.mp (p.mem_iff.mp (List.mem_cons_self ..)) with e | ma
      · exact e
      · rcases List.mem_cons.mp (p.mem_iff.mpr (List.mem_cons_self ..)) with e | mb
        · exact e.symm
        · exact lt_tot (u2 a ma) (u1 b mb)
    subst e
    rw [up_same v1 v2 (p.cons_inv)]
end DL

set_option Elab.async false
set_option linter.all false
set_option maxRecDepth 100000
set_option maxHeartbeats 4000000
namespace DL
open PySem L2 PySem.Spec PyProof.Rows XS
/-! ### split takes back join -/
def jc (c : Nat) : List (List Nat) → List Nat
  | [] => []
  | [x] => x
  | x :: y :: l => x ++ c :: jc c (y :: l)
theorem glue_inj {c : Nat} : ∀ (x y u v : List Nat), c ∉ x → c ∉ y → x ++ c :: u = y ++ c :: v → x = y ∧ u = v
  | [], [], u, v, _, _, e => ⟨rfl, (List.cons.inj e).2⟩
  | [], b :: y, u, v, _, hy, e => absurd (List.cons.inj e).1 fun z => hy (by rw [z]; exact List.mem_cons_self ..)
  | a :: x, [], u, v, hx, _, e => absurd (List.cons.inj e).1 fun z => hx (by rw [z]; exact List.mem_cons_self ..)
  | a :: x, b :: y, u, v, hx, hy, e => by
    obtain ⟨e1, e2⟩ := List.cons.inj e
    obtain ⟨q1, q2⟩ := glue_inj x y u v (fun m => hx (List.mem_cons_of_mem _ m)) (fun m => hy (List.mem_cons_of_mem _ m)) e2
    exact ⟨by rw [e1, q1], q2⟩
theorem jc_inj {c : Nat} : ∀ (l m : List (List Nat)), l ≠ [] → m ≠ [] → (∀ x ∈ l, c ∉ x) → (∀ x ∈ m, c ∉ x) → jc c l = jc c m → l = m
  | [], _, h, _, _, _, _ => absurd rfl h
  | _ :: _, [], _, h, _, _, _ => absurd rfl h
  | [x], [y], _, _, _, _, e => by rw [show x = y from e]
  | [x], y :: y2 :: m, _, _, hx, _, e => by
    have e : x = y ++ c :: jc c (y2 :: m) := e
    exact absurd (show c ∈ x by rw [e]; simp) (hx x (List.mem_cons_self ..))
  | x :: x2 :: l, [y], _, _, _, hy, e => by
    have e : x ++ c :: jc c (x2 :: l) = y := e
    exact absurd (show c ∈ y by rw [← e]; simp) (hy y (List.mem_cons_self ..))
  | x :: x2 :: l, y :: y2 :: m, _, _, hx, hy, e => by
    obtain ⟨q1, q2⟩ := glue_inj x y _ _ (hx x (List.mem_cons_self ..)) (hy y (List.mem_cons_self ..)) (show x ++ c :: jc c (x2 :: l) = y ++ c :: jc c (y2 :: m) from e)
    rw [q1, jc_inj (x2 :: l) (y2 :: m) (fun z => nomatch z) (fun z => nomatch z) (fun z mz => hx z (List.mem_cons_of_mem _ mz)) (fun z mz => hy z (List.mem_cons_of_mem _ mz)) q2]
def sg (c : Nat) : Str := { cps := #[c] }
theorem join_jc (c : Nat) : ∀ l : List Str, (Str.join (sg c) l).cps.toList = jc c (l.map fun x => x.cps.toList) := by
  intro l
  induction l with
  | nil => rfl
  | cons x l ih =>
    cases l with
    | nil => rfl
    | cons y l =>
      show ((x ++ sg c ++ Str.join (sg c) (y :: l)) : Str).cps.toList = x.cps.toList ++ c :: jc c ((y :: l).map fun x => x.cps.toList)
      rw [← ih]
      show (x.cps ++ (sg c).cps ++ (Str.join (sg c) (y :: l)).cps).toList = _
      rw [Array.toList_append, Array.toList_append, List.append_assoc]
      rfl
theorem map_cps_inj : ∀ {l m : List Str}, (l.map fun x => x.cps.toList) = (m.map fun x => x.cps.toList) → l = m
  | [], [], _ => rfl
  | [], _ :: _, h => nomatch h
  | _ :: _, [], h => nomatch h
  | x :: l, y :: m, h => by
    rw [List.map_cons, List.map_cons] at h
    obtain ⟨h1, h2⟩ := List.cons.inj h
    rw [str_cps h1, map_cps_inj h2]
theorem split_ne (x y : Str) : Txt.split x y ≠ [] := by
  unfold Txt.split
  split
  · exact fun z => nomatch z
  · split
    · exact fun z => nomatch z
    · unfold Builtin.Str.partsBetween
      intro z
      have z := congrArg List.length z
      simp at z
theorem same_self (x : Str) : Spec.same (.str x) (.str x) = true := by
  simp [Spec.same]
theorem count_pos {c : Nat} : ∀ {l : List Nat}, c ∈ l → 1 ≤ Spec.countIn (.str (sg c)) (l.map fun n => PyData.str { cps := #[n] })
  | n :: l, m => by
    have nn : ∀ l : List PyData, 0 ≤ Spec.countIn (.str (sg c)) l := by
      intro l
      induction l with
      | nil => exact Int.le_refl _
      | cons y l ih =>
        show (0 : Int) ≤ (if Spec.same y (.str (sg c)) = true then 1 else 0) + Spec.countIn (.str (sg c)) l
        split <;> omega
    show (1 : Int) ≤ (if Spec.same (.str (sg n)) (.str (sg c)) = true then 1 else 0) + Spec.countIn (.str (sg c)) (l.map fun n => PyData.str { cps := #[n] })
    rcases List.mem_cons.mp m with rfl | m
    · rw [if_pos (same_self (sg _))]
      have := nn (l.map fun n => PyData.str { cps := #[n] })
      omega
    · have := count_pos m
      split <;> omega
/-- split finds the parts again -/
theorem split_join (c : Nat) {l : List Str} (ne : l ≠ []) (free : ∀ x ∈ l, c ∉ x.cps.toList) : Txt.split (Txt.join (sg c) l) (sg c) = l := by
  have h := split_closes (Txt.join (sg c) l) c
  rw [Bool.and_eq_true] at h
  obtain ⟨h1, h2⟩ := h
  have h1 : Str.join (sg c) (Txt.split (Txt.join (sg c) l) (sg c)) = Txt.join (sg c) l := by simpa [sg] using h1
  have e : Txt.join (sg c) l = Str.join (sg c) l := StrLaws.glued_eq_join _ _
  have h3 := congrArg (fun x : Str => x.cps.toList) h1
  have h3 : jc c ((Txt.split (Txt.join (sg c) l) (sg c)).map fun x => x.cps.toList) = jc c (l.map fun x => x.cps.toList) := by
    rw [← join_jc, ← join_jc, ← e]
    exact h3
  refine map_cps_inj (jc_inj _ _ (fun z => split_ne _ _ (List.map_eq_nil_iff.mp z)) (fun z => ne (List.map_eq_nil_iff.mp z)) (fun x mx => ?_) (fun x mx => ?_) h3)
  · obtain ⟨p, mp, rfl⟩ := List.mem_map.mp mx
    have := List.all_eq_true.mp h2 p mp
    intro z
    have q := count_pos z
    have q2 : Spec.countIn (.str (sg c)) (p.cps.toList.map fun n => PyData.str { cps := #[n] }) = 0 := by
      simpa [sg] using this
    omega
  · obtain ⟨p, mp, rfl⟩ := List.mem_map.mp mx
    exact free p mp
end DL

set_option Elab.async false
set_option linter.all false
set_option maxRecDepth 100000
set_option maxHeartbeats 4000000
namespace DL
open PySem L2 PySem.Spec PyProof.Rows XS
/-! ### a list that a call hands back is one's own -/
def flatO : HO → Bool
  | .lst (v :: vs) => (v :: vs).all flatV
  | _ => false
/-- the known lists of plain values, not empty -/
def plG (G : Hp) : Hp := fun a => match G a with
  | some o => if flatO o = true then some o else none
  | none => none
theorem plG_some {G : Hp} {a : Addr} {o : HO} (h : plG G a = some o) : G a = some o ∧ flatO o = true := by
  unfold plG at h
  split at h
  · rename_i u e
    split at h
    · rename_i f
      cases h
      exact ⟨e, f⟩
    · cases h
  · cases h
theorem plG_of {G : Hp} {a : Addr} {o : HO} (h : G a = some o) (f : flatO o = true) : plG G a = some o := by
  unfold plG
  rw [h]
  exact if_pos f
def argOk : D → Bool
  | .lst (d :: ds) => (d :: ds).all flatD
  | d => flatD d
theorem flats_rep {K : Fg} {G G' : Hp} : ∀ {vs : List V} {ds : List D}, RepL K G vs ds → ds.all flatD = true → RepL K G' vs ds
  | _, _, .nil, _ => .nil
  | _, _, .cons a r, h => by
    rw [List.all_cons, Bool.and_eq_true] at h
    exact .cons (flat_rep a h.1) (flats_rep r h.2)
theorem arg_rep {K : Fg} {G : Hp} {v : V} {d : D} (r : Rep K G v d) (h : argOk d = true) : Rep K (plG G) v d := by
  cases d with
  | lst l =>
    cases l with
    | nil => cases h
    | cons d ds =>
      have h : (d :: ds).all flatD = true := h
      obtain ⟨a, xs, rfl, g, r2⟩ := r.lst_of
      cases r2 with
      | cons r3 r4 =>
        rename_i w ws
        refine .lst (plG_of g ?_) (flats_rep (.cons r3 r4) h)
        exact flats_of (.cons r3 r4) h
  | _ => exact flat_rep r h
theorem args_rep {K : Fg} {G : Hp} : ∀ {vs : List V} {ds : List D}, RepL K G vs ds → ds.all argOk = true → RepL K (plG G) vs ds
  | _, _, .nil, _ => .nil
  | _, _, .cons a r, h => by
    rw [List.all_cons, Bool.and_eq_true] at h
    exact .cons (arg_rep a h.1) (args_rep r h.2)
def tupsB : List D → Bool
  | [] => true
  | .tup l :: r => noLs l && tupsB r
  | _ => false
theorem tups_no : ∀ {l : List D}, tupsB l = true → noLs l = true
  | [], _ => rfl
  | d :: r, h => by
    cases d with
    | tup l =>
      obtain ⟨h1, h2⟩ := Bool.and_eq_true_iff.mp (show (noLs l && tupsB r) = true from h)
      show (noLs l && noLs r) = true
      rw [h1, tups_no h2]
      rfl
    | _ => cases h
section
variable {X : Cx} {c : Ct} {W : WX} {e : Expr} {es : List Expr} {pos p : Pos} {x f : Str} {ma : ME} {ta : TE} {mr : MA} {tr : TA} {K : Fg} {k n : Nat} {ff : FF}
def moCallL (i : Nat) (ff : FF) (n : Nat) (mr : MA) : MA := fun δ F X => (match δ[i]? with
  | some .deal => True
  | _ => False) ∧ mr δ (fun ds => ds.length = n ∧ ds.all argOk = true ∧ ff ds (fun d => ∃ l, d = .lst l ∧ tupsB l = true ∧ F l) (fun _ => False)) X
theorem wo_callL {i : Nat} (w : WA K c W tr mr) : WO K c W (tCallSD (spD K n true ff) [] (fun σ cls d H => W cls d σ H) (tCons (tVar i) tr)) (moCallL i ff n mr) := fun H G σ δ F X Q cr rs h q x => by
  obtain ⟨hi, h⟩ := h
  split at hi
  · rename_i e
    obtain ⟨y, h1, p, l, h2, h3⟩ := rs.at_ _ _ e
    subst h3
    refine ⟨_, h1, w H G σ δ _ _ _ cr rs h (fun vs ds H1 G1 g r h1 => ?_) x⟩
    obtain ⟨hn, ha, hf⟩ := h1
    have dl0 : DlOk c.dl H1 (plG G1) := fun p' l' e' => by
      obtain ⟨d, g1, g2⟩ := g.deal p' l' e'
      have no : ∀ a, G1 a = none → plG G1 a = none := fun a z => by
        unfold plG
        rw [z]
      exact ⟨d, no _ g1, no _ g2⟩
    refine ⟨plG G1, ds, c.dl, vs, _, _, hn, ⟨p, l, h2, by rw [List.append_nil]⟩, fun a o z => g.sub _ _ (plG_some z).1, dl0, args_rep r ha, hf, fun v d H2 G2 g2 r2 f2 => ?_, fun _ _ _ _ _ _ _ z => z.elim⟩
    obtain ⟨l2, rfl, tups, f2⟩ := f2
    obtain ⟨a, xs, rfl, ga, rx⟩ := r2.lst_of
    have fresh : H1 a = none := by
      rcases g2.new _ _ ga with z | z
      · exfalso
        obtain ⟨_, z2⟩ := plG_some z
        cases rx with
        | nil => cases z2
        | @cons w ws d ds' r3 r4 =>
          have z2 : (w :: ws).all flatV = true := z2
          rw [List.all_cons, Bool.and_eq_true] at z2
          cases d with
          | tup l3 =>
            obtain ⟨b, ys, rfl, _⟩ := r3.tup_of
            exact absurd z2.1 Bool.false_ne_true
          | _ => cases tups
      · exact z
    have nd1 : ∀ {b : Addr} {o : HO}, G1 b = some o → NotDl c.dl b := fun {b o} z p' l' e' => by
      obtain ⟨_, g1, g2⟩ := g.deal p' l' e'
      exact ⟨fun y => (by rw [y, g1] at z; cases z), fun y => (by rw [y, g2] at z; cases z)⟩
    have ne1 : ∀ {b : Addr} {o : HO}, G1 b = some o → b ≠ a := fun {b o} z y => by
      have := g.sub _ _ z
      rw [y, fresh] at this
      cases this
    have s1 : ∀ {b : Addr} {o : HO}, G1 b = some o → H2 b = some o := fun {b o} z => g2.keep _ _ (g.sub _ _ z) (nd1 z)
    let G3 : Hp := fun b => if b = a then none else match G1 b with
      | some o => some o
      | none => G2 b
    have at3 : ∀ {b : Addr} {o : HO}, G3 b = some o → b ≠ a ∧ (G1 b = some o ∨ (G1 b = none ∧ G2 b = some o)) := fun {b o} z => by
      by_cases eb : b = a
      · have z : (if b = a then none else _) = some o := z
        rw [if_pos eb] at z
        cases z
      · refine ⟨eb, ?_⟩
        have z : (if b = a then none else (match G1 b with
          | some o => some o
          | none => G2 b)) = some o := z
        rw [if_neg eb] at z
        cases e1 : G1 b with
        | some u => rw [e1] at z; exact .inl z
        | none => rw [e1] at z; exact .inr ⟨rfl, z⟩
    have from1 : ∀ {b : Addr} {o : HO}, G1 b = some o → G3 b = some o := fun {b o} z => by
      show (if b = a then none else (match G1 b with
          | some o => some o
          | none => G2 b)) = some o
      rw [if_neg (ne1 z), z]
    have from2 : ∀ {b : Addr} {o : HO}, G2 b = some o → b ≠ a → G3 b = some o := fun {b o} z nb => by
      show (if b = a then none else (match G1 b with
          | some o => some o
          | none => G2 b)) = some o
      rw [if_neg nb]
      cases e1 : G1 b with
      | none => exact z
      | some u =>
        have q1 := s1 e1
        have q2 := g2.sub _ _ z
        rw [q1] at q2
        exact q2
    have none3 : ∀ {b : Addr}, G1 b = none → G2 b = none → G3 b = none := fun {b} z1 z2 => by
      cases z : G3 b with
      | none => rfl
      | some o =>
        rcases (at3 z).2 with y | ⟨_, y⟩
        · rw [z1] at y; cases y
        · rw [z2] at y; cases y
    have g3 : Go c.dl H1 G1 H2 G3 := {
      keep := g2.keep
      grow := fun b o z => from1 z
      sub := fun b o z => by
        rcases (at3 z).2 with y | ⟨_, y⟩
        · exact s1 y
        · exact g2.sub _ _ y
      new := fun b o z => by
        rcases (at3 z).2 with y | ⟨y1, y⟩
        · exact .inl y
        · rcases g2.new _ _ y with u | u
          · rw [(plG_some u).1] at y1
            cases y1
          · exact .inr u
      deal := fun p' l' e' => by
        obtain ⟨d, u1, u2⟩ := g2.deal p' l' e'
        obtain ⟨_, v1, v2⟩ := g.deal p' l' e'
        exact ⟨d, none3 v1 u1, none3 v2 u2⟩ }
    have no3 : G3 a = none := if_pos rfl
    have rl : RepL K G3 xs l2 := (repL_del ga rx (tups_no tups)).mono fun b o z => from2 (delP_some z).2 (delP_some z).1
    exact q a xs l2 H2 G3 (g.trans g3) (g2.sub _ _ ga) no3 (g.back cr.dlok fresh) rl f2
  · exact hi.elim
theorem oe_fL (i : Nat) {z : Str} {zp : Pos} (C : Fn X.prog X.w X.K X.mg X.base x k n true ff) (hr : Room k X.A) (hg : Gl X x) (tk : Takes X W)
    (hz : PE X (.Name z zp) (tVar i)) (ha : DA X c W es tr mr) (hdb : (x == ("__debug__" : Str)) = false := by decide) (he : starEach (.Name z zp :: es) X.env = (false, eval (.Name z zp) X.env) :: starEach es X.env := by rfl) (hpl : (backTo pos (starEach es X.env)).any (·.1) = false := by rfl) :
    OE X c W (.Call (.Name x p) (.Name z zp :: es) [] pos) (tCallSD (spD X.K n true ff) [] (fun σ cls d H => W cls d σ H) (tCons (tVar i) tr)) (moCallL i ff n mr) := by
  obtain ⟨f, fd, ps, F, hm, hk, hb⟩ := C.ok
  exact ⟨pe_callSD F hr hg hm hk hb .nil (passAt tk) (pa_cons hz ha.p he) hdb he hpl, wo_callL ha.w⟩
end
end DL

set_option Elab.async false
set_option linter.all false
set_option maxRecDepth 100000
set_option maxHeartbeats 4000000
namespace DL
open PySem L2 PySem.Spec PyProof.Rows
/-! ### a law whose own def asks for repr: no code is running that repr could meet again -/
structure FnOkG (P : Program) (w : World) (K : Fg) (mg : Str → Option Value) (base : Heap) (CX : CXT) (k : Nat) (f : Addr) (fd : FuncData) (ps : List Str) (sp : Sp) : Prop where
  len : ∀ (vs : List V) (H : Hp) (Q : VK) (E : XK), sp vs H Q E → vs.length = ps.length
  run : ∀ (A : Around) (outer : List Env) (s : Shared) (H : Hp) (args : Args) (us : List Value) (vs : List V) (Q : VK) (E : XK), A.guards = some [] → Room k A → Env0 P w K mg base A outer s H →
    BindsTo s fd args (ps.zip us) → Vals vs us → sp vs H Q E → codeAny (model P w) A (Code.call (Value.ref f) args) (CR CX outer P w H s Q E) s
section
variable {P : Program} {w : World} {K : Fg} {mg : Str → Option Value} {base : Heap} {x qual : Str} {params : Arguments} {body : List Stmt} {scope : Scope} {dvs : List V} {kws : List (Str × V)} {f : Addr} {fd : FuncData} {N ps : List Str} {k : Nat} {CX : CXT} {sp : Sp}
theorem FunD.okG (F : FunD K x qual params body scope dvs kws f fd) (S : FnScope N ps scope) (len : ∀ (vs : List V) (H : Hp) (Q : VK) (E : XK), sp vs H Q E → vs.length = ps.length)
    (hbody : ∀ (cdv : Value) (A : Around) (outer : List Env) (s : Shared) (H : Hp) (vs : List V) (Q : VK) (E : XK), A.guards = some [] → Room k (A.deeper (envOfC qual scope s.heap.objs.size f cdv)) → sp vs H Q E →
      ∃ t, PSs (cxOf CX P w K mg base N qual scope f cdv A outer s H E) body t ∧ t { nx := fun x H' => Q V.non H', rt := Q } (L2.start N vs) H) : FnOkG P w K mg base CX (k + 1) f fd ps sp := by
  obtain ⟨oc, od, dV, kV, doc, pm, an, cdv, ct, osl, rfl, lk, hcd, _, _⟩ := F.ex
  refine ⟨len, fun A outer s H args us vs Q E hgd hr e0 hb r hsp => ?_⟩
  have hl := len vs H Q E hsp
  have KX := W.Frag.In.keeps e0.mod.kin fun b o e => (e0.bs b o e).left
  have lim := Heap.NoLimit.keeps e0.mod.nolimit fun b o e => (e0.bs b o e).left
  have hkind : ∀ y ∈ ps.zip us, List.lookup y.1 scope.names = some NameKind.local ∨ (List.lookup y.1 scope.names = some NameKind.cell ∧ (List.lookup y.1 (cellsFrom (s.heap.objs.size + 1) scope.names [])).isSome = true) := by
    intro y hy
    obtain ⟨n, v⟩ := y
    rcases S.par n (List.of_mem_zip hy).1 with q | q
    · exact .inl q
    · exact .inr ⟨q, W.cellsFrom_some scope.names (s.heap.objs.size + 1) [] (.inl q)⟩
  refine codeAny_call_function (Room.depth hr) (KX _ _ lk) rfl S.co S.gen rfl (W.codeRec_of KX hcd) (hb (model P w) A.in1 _ _ ?_)
  refine wpAny_newFunctionEnv_cells S.kind hkind fun env he s1 z => ?_
  subst he
  refine ⟨Heap.NoLimit.keeps lim z.toInCall.keep, codeAny_func ?_⟩
  obtain ⟨t, ht, hq⟩ := hbody cdv A outer s H vs Q E hgd (Room.deeper hr (envOfC qual scope s.heap.objs.size f cdv)) hsp
  have I := inv_start (CX := CX) (E := E) S hr.hd e0 hl r z
  refine wpAny_mono (ht.run [] s1 (L2.start N vs) H { nx := fun x H' => Q V.non H', rt := Q } I hq) (fun fl s' hs => ?_) (fun e s' hs => hs)
  cases fl with
  | next =>
    obtain ⟨σ', H', J, q⟩ := hs
    exact ⟨V.non, H', J.os, J.bare, J.base, J.hok, rfl, q⟩
  | brk =>
    obtain ⟨_, _, _, q⟩ := hs
    exact q.elim
  | cont =>
    obtain ⟨_, _, _, q⟩ := hs
    exact q.elim
  | ret u =>
    obtain ⟨v, σ', H', J, rv, q⟩ := hs
    exact ⟨v, H', J.os, J.bare, J.base, J.hok, rv, q⟩
end
theorem law_callG {P : Program} {w : World} {K : Fg} {mg mb : Str → Option Value} {CX : CXT} {k : Nat} {fa a : Addr} {fd : FuncData} {x : Str} {sp : Sp} {s1 : Shared} {vs : List Value} {ns : List Int}
    (KX : K.In s1.heap) (hns : s1.heap.Ns mainGlobals mg) (hb : s1.heap.Ns builtinsNs mb) (hbb : ∀ y : Str, y ≠ Str.ofString "__name__" → mb y = bootBuiltins y) (hlim : s1.heap.NoLimit) (hg : s1.gens = #[])
    (ha : s1.heap.get? a = some { cls := Value.type "list", data := Data.seq vs.toArray }) (hi : IntsAre vs ns) (hl : ns.length ≤ sizeLine) (hr : Room k callerA)
    (F : ∀ base : Heap, K.In base → base.Ns mainGlobals mg → FnOkG P w K mg base CX k fa fd [x] sp) (hbind : ∀ (s : Shared) (u : Value), BindsTo s fd { pos := [u] } [(x, u)])
    (hsp : ∀ H : Hp, Only H → SqL K H a (ns.map V.int) → sp [V.ref a] H (fun v _ => v = V.bl true) fun _ _ _ => False)
    (hCX : ∀ (H : Hp) (e : Value) (s' : Shared), CX [] H s1 (fun _ _ _ => False) e s' → False) :
    codeAny (model P w) callerA (Code.call (Value.ref fa) { pos := [Value.ref a] }) (fun r s' => r = Except.ok (Flow.ret (Value.bool true)) ∧ OldK s1.heap s'.heap ∧ s'.os = s1.os ∧ AllBare s'.gens) s1 := by
  have rv := vals_ints hi
  have lenV := IntsAre.length hi
  have core : ∀ H : Hp, Only H → SqL K H a (ns.map V.int) → HOk P w H s1.heap → (∀ b, H b ≠ none → b = a) → (H a ≠ none → List.lookup a K = none) →
      codeAny (model P w) callerA (Code.call (Value.ref fa) { pos := [Value.ref a] }) (fun r s' => r = Except.ok (Flow.ret (Value.bool true)) ∧ OldK s1.heap s'.heap ∧ s'.os = s1.os ∧ AllBare s'.gens) s1 := by
    intro H hO hS hok hA hK
    have noA : ∀ {b : Addr} {o : Obj} {es : Array DictEntry} {ep : Nat}, s1.heap.get? b = some o → o.data = Data.dict es ep → H b = none := by
      intro b o es ep e d
      cases q : H b with
      | none => rfl
      | some u =>
        have e' := hA b (by rw [q]; simp)
        subst e'
        rw [ha] at e
        cases e
        cases d
    have nsK : ∀ {b : Addr} {m : Str → Option Value}, s1.heap.Ns b m → (hidT s1.heap H).Ns b m := by
      intro b m z
      obtain ⟨o, es, ep, e, d, r⟩ := z
      exact ⟨o, es, ep, hidT_get e (noA e d), d, r⟩
    have hKb : K.In (hidT s1.heap H) := by
      intro b o e
      refine hidT_get (KX b o e) ?_
      cases q : H b with
      | none => rfl
      | some u =>
        have e' := hA b (by rw [q]; simp)
        subst e'
        rw [hK (by rw [q]; simp)] at e
        cases e
    have e0 : Env0 P w K mg (hidT s1.heap H) callerA [] s1 H := {
      frames := rfl
      mod := { kin := hKb, glob := nsK hns, blt := ⟨mb, nsK hb, hbb⟩, nolimit := by obtain ⟨mc, h1, h2⟩ := hlim; exact ⟨mc, nsK h1, h2⟩ }
      bs := fun b o e => of_hidT e
      bsz := Nat.le_of_eq (hidT_size s1.heap H)
      funs := trivial
      frf := fun b hb => by cases hb
      hok := hok
      bare := AllBare.of_eq hg }
    refine codeAny_mono ((F (hidT s1.heap H) hKb (nsK hns)).run callerA [] s1 H { pos := [Value.ref a] } [Value.ref a] [V.ref a] (fun v x => v = V.bl true) (fun _ _ _ => False) rfl hr e0 (hbind s1 (Value.ref a)) (Paired.cons rfl Paired.nil) (hsp H hO hS)) fun r s' h => ?_
    match r, h with
    | .error e, h => exact (hCX H e s' h).elim
    | .ok .next, h => exact h.elim
    | .ok .brk, h => exact h.elim
    | .ok .cont, h => exact h.elim
    | .ok (.ret u), h =>
      obtain ⟨v, H', os, bare, un, hok', r', q⟩ := h
      have q : v = V.bl true := q
      subst q
      have r' : u = Value.bool true := r'
      subst r'
      refine ⟨rfl, OldK.of_keep fun b o e => ?_, os, bare⟩
      cases q : H b with
      | none => exact un.keep b o e q (by intro z; cases z) (by intro z; cases z)
      | some u =>
        rcases hO b with z | ⟨ob, xs, z⟩
        · rw [q] at z
          cases z
        · have z1 := hok b _ z
          have z2 := hok' b _ (un.frzs b _ _ z)
          have y1 : s1.heap.get? b = some ob := z1.1
          have y2 : s'.heap.get? b = some ob := z2.1
          rw [y1] at e
          cases e
          exact y2
  cases hk : List.lookup a K with
  | none =>
    refine core (fun b => if b = a then some (HO.frz { cls := Value.type "list", data := Data.seq vs.toArray } (HO.lst (ns.map V.int))) else none) (fun b => ?_) (.inl (.inr ⟨_, if_pos rfl⟩)) (fun b u z => ?_) (fun b z => ?_) (fun _ => hk)
    · by_cases h : b = a
      · exact .inr ⟨_, _, if_pos h⟩
      · exact .inl (if_neg h)
    · have z : (if b = a then some (HO.frz { cls := Value.type "list", data := Data.seq vs.toArray } (HO.lst (ns.map V.int))) else none) = some u := z
      by_cases h : b = a
      · rw [if_pos h] at z
        cases z
        subst h
        exact ⟨ha, by rw [List.length_map]; exact hl, vs, 0, rv, ha⟩
      · rw [if_neg h] at z
        cases z
    · by_cases h : b = a
      · exact h
      · exact absurd (if_neg h) z
  | some o =>
    have e := KX a o hk
    rw [ha] at e
    cases e
    exact core (fun _ => none) (fun _ => .inl rfl) (.inr ⟨_, vs.toArray, 0, hk, rfl, rfl, rfl, (by rw [List.size_toArray, lenV]; exact hl), rv⟩) (fun b u z => by cases z) (fun b z => absurd rfl z) (fun z => absurd rfl z)
section
variable {P : Program} {w : World} {K : Fg} {mg : Str → Option Value} {base : Heap} {x qual : Str} {params : Arguments} {body : List Stmt} {scope : Scope} {dvs : List V} {kws : List (Str × V)} {f : Addr} {fd : FuncData} {N : List Str} {x0 : Str} {k : Nat}
theorem fn_lawG (F : FunD K x qual params body scope dvs kws f fd) (S : FnScope N [x0] scope) (hN : 2 ≤ N.length)
    (hb : ∀ (cdv : Value) (A : Around) (outer : List Env) (s : Shared) (H : Hp) (E : XK), A.guards = some [] → Room k (A.deeper (PyProof.Rows.envOfC qual scope s.heap.objs.size f cdv)) → ∃ t1 t2 m1 m2, (∀ c, DSw (cxOf (L2.CX P w) P w K mg base N qual scope f cdv A outer s H E) c (WF E) body t1 t2 m1 m2) ∧
      (∀ ns : List Int, ns.length ≤ 63 → m1 (start0 false [.scr (ns.map D.int)] (N.length - 1)) { nx := dealt N.length, rt := fun _ => False }) ∧
      m2 (.un :: .deal :: List.replicate (N.length - 2) .un) { nx := fun _ => False, rt := fun d => d = .bl true }) : FnOkG P w K mg base (L2.CX P w) (k + 1) f fd [x0] (spLawD K) := by
  refine FunD.okG F S (fun vs H Q E h => ?_) (fun cdv A outer s H vs Q E hgd hr h => ?_)
  · obtain ⟨a, ns, rfl, _⟩ := h
    rfl
  obtain ⟨a, ns, rfl, hl, hS, hq⟩ := h
  obtain ⟨t1, t2, m1, m2, hd, hm1, hm2⟩ := hb cdv A outer s H E hgd hr
  have d0 := hd ⟨none, none, H, H⟩
  refine ⟨_, d0.p, ?_⟩
  have cr : Cr ⟨none, none, H, H⟩ H H := ⟨fun _ _ q _ _ => q, Same.refl _, Same.refl _, fun _ _ q => .inl q, .no, (fun _ _ e => nomatch e), fun _ e => nomatch e⟩
  have rs := rs_start (N := N) (wd := false) (dl := none) (n := 1) (ds := [D.scr (ns.map D.int)]) (vs := [V.ref a]) (vs' := [V.ref a]) (K := K) (H := H) (G := H) rfl ⟨rfl, rfl⟩ (.cons (.scr hS (reps_ints ns)) .nil) (by show 1 ≤ N.length; omega)
  refine d0.w1 H H _ _ _ _ cr rs (hm1 ns hl) ⟨fun σ δ H' G' a1 b1 z q => ?_, fun _ _ _ _ _ _ _ q => q.elim, fun _ _ _ _ _ _ _ q => q.elim, fun _ _ _ _ _ _ _ q => q.elim, fun _ _ _ _ _ _ _ _ _ _ _ q => q.elim⟩
  obtain ⟨hlen, ms, m, l1, l2, l3, l4, e1⟩ := q
  obtain ⟨v, q1, v', q2, q3⟩ := b1.at_ _ _ e1
  subst q2
  obtain ⟨p, xs, rfl, g1, r1⟩ := q3.lst_of
  obtain ⟨v1, v2, rfl, r2, r3⟩ := r1.two
  obtain ⟨l, ys, rfl, g2, r4⟩ := r2.lst_of
  have e3 := r3.int_of
  subst e3
  have e4 := ints_reps r4
  subst e4
  have hD : DealAt H' p l := ⟨ms, m, a1.sub _ _ g1, a1.sub _ _ g2, l1, l3, l4, l2⟩
  have hp : H' p ≠ none := fun z => (by rw [a1.sub _ _ g1] at z; cases z)
  have hl' : H' l ≠ none := fun z => (by rw [a1.sub _ _ g2] at z; cases z)
  have cr1 : Cr ⟨some (p, l), none, H', fun _ => none⟩ H' (fun _ => none) :=
    ⟨fun _ _ q _ _ => q, Same.refl _, (fun _ _ q => nomatch q), (fun _ _ q => nomatch q), fun p' l' e => (by cases e; exact ⟨hD, rfl, rfl⟩), fun p' l' e => (by cases e; exact ⟨hp, hl'⟩), fun _ e => nomatch e⟩
  have ls : σ.length = N.length := by rw [b1.len]; exact hlen
  have at0 : ∀ i : Nat, i < N.length → (Sl.un :: Sl.deal :: List.replicate (N.length - 2) Sl.un)[i]? = some (if i = 1 then .deal else .un) := fun i hi => by
    match i with
    | 0 => rfl
    | 1 => rfl
    | i + 2 =>
      show (List.replicate (N.length - 2) Sl.un)[i]? = _
      rw [List.getElem?_replicate, if_pos (by omega), if_neg (by omega)]
  have len0 : (Sl.un :: Sl.deal :: List.replicate (N.length - 2) Sl.un).length = N.length := by
    rw [List.length_cons, List.length_cons, List.length_replicate]
    omega
  have rs1 : RS K ⟨some (p, l), none, H', fun _ => none⟩ H' (fun _ => none) σ (Sl.un :: Sl.deal :: List.replicate (N.length - 2) Sl.un) := by
    refine ⟨ls.trans len0.symm, fun i t e => ?_, fun i j q ds es n h1 h2 h3 => ?_⟩
    · have hi : i < N.length := by
        have := (List.getElem?_eq_some_iff.mp e).1
        rwa [len0] at this
      rw [at0 i hi] at e
      by_cases h1 : i = 1
      · subst h1
        rw [if_pos rfl] at e
        cases e
        exact ⟨_, q1, p, l, rfl, rfl⟩
      · rw [if_neg h1] at e
        cases e
        exact ⟨_, List.getElem?_eq_getElem (by rw [ls]; exact hi), trivial⟩
    · have hi : i < N.length := by
        have := (List.getElem?_eq_some_iff.mp h1).1
        rwa [len0] at this
      rw [at0 i hi] at h1
      split at h1 <;> cases h1
  exact d0.w2 _ H' _ σ _ _ _ cr1 rs1 hm2 ⟨fun _ _ _ _ _ _ _ q => q.elim, fun v d H2 G2 a2 b2 z q => by
      have q : d = .bl true := q
      subst q
      rw [b2.bl_of]
      exact hq H2, fun _ _ _ _ _ _ _ q => q.elim, fun _ _ _ _ _ _ _ q => q.elim, fun _ _ _ _ _ _ _ _ _ _ _ q => q.elim⟩
end
theorem walk_cxG {lw : PySem.W.OpenLaw} {m k : Nat} {q : Program} {lo : List Str} {XP : (Str → Option Value) → Heap → Prop} {YP : World → Heap → Prop} {d : DefRec} {x : Str} (hm : lw.most = some m) (h2 : m ≤ sizeLine) (h3 : d.params.defaults = []) (h4 : Room k callerA)
    (F : ∀ (w : World) (mg : Str → Option Value) (fa : Addr) (h : Heap), YP w h → h.Ns mainGlobals mg → mg d.name = some (.ref fa) → ∃ (K : Fg) (fd : FuncData) (sp : Sp), K.In h ∧ (∀ (s : Shared) (u : Value), BindsTo s fd ⟨[u], []⟩ [(x, u)]) ∧
        (∀ (H : Hp) (a : Addr) (ns : List Int), ns.length ≤ m → SqL K H a (ns.map V.int) → sp [.ref a] H (fun v _ => v = .bl true) fun _ _ _ => False) ∧ ∀ base : Heap, FnOkG lw.prog w K mg base (L2.CX lw.prog w) k fa fd [x] sp) : PySem.W.WalkO q lo XP YP lw.row.toRowW d [] (fun f vs => PySem.call f vs) := by
  refine Att.attach_call hm h3 fun w s0 s1 mg mb fa o pm cd doc a vs ns g y ho hd hcd hmg hobj hints hlen hg => ?_
  obtain ⟨K, fd, sp, KX, hb, hsp, hF⟩ := F w mg fa _ y g.T.g hmg
  refine law_callG KX g.T.g g.T.b g.T.builtins g.T.nolimit hg hobj hints (Nat.le_trans hlen h2) h4 (fun base _ _ => hF base) hb (fun H _ hS => hsp H a ns hlen hS) fun H e s' z => ?_
  obtain ⟨_, _, _, _, _, _, _, _, _, _, _, _, z⟩ := z
  exact z

/-! ### repr of data -/
theorem Inv.kept {X : Cx} {pins : List (Addr × Obj)} {σ : L2.St} {H : Hp} {s : Shared} {h' : Heap} {t : Nat} (I : L2.Inv X pins σ H s) (k : ∀ (b : Addr) (o : Obj), s.heap.get? b = some o → h'.get? b = some o) :
    L2.Inv X pins σ H { heap := h', gens := s.gens, drawn := s.drawn, toks := t, os := s.os } :=
  I.step (ch := []) (fun b h => by cases h) (fun b o _ _ _ e _ => k b o e) (fun b o _ _ _ e _ => ⟨o.slots, k b o e⟩) (fun b o _ _ e => e) (fun b o _ e => ⟨o, k b o e⟩) (fun b xs e => e) (fun b o u e => e) (fun b ps e => ⟨#[], by rw [Array.append_empty]; exact e⟩)
    (fun m n => Heap.Ns.keeps n k) (HOk.kept I.hok k) I.bare
def rRepr (X : Cx) : List V → Hp → VK → Prop := fun xs H Q => ∃ (x : V) (p : PyData), xs = [x] ∧ Dp X.K H x p ∧ p.showable = true ∧ p.hasDict = false ∧ p.depth ≤ 20 ∧ p.shown.length ≤ sizeLine ∧ Q (.str p.shown) H
theorem call_reprD {X : Cx} (hg : X.A.guards = some []) (hu : X.A.units + 64 < cLine) : CallR X (.builtin "repr") (rRepr X) := by
  intro pins s σ H xs us Q I ru h
  obtain ⟨x, p, rfl, hd, hs, hn, hp, hz, q⟩ := h
  cases ru with
  | cons r rr =>
    cases rr
    have K1 : ∀ (t t' : Nat), L2.Inv X pins σ H { heap := s.heap, gens := s.gens, drawn := s.drawn, toks := t, os := s.os } := fun t _ => Inv.kept I fun _ _ e => e
    cases hd with
    | non =>
      cases r
      exact PySem.P.repr_of_none ⟨V.str (PyData.shown PyData.none), H, K1 _ 0, ⟨_, rfl⟩, q⟩
    | bl b =>
      cases r
      exact PySem.P.repr_of_bool ⟨V.str (PyData.shown (PyData.bool b)), H, K1 _ 0, ⟨_, rfl⟩, q⟩
    | int i =>
      obtain ⟨t, rfl⟩ := r
      exact PySem.P.repr_of_int (of_decide_eq_true hs) ⟨V.str (PyData.shown (PyData.int i)), H, K1 _ 0, ⟨_, rfl⟩, q⟩
    | str z =>
      obtain ⟨t, rfl⟩ := r
      exact PySem.P.repr_of_str ⟨V.str (PyData.shown (PyData.str z)), H, K1 _ 0, ⟨_, rfl⟩, q⟩ hz
    | lst a b =>
      obtain ⟨as, rd⟩ := Dp.reads I _ _ _ (.lst a b) r
      cases r
      exact repr_of_reads' rd hs (PyData.noDict_hsm hn) hg (by omega) (fun _ _ e => e) (fun h' u tk hk => ⟨V.str (PyData.shown (PyData.list _)), H, Inv.kept I hk, ⟨_, rfl⟩, q⟩) hz
    | tup a b =>
      obtain ⟨as, rd⟩ := Dp.reads I _ _ _ (.tup a b) r
      cases r
      exact repr_of_reads' rd hs (PyData.noDict_hsm hn) hg (by omega) (fun _ _ e => e) (fun h' u tk hk => ⟨V.str (PyData.shown (PyData.tuple _)), H, Inv.kept I hk, ⟨_, rfl⟩, q⟩) hz
def gRepr (ds : List D) (F : D → Prop) : Prop := match ds with
  | [d] => plain 20 d = true ∧ (toPy d).showable = true ∧ (toPy d).shown.length ≤ sizeLine ∧ F (.str (toPy d).shown)
  | _ => False
theorem noDict_of : ∀ (n : Nat) (d : D), plain n d = true → (toPy d).hasDict = false
  | n, .non, _ => rfl
  | n, .bl _, _ => rfl
  | n, .int _, _ => rfl
  | n, .str x, p => rfl
  | 0, .lst _, p => by cases p
  | 0, .tup _, p => by cases p
  | n + 1, .lst xs, p => by
    have all : ∀ ds : List D, ds.all (plain n) = true → PyData.hasDictAll (toPys ds) = false := by
      intro ds
      induction ds with
      | nil => intro _; rfl
      | cons d ds ih =>
        intro q
        rw [List.all_cons, Bool.and_eq_true] at q
        show ((toPy d).hasDict || PyData.hasDictAll (toPys ds)) = false
        rw [noDict_of n d q.1, ih q.2]
        rfl
    exact all xs p
  | n + 1, .tup xs, p => by
    have all : ∀ ds : List D, ds.all (plain n) = true → PyData.hasDictAll (toPys ds) = false := by
      intro ds
      induction ds with
      | nil => intro _; rfl
      | cons d ds ih =>
        intro q
        rw [List.all_cons, Bool.and_eq_true] at q
        show ((toPy d).hasDict || PyData.hasDictAll (toPys ds)) = false
        rw [noDict_of n d q.1, ih q.2]
        rfl
    exact all xs p
  | n, .obj _ _, p => by cases n <;> cases p
  | n, .fx _, p => by cases n <;> cases p
  | n, .scr _, p => by cases n <;> cases p
  | n, .ext _ _, p => by cases n <;> cases p
theorem cd_repr {X : Cx} : CD X.K (rRepr X) gRepr := fun H G vs ds F Q s r h q => by
  unfold gRepr at h
  split at h
  · rename_i d
    obtain ⟨h1, h2, h3, h4⟩ := h
    cases r with
    | cons a r =>
      cases r
      exact ⟨_, _, rfl, dp_of s 20 a h1, h2, noDict_of 20 d h1, (lay_of 20 d h1).2, h3, q _ _ H G (Go.refl s .no) (.str _) h4⟩
  · exact h.elim
end DL

set_option Elab.async false
set_option linter.all false
set_option maxRecDepth 100000
set_option maxHeartbeats 4000000
namespace DL
open PySem L2 PySem.Spec PyProof.Rows
/-! ### raise C(), C an own class without __init__ -/
theorem pmk_own0 {X : Cx} {C : Addr} {bmB : List Value} {B newId initId : String} {x : Str} {p pos : Pos} (F : ExcBaseFacts B newId initId bmB) (q : PySem.W.excIn X.K C bmB newId = true) (gC : X.mg x = some (.ref C)) (kC : PySem.W.keepIn X.K (.ref C) = true) (r : Raises X (.ref C)) (hg : Gl X x)
    (hdb : (x == ("__debug__" : Str)) = false := by decide) : PMk X (.Call (.Name x p) [] [] pos) fun _ H Q => Q (.ref C) none H := by
  intro pins s σ H Q I h
  refine wpAny_Call_Name_kw (ld_glob I hg gC ?_ hdb)
  refine PySem.W.callWith_K0 I.kIn kC ?_
  obtain ⟨bm, N, nm, qn, bs, hdct, sn, sub, ab, col, dd, k0, k1, k2, k3, k5, mN, hC, hN, hni, T⟩ := exc_obj I.kIn q
  exact wpAny_call_exc_subT F T hC hN hni (fun h' e hm => mk_of I hm r h (HOk.gone I.hok hm.new)) (Nat.zero_le _)
structure Own0 (K : Fg) (C : Addr) : Prop where
  ex : PySem.W.excIn K C [.type "ValueError", .type "Exception", .type "BaseException", .type "object"] "ValueError.__new__" = true
  sub : PySem.W.subIn K (.ref C) (.type "BaseException") = some true
  ty : PySem.W.typeIn K (.ref C) = some (.type "type")
  kp : PySem.W.keepIn K (.ref C) = true
def own0B (K : Fg) (C : Addr) : Bool := PySem.W.excIn K C [.type "ValueError", .type "Exception", .type "BaseException", .type "object"] "ValueError.__new__" && (decide (PySem.W.subIn K (.ref C) (.type "BaseException") = some true) && (decide (PySem.W.typeIn K (.ref C) = some (.type "type")) && PySem.W.keepIn K (.ref C)))
theorem own0B_ok {K : Fg} {C : Addr} (h : own0B K C = true) : Own0 K C := by
  obtain ⟨h1, h⟩ := b2 h
  obtain ⟨h2, h⟩ := b2 h
  obtain ⟨h3, h4⟩ := b2 h
  exact ⟨h1, of_decide_eq_true h2, of_decide_eq_true h3, h4⟩
def msRaise0 (C : Addr) : MS := fun δ k => k.rs (C, []) δ
theorem ds_raise0 {X : Cx} {c : Ct} {W : WX} {C : Addr} {x : Str} {p pos pos' : Pos} (hc : X.calm = true) (tk : Takes X W) (T : Own0 X.K C) (hg : Gl X x) (hm : X.mg x = some (.ref C)) (hdb : (x == ("__debug__" : Str)) = false := by decide) :
    DS X c W (.Raise (some (.Call (.Name x p) [] [] pos)) none pos') (fun _ σ H => W (.ref C) none σ H) (msRaise0 C) :=
  ⟨ps_raise hc tk (pmk_own0 PySem.F.excBase_ValueError T.ex hm T.kp (raises_own T.sub T.ty) hg hdb), fun H G σ δ k Y cr rs h en => en.rs C [] none σ δ H G cr rs (Same.refl _) (.inl ⟨rfl, rfl⟩) h⟩
/-! ### an expression that is never reached -/
theorem de_no {X : Cx} {c : Ct} {W : WX} {e : Expr} : DE X c W e (fun _ _ _ => False) (fun _ _ _ => False) := ⟨⟨fun _ _ _ _ _ _ h => h.elim⟩, fun _ _ _ _ _ _ _ _ _ h => h.elim⟩
/-! ### x < y and the others by own methods, which may raise -/
def isCmp : CmpOp → Bool
  | .Lt | .LtE | .Gt | .GtE => true
  | _ => false
def rCmpX (X : Cx) (k : Nat) (op : CmpOp) (E : XK) : R2 := fun x y H Q => ∃ (a C dx : Addr) (fs : List (Str × V)) (ff : FF) (G : Hp) (d : D), x = .ref a ∧ H a = some (.ins C dx fs) ∧ Same G H ∧ Rep X.K G y d ∧ knownD d = true ∧ PySem.W.notFirst X.K C (tyD d) = true ∧
  Own1 X.prog X.w X.K X.mg X.base C (cmpInfo op).2.1 k 2 ff ∧ spD X.K 2 false ff [x, y] H (fun v H' => (∃ b, v = .bl b) ∧ Q v H') E
def tCmpX (X : Cx) (k : Nat) (op : CmpOp) (E : L2.St → XK) (ta tb : TE) : TE := fun σ H Q => ta σ H fun x H1 => tb σ H1 fun y H2 => rCmpX X k op (E σ) x y H2 Q
theorem pe_cmpX {X : Cx} {k : Nat} {op : CmpOp} {E : L2.St → XK} {a b : Expr} {ta tb : TE} {pos : Pos} (hop : isCmp op = true) (hr : Room k X.A) (hx : ∀ σ, PassesAt (L2.CX X.prog X.w) X σ (E σ)) (ha : PE X a ta) (hb : PE X b tb) (hm : behindInMarks op b = false) : PE X (.Compare a [op] [b] pos) (tCmpX X k op E ta tb) := by
  refine pe_cmp ⟨fun pins s σ H Q I h => ?_⟩ hm
  refine wpAny_mono (ha.run pins s σ H _ I h) (fun v s1 q1 => ?_) fun _ _ z => z
  obtain ⟨x, H1, I1, rx, h1⟩ := q1
  refine wpAny_mono (hb.run pins s1 σ H1 _ I1 h1) (fun u s2 q2 => ?_) fun _ _ z => z
  obtain ⟨y, H2, I2, ry, h2⟩ := q2
  obtain ⟨a', C, dx, fs, ff, G, d, rfl, hA, sm, rd, hk, hn, ⟨f, fd, ps, hs, tf, hbd, FO⟩, h⟩ := h2
  cases (show v = Value.ref a' from rx)
  obtain ⟨mA, J, _⟩ := ins_get I2.hok hA
  obtain ⟨od, J, _⟩ := J.look
  obtain ⟨m, hF⟩ := I2.fr
  have e : compareOp op (.ref a') u = richCompare op (.ref a') u := by cases op <;> first | rfl | cases hop
  rw [e]
  refine PySem.W.cmp_K (op := op) (tb := tyD d) hr.units0 hF I2.ok.mod.kin J (lk_ty I2 sm rd ry hk) hn hs (typeIn_isFn tf) ?_
  refine wpAny_mono (run_fnSD (E := E) (dvs := []) (ds := []) (vs := [.ref a', y]) FO hr hbd .nil (hx σ) I2 (us := [.ref a', u]) (.cons rfl (.cons ry .nil)) h) (fun w s' hq => ?_) fun _ _ z => z
  obtain ⟨z, H', I', rz, ⟨b, rfl⟩, q⟩ := hq
  cases (show w = Value.bool b from rz)
  exact ⟨.bl b, H', I', rfl, q⟩
def mCmpX (K : Fg) (good : Addr → Prop) (ff : Addr → FF) (ma mb : ME) : ME := fun δ F Y => ma δ (fun d => mb δ (fun e => match d with
  | .obj C _ => good C ∧ knownD e = true ∧ PySem.W.notFirst K C (tyD e) = true ∧ ff C [d, e] (fun r => (∃ b, r = .bl b) ∧ F r) Y
  | _ => False) Y) Y
theorem de_cmpX {X : Cx} {c : Ct} {W : WX} {k : Nat} {op : CmpOp} {good : Addr → Prop} {ff : Addr → FF} {a b : Expr} {ta tb : TE} {ma mb : ME} {pos : Pos} (M : OwnM X.prog X.w X.K X.mg X.base good (cmpInfo op).2.1 k 2 ff) (hop : isCmp op = true) (hr : Room k X.A) (tk : Takes X W)
    (ha : DE X c W a ta ma) (hb : DE X c W b tb mb) (hm : behindInMarks op b = false) : DE X c W (.Compare a [op] [b] pos) (tCmpX X k op (fun σ cls d H => W cls d σ H) ta tb) (mCmpX X.K good ff ma mb) := by
  refine ⟨pe_cmpX hop hr (passAt tk) ha.p hb.p hm, fun H G σ δ F Y Q cr rs h q x => ?_⟩
  refine ha.w H G σ δ _ Y _ cr rs h (fun v d H1 G1 g1 r1 h1 => ?_) x
  refine hb.w H1 G1 σ δ _ Y _ (cr.step g1) (rs.step cr g1) h1 (fun u e H2 G2 g2 r2 h2 => ?_) (x.step g1)
  split at h2
  · rename_i C fs
    obtain ⟨h3, h4, h5, h6⟩ := h2
    have r1' := r1.mono g2.grow
    obtain ⟨a', dx, fv, rfl, e1, _⟩ := r1'.obj_of
    refine ⟨a', C, dx, fv, ff C, G2, e, rfl, g2.sub _ _ e1, g2.sub, r2, h4, h5, M.ok C h3, ?_⟩
    refine ⟨G2, [.obj C fs, e], none, [.ref a', u], _, Y, rfl, ⟨rfl, rfl⟩, g2.sub, .no, .cons r1' (.cons r2 .nil), h6, fun w d' H' G' g3 r3 f => ?_, fun C' fs' d' H' G' g3 e3 f => x C' fs' d' H' G' ((g1.trans g2).trans (g3.lift g2.deal)) e3 f⟩
    obtain ⟨⟨b, rfl⟩, f⟩ := f
    exact ⟨⟨b, r3.bl_of⟩, q w _ H' G' ((g1.trans g2).trans (g3.lift g2.deal)) r3 f⟩
  · exact h2.elim
end DL

set_option Elab.async false
set_option linter.all false
set_option maxRecDepth 100000
set_option maxHeartbeats 4000000
namespace DL
open PySem L2 PySem.Spec PyProof.Rows
/-! ### C.m(..), m a classmethod that may raise -/
def tCMethS (C : Addr) (sp : Sp) (E : L2.St → XK) (ta : TE) (t : TA) : TE := fun σ H Q => ta σ H fun x H1 => x = V.ref C ∧ t σ H1 fun vs H2 => sp (V.ref C :: vs) H2 Q (E σ)
theorem run_cmS {X : Cx} {pins : List (Addr × Obj)} {σ : L2.St} {H : Hp} {s : Shared} {C g q : Addr} {CX : CXT} {k : Nat} {sp : Sp} {E : XK} {Q : VK} {us : List Value} {vs : List V} (F : FnR X.prog X.w X.K X.mg X.base CX k g sp) (hr : Room k X.A) (hx : PassesAt CX X σ E)
    (I : L2.Inv X ((q, W.methodObj (Value.ref g) (Value.ref C)) :: pins) σ H s) (r : Vals vs us) (h : sp (V.ref C :: vs) H Q E) : wpAny (model X.prog X.w) X.A (call (Value.ref q) us) (EP X pins σ Q) X.xe s := by
  have z := wpAny_call (W.method_call (ClX.pin_at I) (R := fun r s' => match r with
      | .ok (.ret v) => EP X ((q, W.methodObj (Value.ref g) (Value.ref C)) :: pins) σ Q v s'
      | .ok _ => False
      | .error e => X.xe e s') (codeAny_mono (F X.A X.stack s H (Value.ref C :: us) (V.ref C :: vs) Q E hr I.env0 (Paired.cons rfl r) h) fun r s' hq => by
    match r, hq with
    | .error e, hq => exact hx _ H s e s' I hq
    | .ok (.ret u), hq => exact I.after hq
    | .ok .next, hq => exact hq.elim
    | .ok .brk, hq => exact hq.elim
    | .ok .cont, hq => exact hq.elim))
  exact thn z fun x x_1 y => ClX.unpinE y
section
variable {X : Cx} {c : Ct} {W : WX} {pos apos : Pos} {e o : Expr} {es : List Expr} {mr : MA} {tr : TA} {ma : ME} {ta : TE} {m : Str} {C : Addr} {k n : Nat}
theorem pe_cmethS {CX : CXT} {p g : Addr} {mc : Value} {sp : Sp} {E : L2.St → XK} {pl : Sem Bool} (he : PE X o ta) (r : ClX.CRead X.K C mc) (c : ClX.CMet X.K C mc m p g) (F : FnR X.prog X.w X.K X.mg X.base CX k g sp) (hr : Room k X.A) (hx : ∀ σ, PassesAt CX X σ (E σ)) (ha : PA X (e :: es) tr)
    (hst : starEach (e :: es) X.env = (false, eval e X.env) :: starEach es X.env) (hpl : (backTo pos (starEach es X.env)).any (·.1) = false)
    (ht : eval (.Call (.Attribute o m apos) (e :: es) [] pos) X.env = (do
      let ov ← eval o X.env
      standAt apos.atName
      let (f, first) ← holding [ov] (getMethod ov m pl)
      callWith pos f first (backTo pos (starEach (e :: es) X.env)) (backToKw pos (keywordEach [] X.env)))) :
    PE X (.Call (.Attribute o m apos) (e :: es) [] pos) (tCMethS C sp E ta tr) := by
  refine ⟨fun pins s σ H Q I h => ?_⟩
  refine W.methodCall_KW (thn (he.run pins s σ H (fun x H1 => x = V.ref C ∧ tr σ H1 fun vs H2 => sp (V.ref C :: vs) H2 Q (E σ)) I h) fun u s1 x => ?_) ht
  obtain ⟨x1, H1, I1, rx, ex, q⟩ := x
  subst ex
  have rx : u = Value.ref C := rx
  subst rx
  refine ClX.getmethcm_ok I1 r c fun s2 I2 => ?_
  refine ClX.callwith_cm I2 (ClX.base_none I1 (Nat.le_refl s1.heap.objs.size)) c.fi (thn (ha.run pos ((s1.heap.objs.size, W.methodObj (Value.ref g) (Value.ref C)) :: pins) s2 σ H1 (fun vs H2 => sp (V.ref C :: vs) H2 Q (E σ)) I2 q) fun us s3 x => ?_) hst hpl
  obtain ⟨vs, H2, I3, rv, q2⟩ := x
  exact ⟨⟨ClX.pin_at I3, I3.kIn⟩, run_cmS F hr (hx σ) I3 rv q2⟩
def mCmetX (C : Addr) (n : Nat) (ff : FF) (ma : ME) (mr : MA) : ME := fun δ F Y => ma δ (fun d => d = .fx (.ref C) ∧ mr δ (fun ds => ds.length = n ∧ ff (.fx (.ref C) :: ds) F Y) Y) Y
theorem we_cmetX {K : Fg} {ff : FF} (wa : WE K c W ta ma) (wr : WA K c W tr mr) : WE K c W (tCMethS C (spD K (n + 1) false ff) (fun σ cls d H => W cls d σ H) ta tr) (mCmetX C n ff ma mr) := fun H G σ δ F Y Q cr rs h q xx => by
  refine wa H G σ δ _ _ _ cr rs h (fun v d H1 G1 g1 r1 h1 => ?_) xx
  obtain ⟨rfl, h1⟩ := h1
  refine ⟨r1.fx_of, ?_⟩
  refine wr H1 G1 σ δ _ _ _ (cr.step g1) (rs.step cr g1) h1 (fun vs ds H2 G2 g2 r2 h2 => ?_) (xx.step g1)
  refine ⟨G2, .fx (.ref C) :: ds, none, .ref C :: vs, F, Y, by rw [List.length_cons, h2.1], ⟨rfl, rfl⟩, g2.sub, .no, .cons (.fx _) r2, h2.2, fun v d H3 G3 g3 r3 f3 => q v d H3 G3 ((g1.trans g2).trans (g3.lift g2.deal)) r3 f3, fun C' fs d H3 G3 g3 e3 f3 => xx C' fs d H3 G3 ((g1.trans g2).trans (g3.lift g2.deal)) e3 f3⟩
theorem de_cmetX {pl : Sem Bool} {ff : FF} (M : Cmt X.prog X.w X.K X.mg X.base C m k n ff) (hr : Room k X.A) (tk : Takes X W) (hc : DE X c W o ta ma) (ha : DA X c W (e :: es) tr mr)
    (he : starEach (e :: es) X.env = (false, eval e X.env) :: starEach es X.env := by rfl) (hpl : (backTo pos (starEach es X.env)).any (·.1) = false := by rfl)
    (hev : eval (.Call (.Attribute o m apos) (e :: es) [] pos) X.env = (do
      let ov ← eval o X.env
      standAt apos.atName
      let (f, first) ← holding [ov] (getMethod ov m pl)
      callWith pos f first (backTo pos (starEach (e :: es) X.env)) (backToKw pos (keywordEach [] X.env))) := by rfl) :
    DE X c W (.Call (.Attribute o m apos) (e :: es) [] pos) (tCMethS C (spD X.K (n + 1) false ff) (fun σ cls d H => W cls d σ H) ta tr) (mCmetX C n ff ma mr) := by
  obtain ⟨mc, q, g, rd, cm, F⟩ := M.ok
  exact ⟨pe_cmethS hc.p rd cm F hr (passAt tk) ha.p he hpl hev, we_cmetX hc.w ha.w⟩
end
end DL

set_option Elab.async false
set_option linter.all false
set_option maxRecDepth 100000
set_option maxHeartbeats 4000000
namespace DL
open PySem L2 PySem.Spec PyProof.Rows XS
section
variable {X : Cx} {c : Ct} {W : WX} {K : Fg} {pos apos cpos p : Pos} {a b d e o : Expr} {es : List Expr} {ma mb me mo : ME} {ta tb td te to : TE} {mr md : MA} {tr : TA} {name : Str}
/-! ### x.split(y), the list one's own -/
theorem oe_split (ho : DE X c W o to mo) (ha : DA X c W (e :: es) tr mr)
    (hbase : attributeBase o "split" X.env (eval o X.env) = eval o X.env := by rfl)
    (hfew : ((backTo cpos (starEach (e :: es) X.env)).all (fun x => !x.1) && (backToKw cpos (keywordEach [] X.env)).all (fun x => x.1.isSome)
      && decide ((e :: es).length + ([] : List Keyword).length + (if ([] : List Keyword).isEmpty then 0 else 1) < 30)) = true := by rfl)
    (hline : (apos.endLine == cpos.line) = true := by rfl) (hs : starEach (e :: es) X.env = (false, eval e X.env) :: starEach es X.env := by rfl) (hplain : (backTo cpos (starEach es X.env)).any (·.1) = false := by rfl) :
    OE X c W (.Call (.Attribute o "split" apos) (e :: es) [] cpos) (tBM X.K "str" (fun x xs H Q => ∃ a b, x = .str a ∧ xs = [.str b] ∧ (b.length == 0) = false ∧ a.length + 2 ≤ sizeLine ∧ rNewStrs (Txt.split a b) H Q) to tr)
      (fun δ F Y => mo δ (fun d => match d with
        | .str z => mr δ (fun ds => match ds with
          | [.str b] => (b.length == 0) = false ∧ z.length + 2 ≤ sizeLine ∧ F ((Txt.split z b).map D.str)
          | _ => False) Y
        | _ => False) Y) := by
  refine ⟨pe_bm PySem.F.plainAttrs_str PySem.F.slot_str_split PySem.F.type_str_split mt_split ho.p ha.p hbase hfew hline hs hplain, fun H G σ δ F Y Q cr rs h q x => ?_⟩
  refine ho.w H G σ δ _ _ _ cr rs h (fun v d H1 G1 g1 r1 h1 => ?_) x
  split at h1
  · rename_i z
    rw [r1.str_of]
    refine ⟨rfl, ?_⟩
    refine ha.w H1 G1 σ δ _ _ _ (cr.step g1) (rs.step cr g1) h1 (fun vs ds H2 G2 g2 r2 h2 => ?_) (x.step g1)
    split at h2
    · rename_i b
      obtain ⟨v2, rfl, r3⟩ := r2.one
      have cr1 := cr.step g1
      have cr2 := cr1.step g2
      have g12 := g1.trans g2
      refine ⟨z, b, rfl, by rw [r3.str_of], h2.1, h2.2.1, fun l hl => ?_⟩
      exact q l _ _ _ G2 (g12.trans ((Go.mine g2.sub hl).lift g12.deal)) upd_same (nfree g2 hl) (g12.back cr.dlok hl) (reps_strs _) h2.2.2
    · exact h2.elim
  · exact h1.elim
/-! ### x, y, z = a, b, [..], the third one's own -/
def msPar3O (i j l : Nat) (ma mb : ME) (mo : MA) : MS := fun δ k => ma δ (fun d => mb δ (fun e => mo δ (fun fs => k.nx (((δ.set i (.dat d)).set j (.dat e)).set l (.own fs))) (fun _ => False)) (fun _ => False)) (fun _ => False)
theorem ds_par3O (i j l : Nat) {x y z : Str} {px py pz pt : Pos} {kt k2 pt2} (hc : X.calm = true) (hN : X.N.Nodup) (hi : X.N[i]? = some x) (hj : X.N[j]? = some y) (hl : X.N[l]? = some z) (hij : i ≠ j) (hil : i ≠ l) (hjl : j ≠ l)
    (hx : X.env.scope.names.lookup x = some .local) (hy : X.env.scope.names.lookup y = some .local) (hz : X.env.scope.names.lookup z = some .local) (ha : DE X c W a ta ma) (hb : DE X c W b tb mb) (hd : OE X c W d td md)
    (s1 : starEach [d] X.env = [(false, eval d X.env)] := by rfl) (s2 : starEach [b, d] X.env = (false, eval b X.env) :: starEach [d] X.env := by rfl) (s3 : starEach [a, b, d] X.env = (false, eval a X.env) :: starEach [b, d] X.env := by rfl)
    (hw : swappedStores [.Tuple [.Name x px, .Name y py, .Name z pz] kt pt] (.Tuple [a, b, d] k2 pt2) X.env = pure (some [x, y, z]) := by rfl)
    (hs : swapsWithSole [.Tuple [.Name x px, .Name y py, .Name z pz] kt pt] (.Tuple [a, b, d] k2 pt2) pos.line X.env = pure false := by rfl) :
    DS X c W (.Assign [.Tuple [.Name x px, .Name y py, .Name z pz] kt pt] (.Tuple [a, b, d] k2 pt2) pos) (tPar3 i j l (tCons ta (tCons tb (tCons td tNil)))) (msPar3O i j l ma mb md) := by
  refine ⟨ps_par3 hc hN hi hj hl hij hil hjl hx hy hz (pa_cons ha.p (pa_cons hb.p (pa_cons hd.p pa_nil s1) s2) s3) hw hs, fun H G σ δ k Y cr rs h en => ?_⟩
  refine ha.w H G σ δ _ _ _ cr rs h (fun v1 d1 H1 G1 g1 r1 f1 => ?_) XW.no
  have cr1 := cr.step g1
  have rs1 := rs.step cr g1
  refine hb.w H1 G1 σ δ _ _ _ cr1 rs1 f1 (fun v2 d2 H2 G2 g2 r2 f2 => ?_) XW.no
  have cr2 := cr1.step g2
  have rs2 := rs1.step cr1 g2
  refine hd.w H2 G2 σ δ _ _ _ cr2 rs2 f2 (fun q ys es' H3 G3 g3 k1 k2' k3 r3 f3 => ?_) XW.no
  have cr3 := cr2.step g3
  have rs3 := rs2.step cr2 g3
  have heq : c.He q = none := He_none (H' := H2) (G' := G2) cr2 k3
  have s4 := ((rs3.set i (r1.mono (g2.grow.trans g3.grow))).set j (r2.mono g3.grow))
  refine ⟨_, _, _, rfl, ?_⟩
  refine en.nx _ _ H3 G3 cr3 (s4.own (p := q) (xs := ys) (ds := es') l k1 k2' heq r3 fun j' fs e' w => ?_) ((g1.grow.trans g2.grow).trans g3.grow) f3
  have s5 := ((rs2.set i (r1.mono g2.grow)).set j r2)
  obtain ⟨y', q1, p', xs', q2, q3, _⟩ := s5.at_ _ _ e'
  subst q2
  rw [q1] at w
  cases w
  rw [k3] at q3
  cases q3
/-! ### the same where a name is caught by a comprehension: by way of a tuple -/
theorem ds_asg3O (i j l : Nat) {x y z : Str} {px py pz pt : Pos} {kt k2 pt2} (hc : X.calm = true) (hN : X.N.Nodup) (hi : X.N[i]? = some x) (hj : X.N[j]? = some y) (hl : X.N[l]? = some z)
    (hx : Loc X.env.scope x) (hy : Loc X.env.scope y) (hz : Loc X.env.scope z) (ha : DE X c W a ta ma) (hb : DE X c W b tb mb) (hd : OE X c W d td md)
    (fx : X.fn x = true ∨ X.env.scope.names.lookup x = some .local := by first | exact .inl rfl | exact .inr rfl) (fy : X.fn y = true ∨ X.env.scope.names.lookup y = some .local := by first | exact .inl rfl | exact .inr rfl) (fz : X.fn z = true ∨ X.env.scope.names.lookup z = some .local := by first | exact .inl rfl | exact .inr rfl)
    (s1 : starEach [d] X.env = [(false, eval d X.env)] := by rfl) (s2 : starEach [b, d] X.env = (false, eval b X.env) :: starEach [d] X.env := by rfl) (s3 : starEach [a, b, d] X.env = (false, eval a X.env) :: starEach [b, d] X.env := by rfl)
    (hs : swapsWithSole [.Tuple [.Name x px, .Name y py, .Name z pz] kt pt] (.Tuple [a, b, d] k2 pt2) pos.line X.env = pure false := by rfl) (hw : swappedStores [.Tuple [.Name x px, .Name y py, .Name z pz] kt pt] (.Tuple [a, b, d] k2 pt2) X.env = pure none := by rfl)
    (h1 : (assignEach [.Tuple [.Name x px, .Name y py, .Name z pz] kt pt] X.env).map (·.2) = [assign (.Tuple [.Name x px, .Name y py, .Name z pz] kt pt) X.env] := by rfl) :
    DS X c W (.Assign [.Tuple [.Name x px, .Name y py, .Name z pz] kt pt] (.Tuple [a, b, d] k2 pt2) pos) (tAsg (tTup (tCons ta (tCons tb (tCons td tNil)))) (gTup X.K 3 (gCons (gName i) (gCons (gName j) (gCons (gName l) gNil))))) (msPar3O i j l ma mb md) := by
  refine ⟨ps_asg (pe_tup (pa_cons ha.p (pa_cons hb.p (pa_cons hd.p pa_nil s1) s2) s3)) (pg_tup hc (pgs_cons (pg_name hN hi hx fx) (pgs_cons (pg_name hN hj hy fy) (pgs_cons (pg_name hN hl hz fz) pgs_nil)))) hs hw h1, fun H G σ δ k Y cr rs h en => ?_⟩
  refine ha.w H G σ δ _ _ _ cr rs h (fun v1 d1 H1 G1 g1 r1 f1 => ?_) XW.no
  have cr1 := cr.step g1
  have rs1 := rs.step cr g1
  refine hb.w H1 G1 σ δ _ _ _ cr1 rs1 f1 (fun v2 d2 H2 G2 g2 r2 f2 => ?_) XW.no
  have cr2 := cr1.step g2
  have rs2 := rs1.step cr1 g2
  refine hd.w H2 G2 σ δ _ _ _ cr2 rs2 f2 (fun q ys es' H3 G3 g3 k1 k2' k3 r3 f3 => ?_) XW.no
  have cr3 := cr2.step g3
  have heq : c.He q = none := He_none (H' := H2) (G' := G2) cr2 k3
  refine ⟨(show 3 ≤ sizeLine by decide), fun p hp => ?_⟩
  have g4 := (Go.mine (o := .tup [v1, v2, .ref q]) g3.sub hp).lift ((cr3).dlok)
  have g34 := g3.trans g4
  have cr4 := cr2.step g34
  have rs4 := rs2.step cr2 g34
  have s4 := ((rs4.set i (r1.mono (g2.grow.trans g34.grow))).set j (r2.mono g34.grow))
  have k1' : upd H3 p (.tup [v1, v2, .ref q]) q = some (.lst ys) := by
    rw [upd_ne (ne_of_none k1 hp)]
    exact k1
  dsimp only [gTup, gCons, gNil, gName]
  refine ⟨p, _, rfl, SqT.of upd_same, rfl, _, _, rfl, _, _, rfl, _, _, rfl, rfl, ?_⟩
  refine en.nx _ _ _ G3 cr4 (s4.own (p := q) (xs := ys) (ds := es') l k1' k2' heq r3 fun j' fs e' w => ?_) ((g1.grow.trans g2.grow).trans g34.grow) f3
  have s5 := ((rs2.set i (r1.mono g2.grow)).set j r2)
  obtain ⟨y', q1, p', xs', q2, q3, _⟩ := s5.at_ _ _ e'
  subst q2
  rw [q1] at w
  cases w
  rw [k3] at q3
  cases q3
/-! ### shown for good where it is one's own, else left as it is -/
def msPubM (j : Nat) (m : MS) : MS := fun δ k => match δ[j]? with
  | some (.own bs) => m (δ.set j (.dat (.lst bs))) k
  | _ => m δ k
theorem ws_pubM {ts : TS} {ms : MS} (j : Nat) (h : WS K c W ts ms) : WS K c W ts (msPubM j ms) := fun H G σ δ k Y cr rs hm en => by
  unfold msPubM at hm
  split at hm
  · rename_i bs ej
    obtain ⟨y, q1, p, ys, q2, q3, q4, q5, q6⟩ := rs.at_ _ _ ej
    subst q2
    exact h H _ σ _ k Y (cr.shown q3 q4 q5) (rs.shown ej q1 q3 q4 q6) hm (en.mono fun a o z => by rw [upd_ne (ne_of_none z q4)]; exact z)
  · exact h H G σ δ k Y cr rs hm en
theorem ds_pubM {st : Stmt} {ts : TS} {ms : MS} (j : Nat) (h : DS X c W st ts ms) : DS X c W st ts (msPubM j ms) := ⟨h.p, ws_pubM j h.w⟩
end
end DL

set_option Elab.async false
set_option linter.all false
set_option maxRecDepth 100000
set_option maxHeartbeats 4000000
namespace XT
open DL PySem L2 PySem.Spec PyProof.Rows PySem.Froz
/-! sets of texts, with the order in which they are walked: laid, added to, sorted -/
section
variable {P : Program} {w : World} {A : Around} {E : Value → Shared → Prop} {s : Shared}
abbrev TC := Str × Tok
def tcv (c : TC) : Value := .str c.1 c.2
structure Txs (P : Program) (w : World) (h : Heap) (a : Addr) (l : List Str) : Prop where
  at_ : ∃ D : SD, h.get? a = some (sObj "set" D) ∧ PySem.Froz.TxOk P w D l ∧ Ris D.2.2.place.toList ∧ (w.params.followText "set-order" = true ∨ D.2.2.led = true) ∧ ∃ L : List TC, (D.1.toList.map (·.2)).Perm (L.map tcv) ∧ L.map (·.1) = l
  one : l.Nodup
theorem Txs.keep {h h' : Heap} {a : Addr} {l : List Str} (R : Txs P w h a l) (k : ∀ o, h.get? a = some o → h'.get? a = some o) : Txs P w h' a l := by
  obtain ⟨⟨D, hD, more⟩, nd⟩ := R
  exact ⟨⟨D, k _ hD, more⟩, nd⟩
theorem tok_same {D : SD} {l m : List Str} (F : PySem.Froz.TxOk P w D l) (p : l.Perm m) : PySem.Froz.TxOk P w D m :=
  ⟨F.el, fun k => (p.mem_iff.symm).trans (F.mem k), F.sz.trans p.length_eq, F.fit⟩
theorem tail_keeps {ep : Nat} {es : Array (Int × Value)} {t : SetTable} {b : Bool} (r : Ris t.place.toList) : Ris (tailTx ep es t b).2.2.place.toList ∧ (tailTx ep es t b).2.2.led = t.led ∧ (tailTx ep es t b).1.toList.Perm es.toList := by
  unfold tailTx
  split
  · exact ⟨relayAll_ris t es _, relayAll_led t es _, relayAll_perm t es _⟩
  · exact ⟨r, rfl, .refl _⟩
theorem add_keeps {D : SD} {x : Int} {v : Value} (r : Ris D.2.2.place.toList) : Ris (addTx x v D).2.2.place.toList ∧ (addTx x v D).2.2.led = D.2.2.led ∧ (addTx x v D).1.toList.Perm (D.1.toList ++ [(x, v)]) := by
  have p1 := layNew_perm D.2.2 D.1 x v
  rw [Array.toList_push] at p1
  have r1 := layNew_ris D.2.2 D.1 x v r
  have l1 := layNew_led D.2.2 D.1 x v
  unfold addTx
  split
  · obtain ⟨q1, q2, q3⟩ := tail_keeps (ep := D.2.1) (es := (layNew D.2.2 D.1 x v).1) (t := { (layNew D.2.2 D.1 x v).2.1 with plain := false }) (b := (layNew D.2.2 D.1 x v).2.2.1) r1
    exact ⟨q1, q2.trans l1, q3.trans p1⟩
  · obtain ⟨q1, q2, q3⟩ := tail_keeps (ep := D.2.1) (es := (layNew D.2.2 D.1 x v).1) (t := (layNew D.2.2 D.1 x v).2.1) (b := (layNew D.2.2 D.1 x v).2.2.1) r1
    exact ⟨q1, q2.trans l1, q3.trans p1⟩
/-- a text that is there is not put in again -/
theorem add_old {a : Addr} {T : String} {D : SD} {l : List Str} {k : Str} {u : Tok} {Q : Bool → Shared → Prop} (ho : s.heap.get? a = some (sObj T D)) (F : PySem.Froz.TxOk P w D l) (hk : k ∈ l) (few : l.length + 1 < scanBound) (q : Q false s) :
    wpAny (model P w) A (setAddHashed a (.str k u) (hashStr w k)) Q E s := by
  obtain ⟨es, ep, t⟩ := D
  have hd : (sObj T (es, ep, t)).data = .set es ep t := rfl
  have lt : es.size < scanBound := by
    have : es.size = l.length := F.sz
    omega
  obtain ⟨e, he, pe⟩ := (F.mem k).mp hk
  unfold setAddHashed setAddHashedIn
  refine wpAny_holding (wpAny_bind (wpAny_setState_of ho hd F.fit ?_))
  dsimp only
  rw [byScan_of rfl lt F.el]
  simp only [↓reduceIte]
  unfold setAddByScan
  refine wpAny_bind (wpAny_bind (wpAny_rule ?_))
  refine wpAny_bind (wpAny_setScan_of (knd := strKind P w) (k := k) (is_str k u) ho hd F.fit F.el ?_)
  cases hf : List.findIdx? (fun e => (strKind P w).is k e.2) es.toList with
  | some j => exact wpAny_pure (wpAny_pure q)
  | none =>
    have := List.findIdx?_eq_none_iff.mp hf e he
    rw [pe] at this
    cases this
theorem Txs.add {a : Addr} {l : List Str} {k : Str} {u : Tok} {Q : Bool → Shared → Prop} (R : Txs P w s.heap a l) (few : l.length + 1 < scanBound)
    (q : ∀ b h', Heap.SameBut a s.heap h' → Txs P w h' a (if k ∈ l then l else l ++ [k]) → Q b { s with heap := h' }) :
    wpAny (model P w) A (setAddHashed a (.str k u) (hashStr w k)) Q E s := by
  obtain ⟨⟨D, hD, F, r, g, L, pL, eL⟩, nd⟩ := id R
  by_cases hk : k ∈ l
  · refine add_old hD F hk few ?_
    have := q false s.heap (Heap.SameBut.refl a s.heap)
    rw [if_pos hk] at this
    exact this R
  · refine add_x hD F hk few ?_
    have sb : Heap.SameBut a s.heap (s.heap.update a fun _ => sObj "set" (addTx (hashStr w k) (.str k u) D)) := by
      refine ⟨?_, fun b hb => Heap.get?_update_ne _ _ _ _ hb⟩
      first | exact Heap.size_update .. | simp [Heap.update]
    refine q true _ sb ?_
    rw [if_neg hk]
    obtain ⟨k1, k2, k3⟩ := add_keeps (x := hashStr w k) (v := .str k u) r
    refine ⟨⟨_, get_upd _ hD rfl, tok_same (add_ok u F) (List.perm_append_singleton k l).symm, k1, ?_, L ++ [(k, u)], ?_, by rw [List.map_append, eL]; rfl⟩, ?_⟩
    · rw [k2]
      exact g
    · have := k3.map (·.2)
      rw [List.map_append] at this
      rw [List.map_append]
      exact this.trans (List.Perm.append pL (.refl _))
    · exact (List.perm_append_singleton k l).symm.nodup_iff.mp (List.nodup_cons.mpr ⟨hk, nd⟩)
end

abbrev new0 (w : World) : Obj := { cls := .type "set", dict := none, data := .set #[] 0 (.fresh 0 0 (!w.params.followText "set-order")) }
theorem txs_new {P : Program} {w : World} {h : Heap} {a : Addr} (ho : h.get? a = some (new0 w)) : Txs P w h a [] := by
  refine ⟨⟨(#[], 0, .fresh 0 0 (!w.params.followText "set-order")), ho, PySem.Froz.TxOk.nil rfl, .nil, ?_, [], .nil, rfl⟩, .nil⟩
  show _ ∨ (!w.params.followText "set-order") = true
  cases w.params.followText "set-order" <;> simp
section
variable {pg : Program} {wo : World} {Ar : Around} {Rs : Result → Shared → Prop} {It : Addr} {fp wr : List Addr} {Gn : Array GenState → Array GenState → Prop} {n : Nat} {Pi : Nat → Value → Prop} {St : Nat → Shared → Prop}
theorem set_loopX (Wk : WalksS pg wo Ar.in1 It fp wr Gn n Pi St) (S : Addr) (nf : S ∉ fp) (xs : List Str) (el : xs.length = n) (few : n + 1 < scanBound)
    (iv : ∀ i v, Pi i v → ∃ t, v = .str (xs.getD i Str.empty) t) : ∀ (d i : Nat) (z : Shared), n - i = d → i ≤ n → St i z → Txs pg wo z.heap S (ddS [] (xs.take i)) →
      (∀ z', Moved (S :: wr) Gn z z' → Txs pg wo z'.heap S (ddS [] xs) → Rs (.ok (.ret .none)) z') → codeAny (model pg wo) Ar (.builtin "set.update.loop" ⟨[.ref S, .ref It], []⟩) Rs z := by
  have nw : S ∉ wr := fun h => nf (Wk.sub _ h)
  have up : ∀ b ∈ wr, b ∈ S :: wr := fun b hb => List.mem_cons_of_mem _ hb
  intro d
  induction d with
  | zero =>
    intro i z hd hi at_ has fin
    obtain rfl : i = n := by omega
    refine codeAny_builtin F.entry_set_update_loop ?_
    rw [Around.under_plainId F.plain_set_update_loop _]
    show wpAny _ Ar.in1 (pyNext (.ref It) >>= _) _ _ z
    refine wpAny_bind (Wk.done z _ _ at_ fun z' mv => ?_)
    show wpAny _ Ar.in1 (ret Value.none) _ _ z'
    refine wpAny_pure (fin z' (mv.mono up) ?_)
    rw [List.take_of_length_le (Nat.le_of_eq el)] at has
    exact has.keep fun o ho => mv.heap S _ nw ho
  | succ d ih =>
    intro i z hd hi at_ has fin
    have lt : i < n := by omega
    have ltx : i < xs.length := by omega
    have eg : xs.getD i Str.empty = xs[i] := by rw [List.getD_eq_getElem?_getD, List.getElem?_eq_getElem ltx]; rfl
    have et : xs.take (i + 1) = xs.take i ++ [xs[i]] := by rw [List.take_succ, List.getElem?_eq_getElem ltx]; rfl
    refine codeAny_builtin F.entry_set_update_loop ?_
    rw [Around.under_plainId F.plain_set_update_loop _]
    show wpAny _ Ar.in1 (pyNext (.ref It) >>= _) _ _ z
    refine wpAny_bind (Wk.item i z _ _ lt at_ fun v z' pv at' mv => ?_)
    obtain ⟨t, rfl⟩ := iv i v pv
    have has' : Txs pg wo z'.heap S (ddS [] (xs.take i)) := has.keep fun o ho => mv.heap S _ nw ho
    rw [eg]
    show wpAny _ Ar.in1 (holding [Value.str xs[i] t] (setAdd S (.str xs[i] t)) >>= _) _ _ z'
    refine wpAny_bind (wpAny_holding ?_)
    unfold setAdd
    refine wpAny_holding ?_
    refine wpAny_bind ((strKind pg wo).pyHash (k := xs[i]) (strKind_is _ _ _ _) ?_)
    have room : (ddS [] (xs.take i)).length + 1 < scanBound := by
      have h1 := ddS_len (xs.take i) []
      have h2 : (xs.take i).length ≤ i := by rw [List.length_take]; exact Nat.min_le_left _ _
      have h3 : ([] : List Str).length = 0 := rfl
      omega
    refine Txs.add (s := { z' with toks := z'.toks + 1 }) has' room fun _ h' sb has2 => ?_
    have next : Txs pg wo h' S (ddS [] (xs.take (i + 1))) := by
      rw [et, ddS_append]
      exact has2
    refine wpAny_pure ⟨plainId_quiet F.plain_set_update_loop _, ih (i + 1) _ (by omega) lt (Wk.frame _ z' _ _ at' (Nat.le_succ _) fun b hb o e => ?_) next fun z2 mv2 has3 => ?_⟩
    · rw [sb.2 b fun q : b = S => nf (by rw [← q]; exact hb)]
      exact e
    · refine fin z2 (Moved.trans Wk.gtrans ((mv.mono up).then_heap (Nat.le_succ _) fun b o hb e => ?_) mv2) has3
      rw [sb.2 b fun q : b = S => hb (by rw [q]; exact List.mem_cons_self)]
      exact e
end
section
variable {pg : Program} {wo : World} {Ar : Around} {Er : Value → Shared → Prop} {st : Shared}
/-- set(x) for any x that has an iterator of texts -/
theorem set_of_textsX {l : Addr} {xs : List Str} {Q : Value → Shared → Prop} {T : String} {ol : Obj} (hh : Ar.handled = none) (few : xs.length + 1 < scanBound) (hol : st.heap.get? l = some ol) (hT : ol.cls = .type T)
    (n1 : isSubtype (.type T) (.type "set") = pure false) (n2 : isSubtype (.type T) (.type "frozenset") = pure false) (n3 : (Value.type T == Value.type "dict") = false)
    (itr : ∀ (A2 : Around) (E2 : Value → Shared → Prop) (Q2 : Value → Shared → Prop), A2.handled = none →
      (∀ (hp : Heap) (It : Addr) (fp wr : List Addr) (Gn : Array GenState → Array GenState → Prop) (Pi : Nat → Value → Prop) (St : Nat → Shared → Prop),
        (∀ b o, (st.heap.push (new0 wo)).get? b = some o → hp.get? b = some o) → (∀ A3 : Around, A3.handled = none → WalksS pg wo A3 It fp wr Gn xs.length Pi St) → st.heap.objs.size ∉ fp →
        (∀ g1 g2, Gn g1 g2 → g2 = g1) → (∀ b ∈ wr, st.heap.objs.size < b) → (∀ i v, Pi i v → ∃ t, v = .str (xs.getD i Str.empty) t) → St 0 { st with heap := hp } → Q2 (.ref It) { st with heap := hp }) →
      wpAny (model pg wo) A2 (pyIter (.ref l)) Q2 E2 { st with heap := st.heap.push (new0 wo) })
    (h : ∀ (h' : Heap) (tk : Nat), Txs pg wo h' st.heap.objs.size (ddS [] xs) → (∀ b o, b < st.heap.objs.size → st.heap.get? b = some o → h'.get? b = some o) → Q (.ref st.heap.objs.size) { st with heap := h', toks := tk }) :
    wpAny (model pg wo) Ar (call (.type "set") [.ref l]) Q Er st := by
  obtain ⟨c0, t0, m0⟩ := PySem.F.called_set.mro
  have m1 := PySem.F.called_set.made
  have m2 := PySem.F.called_set.sub
  refine wpAny_call (codeAny_of_tree ?_)
  show wpAny _ _ (callAny (.type "set") _) _ _ _
  refine wpAny_pure ⟨Code.quiet_builtin _ (by decide +kernel), codeAny_builtin PySem.F.entry_type_call ?_⟩
  rw [Around.under_plain (weight_type_call_type "set" [.ref l] []) rfl]
  have m3 := PySem.F.called_set.notType
  have m4 := PySem.F.called_set.canCreate
  have m5 := PySem.F.typeCall_set_1 (.ref l)
  repeat (any_goals (first | assumption | wp_step))
  refine codeAny_mono (code_set_led1 (.ref l) (E := Er) (Q₁ := fun ob z => ob = .ref st.heap.objs.size ∧ z = { st with heap := st.heap.push (new0 wo) }) ⟨rfl, rfl⟩) fun r z hr => ?_
  cases r with
  | error e => exact hr
  | ok fl =>
    cases fl with
    | ret ob =>
      obtain ⟨rfl, rfl⟩ := hr
      have hS : (st.heap.push (new0 wo)).get? st.heap.objs.size = some (new0 wo) := Heap.get?_push_size _ rfl
      have tyS : Shared.TypeIs { st with heap := st.heap.push (new0 wo) } (.ref st.heap.objs.size) "set" := ⟨_, hS, rfl⟩
      have m6 := PySem.F.called_set.init.lookup
      have m7 := PySem.F.called_set.init.bind (.ref st.heap.objs.size)
      repeat (any_goals (first | assumption | wp_step))
      refine codeAny_mono (codeAny_call_builtin (R := wants (fun v z2 => v = .none ∧ ∃ h' tk, z2 = { st with heap := h', toks := tk } ∧ Txs pg wo h' st.heap.objs.size (ddS [] xs) ∧
          (∀ b o, b < st.heap.objs.size → st.heap.get? b = some o → h'.get? b = some o)) Er) PySem.F.called_set.init.plain PySem.F.entry_set_init (check_set_init_1 tyS ?_)) fun r2 z2 hr2 => ?_
      · obtain ⟨oc, od, oda, osl⟩ := ol
        dsimp only at hT
        subst hT
        have hol2 : (st.heap.push (new0 wo)).get? l = some { cls := .type T, dict := od, data := oda, slots := osl } := Heap.get?_push_of_some _ hol
        unfold Builtin.«set.__init__» noKeywords Builtin.Frozenset.updateFrom
        generalize hPI : pyIter = PI
        wp_walk
        subst hPI
        refine itr _ _ _ (by simp [hh]) fun hp It fp wr Gn Pi St kp Wk nf ge wb iv st0 => ?_
        refine wpAny_bind (wpAny_runValue ?_)
        refine set_loopX (Wk _ (by simp [hh])) st.heap.objs.size nf xs rfl few iv (xs.length - 0) 0 _ (by omega) (Nat.zero_le _) st0 ?_ ?_
        · exact txs_new (kp _ _ hS)
        · intro z' mv has
          obtain ⟨h', g', d', tk', os'⟩ := z'
          have eg : g' = st.gens := ge _ _ mv.gens
          have ed : d' = st.drawn := mv.drawn
          have eo : os' = st.os := mv.os
          subst eg ed eo
          show wpAny _ _ _ _ _ _
          refine wpAny_pure ?_
          show wpAny _ _ (ret Value.none) _ _ _
          refine wpAny_pure ⟨rfl, h', tk', rfl, has, fun b o hb e => mv.heap b o (fun q => ?_) (kp _ _ (Heap.get?_push_of_some _ e))⟩
          rcases List.mem_cons.mp q with q | q
          · exact Nat.ne_of_lt hb q
          · exact absurd (Nat.lt_trans hb (wb b q)) (Nat.lt_irrefl _)
      · cases r2 with
        | error e => exact hr2
        | ok f2 =>
          cases f2 with
          | ret v =>
            obtain ⟨rfl, h', tk, rfl, has, kp⟩ := hr2
            repeat (any_goals (first | assumption | wp_step))
            exact h _ _ has kp
          | _ => exact hr2.elim
    | _ => exact hr.elim
end

section
variable {P : Program} {w : World} {A : Around} {E : Value → Shared → Prop} {s : Shared}
/-- sorted(s), s such a set -/
theorem sorted_txs {a : Addr} {l : List Str} {Q : Value → Shared → Prop} (R : Txs P w s.heap a l) (hh : A.handled = none) (few : l.length + 1 < scanBound) (hu : A.units + 10 < cLine)
    (q : ∀ s' p (out : Array Value) (n : Nat) (L : List TC), (∀ b o, s.heap.get? b = some o → s'.heap.get? b = some o) → s'.gens = s.gens → s'.os = s.os → s.heap.objs.size ≤ p → s'.heap.get? p = some (seqObj "list" out n) → out.toList = L.map tcv → (L.map (·.1)).Perm l →
      DL.upL (L.map fun c => c.1.cps.toList) → Q (.ref p) s') :
    wpAny (model P w) A (call (.builtin "sorted") [.ref a]) Q E s := by
  obtain ⟨⟨⟨es, ep, t⟩, ho, F, r, g, L, pL, eL⟩, nd⟩ := R
  have hs : es.size = l.length := F.sz
  refine Calls.call_function_entry kind_sorted plain_sorted entry_sorted (args_sorted1 _) ?_
  unfold Builtin.«sorted»
  refine wpAny_bind (m := checkCount "sorted" 1 1 _) (wpAny_pure ?_)
  refine wpAny_bind (collect_set (A := A.in1) hh ⟨_, ho, rfl, rfl⟩ F.fit (by show es.size < scanBound; omega) r g fun s1 vs k1 hz g1 o1 pm => ?_)
  obtain ⟨L1, rfl, p1⟩ := XS.perm_image (pm.trans pL)
  have lL : L1.length = l.length := by rw [p1.length_eq, ← eL, List.length_map]
  refine wpAny_bind (wpAny_newList ?_ (by rw [List.length_map, lL]; exact Nat.le_of_lt (Nat.lt_trans (Nat.lt_of_succ_lt few) (by decide))))
  have hoL : (s1.heap.push (seqObj "list" (L1.map tcv).toArray 0)).get? s1.heap.objs.size = some (seqObj "list" (L1.map tcv).toArray 0) := Heap.get?_push_size _ rfl
  have each : ∀ M : List TC, PySem.W.EachIs (fun v (c : TC) => v = tcv c) (M.map tcv) M := by
    intro M
    induction M with
    | nil => exact .nil
    | cons c M ih => exact .cons rfl ih
  have eachR : ∀ M : List TC, PySem.W.EachIs (fun v (c : TC) => ∃ as, Reads (s1.heap.push (seqObj "list" (L1.map tcv).toArray 0)) v (PyData.str c.1) as ∧ s1.heap.objs.size ∉ as) (M.map tcv) M := by
    intro M
    induction M with
    | nil => exact .nil
    | cons c M ih => exact .cons ⟨[], .str .., fun z => nomatch z⟩ ih
  refine wpAny_bind (wpAny_holding (PySem.W.list_sort_data (enc := fun c : TC => PyData.str c.1) hoL (each L1) (eachR L1) ?_ ?_ ?_ (fun c _ => ?_) fun out lo eo => ?_))
  · intro d hd d' hd'
    obtain ⟨c, _, rfl⟩ := List.mem_map.mp hd
    obtain ⟨c', _, rfl⟩ := List.mem_map.mp hd'
    rfl
  · refine .inr fun d hd => ?_
    obtain ⟨c, _, rfl⟩ := List.mem_map.mp hd
    exact ⟨(fun z => nomatch z), fun _ z => nomatch z⟩
  · rw [lL]
    exact Nat.le_of_lt (Nat.lt_trans (Nat.lt_of_succ_lt few) (by decide))
  · show A.in1.units + 1 + 0 < cLine
    have e : A.in1.units = A.units + 1 := rfl
    omega
  · have pm2 : (L1.mergeSort (PySem.W.dataLe false fun c : TC => PyData.str c.1)).Perm L1 := List.mergeSort_perm ..
    have outs : ∀ {o2 : List Value} {M : List TC}, PySem.W.EachIs (fun v (c : TC) => v = tcv c) o2 M → o2 = M.map tcv := fun h => by
      induction h with
      | nil => rfl
      | cons e _ ih => rw [List.map_cons, ← e, ← ih]
    obtain ⟨c, hc⟩ := sortedHeap_at (vs := L1.map tcv) (out := out.toArray) hoL
    refine wpAny_pure ⟨_, rfl, q _ s1.heap.objs.size out.toArray c (L1.mergeSort (PySem.W.dataLe false fun c : TC => PyData.str c.1)) (fun b u e => ?_) g1 o1 hz hc (by rw [outs eo]) ?_ ?_⟩
    · have q1 := k1 b u e
      have lt := Heap.lt_size q1
      show (sortedHeap (s1.heap.push (seqObj "list" (L1.map tcv).toArray 0)) s1.heap.objs.size (L1.map tcv) out.toArray).get? b = some u
      rw [sortedHeap_old (Nat.ne_of_lt lt) (by rw [size_push']; exact Nat.lt_succ_of_lt lt)]
      exact Heap.get?_push_of_some _ q1
    · have := (pm2.trans p1).map (·.1)
      rw [eL] at this
      exact this
    · unfold DL.upL
      rw [List.pairwise_map]
      refine (PySem.W.sort_pairwise (PySem.W.sortLe_total (listOrd itemOrd) false fun c : TC => PySem.W.keyToks (PyData.str c.1)) L1).imp fun {x y} h => ?_
      have h : (!PySem.W.dataLt (.str y.1) (.str x.1)) = true := h
      rw [PySem.W.dataLt_str] at h
      rw [show lt1 y.1.cps.toList x.1.cps.toList = decide (y.1.cps.toList < x.1.cps.toList) from ltCps_eq _ _]
      simpa using h
end
end XT

set_option Elab.async false
set_option linter.all false
set_option maxRecDepth 100000
set_option maxHeartbeats 4000000
namespace DL
open PySem L2 PySem.Spec PyProof.Rows
/-! ### sorted(set(texts)) -/
theorem ddS_mem : ∀ (xs acc : List Str) (x : Str), x ∈ ddS acc xs ↔ x ∈ acc ∨ x ∈ xs
  | [], acc, x => by simp [ddS]
  | y :: xs, acc, x => by
    show x ∈ (if y ∈ acc then ddS acc xs else ddS (acc ++ [y]) xs) ↔ _
    by_cases h : y ∈ acc
    · rw [if_pos h, ddS_mem xs acc x]
      constructor
      · rintro (q | q)
        · exact .inl q
        · exact .inr (List.mem_cons_of_mem _ q)
      · rintro (q | q)
        · exact .inl q
        · rcases List.mem_cons.mp q with rfl | q
          · exact .inl h
          · exact .inr q
    · rw [if_neg h, ddS_mem xs _ x]
      simp [List.mem_append, or_assoc]
section
variable {X : Cx}
def SetT (P : Program) (w : World) (a : Addr) (l : List Str) : HO := .ext fun h => XT.Txs P w h a l
theorem setT_ok {P : Program} {w : World} {H : Hp} {h : Heap} {a : Addr} {l : List Str} (R : XT.Txs P w h a l) : ObjOk P w H h a (SetT P w a l) := by
  obtain ⟨⟨D, hD, _⟩, _⟩ := id R
  exact ⟨R, ⟨_, hD⟩, fun h1 h2 q k => q.keep fun o e => k _ e⟩
def rSetT (X : Cx) : List V → Hp → VK → Prop := fun vs H Q => ∃ (l : Addr) (xs : List Str), vs = [V.ref l] ∧ (SqL X.K H l (xs.map V.str) ∨ SqT X.K H l (xs.map V.str)) ∧ xs.length + 1 < scanBound ∧
  ∀ a ls, H a = none → (∀ x, x ∈ ls ↔ x ∈ xs) → ls.length ≤ xs.length → ls.Nodup → Q (.ref a) (upd H a (SetT X.prog X.w a ls))
theorem cr_setT (hc : X.calm = true) : CallR X (.type "set") (rSetT X) := by
  intro pins z σ H vs us Q I r h
  obtain ⟨l, xs, rfl, hq, few, q1⟩ := h
  rw [Vals.ref1 r]
  have hh := I.ok.hd hc
  have hn : H z.heap.objs.size = none := I.hok.fresh (Nat.le_refl _)
  have fin : ∀ (h' : Heap) (tk : Nat), XT.Txs X.prog X.w h' z.heap.objs.size (ddS [] xs) → (∀ b o, b < z.heap.objs.size → z.heap.get? b = some o → h'.get? b = some o) →
      EP X pins σ Q (.ref z.heap.objs.size) { z with heap := h', toks := tk } := fun h' tk hS hk => by
    have le := ddS_len xs []
    exact ⟨.ref z.heap.objs.size, _, I.laid (t' := tk) (fun b o e => hk b o (Heap.lt_size e) e) (Nat.le_refl _) (setT_ok hS), rfl, q1 _ _ hn (fun x => by rw [ddS_mem]; simp) (by simpa using le) hS.one⟩
  have szS : (z.heap.push (XT.new0 X.w)).objs.size = z.heap.objs.size + 1 := Heap.size_push _ _
  rcases hq with hq | hq
  · obtain ⟨its, r, pl, hz⟩ := I.list hq
    have pl' := pl.isList
    obtain ⟨ol, hol, hcl, _⟩ := id pl'
    refine XT.set_of_textsX hh few hol hcl PySem.F.sub_list_set PySem.F.sub_list_frozenset (by decide) (fun A2 E2 Q2 hA k => ?_) fin
    have lt : l < z.heap.objs.size := Heap.lt_size hol
    have hl1 : (z.heap.push (XT.new0 X.w)).IsList l its.toArray := pl'.push _
    refine wpAny_pyIter_list (s := { z with heap := z.heap.push (XT.new0 X.w) }) hl1 ?_
    have sz : its.toArray.size = xs.length := by rw [List.size_toArray, ← r.length, List.length_map]
    have sa : StrsAre its xs := strsAre_of r
    have ne : l ≠ (z.heap.push (XT.new0 X.w)).objs.size := by rw [szS]; exact Nat.ne_of_lt (Nat.lt_succ_of_lt lt)
    refine k _ _ [(z.heap.push (XT.new0 X.w)).objs.size, l] [(z.heap.push (XT.new0 X.w)).objs.size] (fun a b => b = a) (fun i v => its.toArray[i]? = some v) (fun i z2 => z2.heap.IsListIter (z.heap.push (XT.new0 X.w)).objs.size l i ∧ z2.heap.IsList l its.toArray)
      (fun b o e => Heap.get?_push_of_some _ e) (fun A3 hA3 => ?_) ?_ (fun _ _ e => e) ?_ (fun i v hv => SS.strs_at sa i v (by simpa using hv)) ⟨⟨_, Heap.get?_push_size _ rfl, rfl, rfl⟩, hl1.push _⟩
    · rw [← sz]
      exact (Walks.list hA3 _ l ne its.toArray).toS
    · rw [szS]
      simp only [List.mem_cons, List.mem_singleton, List.not_mem_nil, or_false, not_or]
      exact ⟨Nat.ne_of_lt (Nat.lt_succ_self _), Nat.ne_of_gt lt⟩
    · intro b hb
      rw [szS] at hb
      simp only [List.mem_singleton] at hb
      rw [hb]
      exact Nat.lt_succ_self _
  · obtain ⟨its, r, pl, hz⟩ := I.tuple hq
    obtain ⟨ol, hol, hcl, _⟩ := id pl
    refine XT.set_of_textsX hh few hol hcl PySem.F.sub_tuple_set PySem.F.sub_tuple_frozenset (by decide) (fun A2 E2 Q2 hA k => ?_) fin
    have lt : l < z.heap.objs.size := Heap.lt_size hol
    have hl1 : (z.heap.push (XT.new0 X.w)).IsTuple l its.toArray := pl.push _
    refine wpAny_pyIter_tuple (s := { z with heap := z.heap.push (XT.new0 X.w) }) hl1 ?_
    have sz : its.toArray.size = xs.length := by rw [List.size_toArray, ← r.length, List.length_map]
    have sa : StrsAre its xs := strsAre_of r
    have ne : l ≠ (z.heap.push (XT.new0 X.w)).objs.size := by rw [szS]; exact Nat.ne_of_lt (Nat.lt_succ_of_lt lt)
    refine k _ _ [(z.heap.push (XT.new0 X.w)).objs.size, l] [(z.heap.push (XT.new0 X.w)).objs.size] (fun a b => b = a) (fun i v => its.toArray[i]? = some v) (fun i z2 => z2.heap.IsTupleIter (z.heap.push (XT.new0 X.w)).objs.size l i ∧ z2.heap.IsTuple l its.toArray)
      (fun b o e => Heap.get?_push_of_some _ e) (fun A3 hA3 => ?_) ?_ (fun _ _ e => e) ?_ (fun i v hv => SS.strs_at sa i v (by simpa using hv)) ⟨⟨_, Heap.get?_push_size _ rfl, rfl, rfl⟩, hl1.push _⟩
    · rw [← sz]
      exact (Walks.tuple hA3 _ l ne its.toArray).toS
    · rw [szS]
      simp only [List.mem_cons, List.mem_singleton, List.not_mem_nil, or_false, not_or]
      exact ⟨Nat.ne_of_lt (Nat.lt_succ_self _), Nat.ne_of_gt lt⟩
    · intro b hb
      rw [szS] at hb
      simp only [List.mem_singleton] at hb
      rw [hb]
      exact Nat.lt_succ_self _
def rSortT (X : Cx) : List V → Hp → VK → Prop := fun vs H Q => ∃ (a : Addr) (ls : List Str), vs = [V.ref a] ∧ H a = some (SetT X.prog X.w a ls) ∧ ls.length + 1 < scanBound ∧
  ∀ (ys : List Str) (p : Addr), ys.Perm ls → upL (ys.map fun x => x.cps.toList) → H p = none → Q (.ref p) (upd H p (.lst (ys.map V.str)))
theorem toks_vals : ∀ L : List XT.TC, Vals ((L.map (·.1)).map V.str) (L.map XT.tcv)
  | [] => .nil
  | c :: L => .cons ⟨c.2, rfl⟩ (toks_vals L)
theorem cr_sortT (hc : X.calm = true) (hu : X.A.units + 64 < cLine) : CallR X (.builtin "sorted") (rSortT X) := by
  intro pins s σ H vs us Q I r h
  obtain ⟨a, ls, rfl, ha, few, q⟩ := h
  have R : XT.Txs X.prog X.w s.heap a ls := (I.hok a _ ha).1
  rw [Vals.ref1 r]
  refine XT.sorted_txs R (I.ok.hd hc) few (by omega) fun s' p out n L k g o hp hg hout pm up => ?_
  have ll : ((L.map (·.1)).map V.str).length ≤ sizeLine := by
    rw [List.length_map, pm.length_eq]
    exact Nat.le_of_lt (Nat.lt_trans (Nat.lt_of_succ_lt few) (by decide))
  have hn : H p = none := I.hok.fresh hp
  have J : Inv X pins σ (upd H p (.lst ((L.map (·.1)).map V.str))) { s with heap := s'.heap, gens := s'.gens, drawn := s'.drawn, toks := s'.toks } :=
    I.call (ch := []) (Un.laid k hp hn) (I.hok.laid k hp ⟨ll, out.toList, n, by rw [hout]; exact toks_vals L, hg⟩) (by rw [g]; exact I.bare) (fun _ z => nomatch z)
  have e : s' = { s with heap := s'.heap, gens := s'.gens, drawn := s'.drawn, toks := s'.toks } := by
    cases s'
    cases s
    cases o
    rfl
  rw [e]
  refine ⟨.ref p, _, J, rfl, q (L.map (·.1)) p pm ?_ hn⟩
  rw [List.map_map]
  exact up
end
section
variable {X : Cx} {c : Ct} {W : WX} {e a b : Expr} {es : List Expr} {pos p p2 q : Pos} {x : Str} {ma mb : ME} {ta tb : TE} {mr : MA} {tr : TA}
def mSortT (ma : ME) : ME := fun δ F Y => ma δ (fun d => ∃ (ds : List D) (xs : List Str), seqD d = some ds ∧ ds = xs.map D.str ∧ xs.length + 1 < scanBound ∧ ∀ ys : List Str, ys.Nodup → (∀ x, x ∈ ys ↔ x ∈ xs) → upL (ys.map fun x => x.cps.toList) → F (.lst (ys.map D.str))) Y
theorem de_sortT (hc : X.calm = true) (hu : X.A.units + 64 < cLine) (hg : Gl X "sorted") (hm : X.mg "sorted" = none) (hg2 : Gl X "set") (hm2 : X.mg "set" = none) (ha : DE X c W a ta ma)
    (h2 : starEach [a] X.env = (false, eval a X.env) :: starEach [] X.env := by rfl)
    (h1 : starEach [.Call (.Name "set" p2) [a] [] q] X.env = (false, eval (.Call (.Name "set" p2) [a] [] q) X.env) :: starEach [] X.env := by rfl) :
    DE X c W (.Call (.Name "sorted" p) [.Call (.Name "set" p2) [a] [] q] [] pos) (tCB (rSortT X) (tCons (tCB (rSetT X) (tCons ta tNil)) tNil)) (mSortT ma) := by
  refine ⟨pe_callB (cr_sortT hc hu) hg hm (by decide +kernel) (pa_cons (pe_callTy (cr_setT hc) hg2 hm2 (by decide +kernel) (pa_cons ha.p pa_nil h2) (by decide) (by decide) h2 (by rfl)) pa_nil h1) (by decide) (by decide) h1 (by rfl), fun H G σ δ Fn Y Q cr rs h k x => ?_⟩
  refine ha.w H G σ δ _ _ _ cr rs h (fun v d H1 G1 g1 r1 f => ?_) x
  obtain ⟨ds, xs, e1, rfl, few, fin⟩ := f
  have sq : ∃ l, v = .ref l ∧ (SqL X.K H1 l (xs.map V.str) ∨ SqT X.K H1 l (xs.map V.str)) := by
    cases d with
    | lst ds' =>
      cases e1
      obtain ⟨l, vs, e3, g2, r2⟩ := r1.lst_of
      obtain rfl := strs_reps r2
      exact ⟨l, e3, .inl (SqL.of (g1.sub _ _ g2))⟩
    | tup ds' =>
      cases e1
      obtain ⟨l, vs, e3, g2, r2⟩ := r1.tup_of
      obtain rfl := strs_reps r2
      exact ⟨l, e3, .inr (same_t g1.sub g2)⟩
    | _ => cases e1
  obtain ⟨l, rfl, sq⟩ := sq
  refine ⟨l, xs, rfl, sq, few, fun s ls hs mem le nd => ?_⟩
  have g2 := Go.mine (o := SetT X.prog X.w s ls) g1.sub hs
  refine ⟨s, ls, rfl, upd_same, by omega, fun ys t pm up ht => ?_⟩
  have g3 := Go.laid (o := .lst (ys.map V.str)) g2.sub ht
  exact k (.ref t) (.lst (ys.map D.str)) _ _ ((g1.trans (g2.lift g1.deal)).trans (g3.lift (g2.lift g1.deal).deal)) (.lst upd_same (reps_strs _)) (fin ys (pm.nodup_iff.mpr nd) (fun x => (pm.mem_iff).trans (mem x)) up)
end
end DL

set_option Elab.async false
set_option linter.all false
set_option maxRecDepth 100000
set_option maxHeartbeats 4000000
namespace DL
open PySem L2 PySem.Spec PyProof.Rows XS
/-! ### x in y, y an instance whose class has a __contains__ -/
section
variable {X : Cx}
def rInO (X : Cx) (k : Nat) : R2 := fun x y H Q => ∃ (a C dx : Addr) (fs : List (Str × V)) (ff : FF), y = .ref a ∧ H a = some (.ins C dx fs) ∧ Own1 X.prog X.w X.K X.mg X.base C "__contains__" k 2 ff ∧
  spD X.K 2 false ff [y, x] H (fun v H' => (∃ b, v = .bl b) ∧ Q v H') (fun _ _ _ => False)
theorem op_inO {k : Nat} (hr : Room k X.A) : OpR X (compareOp .In) (rInO X k) := by
  intro pins s σ H x y v u Q I rx ry h
  obtain ⟨a, C, dx, fs, ff, rfl, ha, ⟨f, fd, ps, hs, tf, hb, FO⟩, h⟩ := h
  cases (show u = Value.ref a from ry)
  obtain ⟨mA, J, _⟩ := ins_get I.hok ha
  obtain ⟨od, J, _⟩ := J.look
  obtain ⟨m, hF⟩ := I.fr
  refine PySem.W.in_K hF I.ok.mod.kin J hs (typeIn_isFn tf) ?_
  refine wpAny_mono (run_at (E := X.xe) (A := X.A) FO hr rfl hb I (vs := [.ref a, x]) (us := [.ref a, v]) (.cons rfl (.cons rx .nil)) h) (fun w s' hq => ?_) fun _ _ z => z
  obtain ⟨z, H', I', rz, ⟨b, rfl⟩, q⟩ := hq
  cases (show w = Value.bool b from rz)
  exact wpAny_truthy_bool ⟨.bl b, H', I', rfl, q⟩
def gInO (good : Addr → Prop) (ff : Addr → FF) (d e : D) (F : D → Prop) : Prop := match e with
  | .obj C fs => good C ∧ ff C [.obj C fs, d] (fun r => (∃ b, r = .bl b) ∧ F r) (fun _ => False)
  | _ => False
theorem rd_inO {good : Addr → Prop} {k : Nat} {ff : Addr → FF} (M : OwnM X.prog X.w X.K X.mg X.base good "__contains__" k 2 ff) : RD X.K (rInO X k) (gInO good ff) := fun H G x y d e F Q s rx ry h q => by
  unfold gInO at h
  split at h
  · rename_i C fs
    obtain ⟨a, dx, fv, rfl, g1, r2⟩ := ry.obj_of
    refine ⟨a, C, dx, fv, ff C, rfl, s _ _ g1, M.ok C h.1, ?_⟩
    refine ⟨G, [.obj C fs, d], none, [.ref a, x], _, _, rfl, ⟨rfl, rfl⟩, s, .no, .cons ry (.cons rx .nil), h.2, fun v d H' G' g r f => ?_, fun _ _ _ _ _ _ _ z => z.elim⟩
    obtain ⟨⟨z, rfl⟩, f⟩ := f
    exact ⟨⟨z, r.bl_of⟩, q _ _ H' G' g r f⟩
  · exact h.elim
end
/-! ### o.m(e, ..), m an own method that may raise; o.f, f a property -/
structure Met1 (P : Program) (w : World) (K : Fg) (mg : Str → Option Value) (base : Heap) (C : Addr) (m : Str) (k n : Nat) (ff : FF) : Prop where
  cl : Cls K C
  ok : ∃ (f : Addr) (fd : FuncData) (ps : List Str), Meth K C m f ∧ Binds K fd ps [] ∧ FnOk P w K mg base (L2.CX P w) k f fd ps (spD K (n + 1) false ff)
structure Prp1 (P : Program) (w : World) (K : Fg) (mg : Str → Option Value) (base : Heap) (C : Addr) (m : Str) (k : Nat) (ff : FF) : Prop where
  cl : Cls K C
  ok : ∃ (p f : Addr) (fd : FuncData) (ps : List Str), PropOf K C m p f ∧ Binds K fd ps [] ∧ FnOk P w K mg base (L2.CX P w) k f fd ps (spD K 1 false ff)
def tMethE (C : Addr) (m : Str) (sp : Sp) (E : L2.St → XK) (ta : TE) (t : TA) : TE := fun σ H Q => ta σ H fun x H1 => ∃ a dx fs, x = .ref a ∧ H1 a = some (.ins C dx fs) ∧ fs.lookup m = none ∧ t σ H1 fun vs H2 => sp (x :: vs) H2 Q (E σ)
section
variable {X : Cx} {c : Ct} {W : WX} {pos apos : Pos} {e o : Expr} {es : List Expr} {mr : MA} {tr : TA} {ma : ME} {ta : TE} {m : Str} {C : Addr} {k n : Nat}
theorem pe_methE {f : Addr} {fd : FuncData} {ps : List Str} {sp : Sp} {E : L2.St → XK} {pl : Sem Bool} (he : PE X o ta) (cl : Cls X.K C) (hm : Meth X.K C m f) (F : FnOk X.prog X.w X.K X.mg X.base (L2.CX X.prog X.w) k f fd ps sp) (hr : Room k X.A) (hb : Binds X.K fd ps []) (hx : ∀ σ, PassesAt (L2.CX X.prog X.w) X σ (E σ)) (ha : PA X (e :: es) tr)
    (hst : starEach (e :: es) X.env = (false, eval e X.env) :: starEach es X.env) (hpl : (backTo pos (starEach es X.env)).any (·.1) = false)
    (ht : eval (.Call (.Attribute o m apos) (e :: es) [] pos) X.env = (do
      let ov ← eval o X.env
      standAt apos.atName
      let (f, first) ← holding [ov] (getMethod ov m pl)
      callWith pos f first (backTo pos (starEach (e :: es) X.env)) (backToKw pos (keywordEach [] X.env)))) :
    PE X (.Call (.Attribute o m apos) (e :: es) [] pos) (tMethE C m sp E ta tr) := by
  refine ⟨fun pins s σ H Q I h => ?_⟩
  refine PySem.W.methodCall_KW (pl := pl) (thn (he.run pins s σ H _ I h) fun u s1 ⟨x, H1, I1, rx, a, dx, fs, ex, ea, l, q⟩ => ?_) ht
  subst ex
  have rx : u = Value.ref a := rx
  subst rx
  refine getmeth_ok I1 ea cl hm l ?_
  refine PySem.W.callWith_K (first := [.ref a]) (h₀ := X.base) I.ok.mod.kin hm.kp (thn (ha.run pos pins s1 σ H1 _ I1 q) fun us s2 ⟨vs, H2, I2, r, q2⟩ => ⟨I2.kIn, ?_⟩) hst hpl
  exact run_fnSD (us := .ref a :: us) (vs := .ref a :: vs) F hr hb .nil (hx σ) I2 (.cons rfl r) (by rw [List.append_nil]; exact q2)
def mMeth (C : Addr) (m : Str) (n : Nat) (ff : FF) (ma : ME) (mr : MA) : ME := fun δ F Y => ma δ (fun d => match d with
  | .obj C' fs => C' = C ∧ fs.lookup m = none ∧ mr δ (fun ds => ds.length = n ∧ ff (.obj C fs :: ds) F Y) Y
  | _ => False) Y
theorem de_meth {pl : Sem Bool} {ff : FF} (M : Met1 X.prog X.w X.K X.mg X.base C m k n ff) (hr : Room k X.A) (tk : Takes X W) (hc : DE X c W o ta ma) (ha : DA X c W (e :: es) tr mr)
    (he : starEach (e :: es) X.env = (false, eval e X.env) :: starEach es X.env := by rfl) (hpl : (backTo pos (starEach es X.env)).any (·.1) = false := by rfl)
    (hev : eval (.Call (.Attribute o m apos) (e :: es) [] pos) X.env = (do
      let ov ← eval o X.env
      standAt apos.atName
      let (f, first) ← holding [ov] (getMethod ov m pl)
      callWith pos f first (backTo pos (starEach (e :: es) X.env)) (backToKw pos (keywordEach [] X.env))) := by rfl) :
    DE X c W (.Call (.Attribute o m apos) (e :: es) [] pos) (tMethE C m (spD X.K (n + 1) false ff) (fun σ cls d H => W cls d σ H) ta tr) (mMeth C m n ff ma mr) := by
  obtain ⟨f, fd, ps, hm, hb, F⟩ := M.ok
  refine ⟨pe_methE hc.p M.cl hm F hr hb (passAt tk) ha.p he hpl hev, fun H G σ δ F Y Q cr rs h q xx => ?_⟩
  refine hc.w H G σ δ _ _ _ cr rs h (fun v d H1 G1 g1 r1 h1 => ?_) xx
  split at h1
  · rename_i C' fs
    obtain ⟨rfl, hl, h1⟩ := h1
    obtain ⟨a, dx, fv, rfl, e1, r2⟩ := r1.obj_of
    refine ⟨a, dx, fv, rfl, g1.sub _ _ e1, r2.none_ hl, ?_⟩
    refine ha.w H1 G1 σ δ _ _ _ (cr.step g1) (rs.step cr g1) h1 (fun vs ds H2 G2 g2 rv h2 => ?_) (xx.step g1)
    refine ⟨G2, .obj C' fs :: ds, none, .ref a :: vs, F, Y, by rw [List.length_cons, h2.1], ⟨rfl, rfl⟩, g2.sub, .no, .cons (r1.mono g2.grow) rv, h2.2, fun v d H3 G3 g3 r3 f3 => q v d H3 G3 ((g1.trans g2).trans (g3.lift g2.deal)) r3 f3, fun C' fs d H3 G3 g3 e3 f3 => xx C' fs d H3 G3 ((g1.trans g2).trans (g3.lift g2.deal)) e3 f3⟩
  · exact h1.elim
def mProp (C : Addr) (ff : FF) (ma : ME) : ME := fun δ F Y => ma δ (fun d => match d with
  | .obj C' fs => C' = C ∧ ff [.obj C fs] F (fun _ => False)
  | _ => False) Y
theorem de_prop {ff : FF} (M : Prp1 X.prog X.w X.K X.mg X.base C m k ff) (hr : Room (k + 1) X.A) (ha : DE X c W e ta ma) (hb : attributeBase e m X.env (eval e X.env) = eval e X.env := by rfl) :
    DE X c W (.Attribute e m pos) (tProp C (spD X.K 1 false ff) [] (fun _ _ _ => False) ta) (mProp C ff ma) := by
  obtain ⟨p, f, fd, ps, hp, hbd, F⟩ := M.ok
  refine ⟨pe_prop ha.p M.cl hp F hr hbd .nil passL hb, fun H G σ δ F Y Q cr rs h q xx => ?_⟩
  refine ha.w H G σ δ _ _ _ cr rs h (fun v d H1 G1 g1 r1 h1 => ?_) xx
  split at h1
  · rename_i C' fs
    obtain ⟨rfl, h1⟩ := h1
    obtain ⟨a, dx, fv, rfl, e1, r2⟩ := r1.obj_of
    refine ⟨a, dx, fv, rfl, g1.sub _ _ e1, ?_⟩
    exact ⟨G1, [.obj C' fs], none, [.ref a], F, _, rfl, ⟨rfl, rfl⟩, g1.sub, .no, .cons r1 .nil, h1, fun v d H3 G3 g3 r3 f3 => q v d H3 G3 (g1.trans (g3.lift g1.deal)) r3 f3, fun _ _ _ _ _ _ _ z => z.elim⟩
  · exact h1.elim
end
end DL

set_option Elab.async false
set_option linter.all false
set_option maxRecDepth 100000
set_option maxHeartbeats 4000000
namespace DL
open PySem L2 PySem.Spec PyProof.Rows
/-! ### t * n for a tuple and any number from 0 on -/
theorem tuple_mul_one (l : Addr) (items : Array Value) (n : Nat) (dd : Option Addr) (sl : Array (Option Value)) (u : Tok) :
    Meets (Builtin.«tuple.__mul__» ⟨[.ref l, .int 1 u], []⟩) (fun _ R s => s.heap.get? l = some { cls := .type "tuple", dict := dd, data := .seq items n, slots := sl } ∧ R (.ok (.ret (Value.ref l))) s) :=
  .of_wp fun prog w A R s h => by
    obtain ⟨hp, g, d, tk, os⟩ := s
    obtain ⟨hl, h⟩ := h
    have f1 := AutoSeq1.idx_int
    wp_walk using wpAny_loadPart' hl
    repeat (first
      | (refine wpAny_ite_false (by decide) ?_; wp_walk using wpAny_loadPart' hl)
      | (refine wpAny_ite_true (by simp) ?_; wp_walk using wpAny_loadPart' hl))
    exact ⟨_, rfl, h⟩
theorem tuple_mul_none (l : Addr) (items : Array Value) (n : Nat) (dd : Option Addr) (sl : Array (Option Value)) (u : Tok) (ne : items.isEmpty = false) :
    Meets (Builtin.«tuple.__mul__» ⟨[.ref l, .int 0 u], []⟩) (fun _ R s => s.heap.get? l = some { cls := .type "tuple", dict := dd, data := .seq items n, slots := sl } ∧
      R (.ok (.ret (Value.ref s.heap.objs.size))) { s with heap := s.heap.push { cls := Value.type "tuple", data := Data.seq #[] }, toks := s.toks }) :=
  .of_wp fun prog w A R s h => by
    obtain ⟨hp, g, d, tk, os⟩ := s
    obtain ⟨hl, h⟩ := h
    have f1 := AutoSeq1.idx_int
    wp_walk using wpAny_loadPart' hl
    exact ⟨_, rfl, h⟩
section
variable {X : Cx}
def rRepA (K : PySem.W.Frag) : R2 := fun x y H Q => ∃ l k xs, x = .ref l ∧ y = .int k ∧ SqT K H l xs ∧ xs ≠ [] ∧ 0 ≤ k ∧ k ≤ 1000 ∧ xs.length ≤ 1000 ∧
  (k = 1 → Q (.ref l) H) ∧ (k ≠ 1 → ∀ p, H p = none → Q (.ref p) (upd H p (.tup (List.replicate k.toNat xs).flatten)))
theorem op_repA : OpR X (binaryOp .Mult) (rRepA X.K) := by
  intro pins s σ H x y v u Q I rx ry h
  obtain ⟨l, k, xs, rfl, rfl, hT, hne, h1, h2, hz, q1, q2⟩ := h
  by_cases k2 : 2 ≤ k
  · exact op_repT pins s σ H _ _ v u Q I rx ry ⟨l, k, xs, rfl, rfl, hT, hne, k2, h2, hz, q2 (by omega)⟩
  · cases rx
    obtain ⟨t, rfl⟩ := (show ∃ t, u = Value.int k t from ry)
    obtain ⟨its, r, ⟨⟨cls, dd, data, sl⟩, ho, hc, n, hd⟩, hs⟩ := I.tuple hT
    simp only at hc hd
    subst hc hd
    have hle : its.length = xs.length := r.length.symm
    have hi : its.toArray.isEmpty = false := by
      cases its with
      | nil => exact absurd (List.eq_nil_of_length_eq_zero hle.symm) hne
      | cons a b => rfl
    have ty : s.TypeIs (.ref l) "tuple" := ⟨_, ho, rfl⟩
    rcases (show k = 1 ∨ k = 0 by omega) with rfl | rfl
    · refine wpAny_binaryOp_repeat_ref (T := "tuple") (U := "int") (by decide) ty (fun s' => typeIs_int s' 1 t) noFill_tuple_mul F.fills_int_mul F.slot_int_rmul repeat_tuple F.slot_int_index.lookup ?_
      refine call_meets F.slot_int_rmul (typeIs_int s 1 t) F.entry_int_rmul (F.args_int_rmul_2 _ _) (int_rmul_tuple 1 t l its.toArray n dd sl) ⟨ho, rfl, ty, ?_⟩
      exact call_meets F.slot_tuple_mul ty F.entry_tuple_mul (F.args_tuple_mul_2 _ _) (tuple_mul_one l its.toArray n dd sl t) ⟨ho, .ref l, H, I, rfl, q1 rfl⟩
    · refine wpAny_binaryOp_repeat_ref (T := "tuple") (U := "int") (by decide) ty (fun s' => typeIs_int s' 0 t) noFill_tuple_mul F.fills_int_mul F.slot_int_rmul repeat_tuple F.slot_int_index.lookup ?_
      refine call_meets F.slot_int_rmul (typeIs_int s 0 t) F.entry_int_rmul (F.args_int_rmul_2 _ _) (int_rmul_tuple 0 t l its.toArray n dd sl) ⟨ho, rfl, ty, ?_⟩
      refine call_meets F.slot_tuple_mul ty F.entry_tuple_mul (F.args_tuple_mul_2 _ _) (tuple_mul_none l its.toArray n dd sl t hi) ⟨ho, ?_⟩
      exact ⟨.ref s.heap.objs.size, _, I.laid (t' := s.toks) (o := .tup []) (fun b ob q => Heap.get?_push_of_some _ q) (Nat.le_refl _) ⟨Nat.zero_le _, [], .nil, IsTup.new _ _⟩, rfl, q2 (by decide) _ (I.hok.fresh (Nat.le_refl _))⟩
def gRepA (d e : D) (F : D → Prop) : Prop := ∃ (ds : List D) (k : Int), d = .tup ds ∧ e = .int k ∧ ds ≠ [] ∧ 0 ≤ k ∧ k ≤ 1000 ∧ ds.length ≤ 1000 ∧ F (.tup (List.replicate k.toNat ds).flatten)
theorem RepL.ne_ {K : Fg} {G : Hp} {xs : List V} {ds : List D} (r : RepL K G xs ds) : ds = [] ↔ xs = [] := by
  cases r with
  | nil => simp
  | cons _ _ => simp
theorem rd_repA {K : Fg} : RD K (rRepA K) gRepA := fun H G x y d e F Q s rx ry h q => by
  obtain ⟨ds, k, rfl, rfl, ne, h0, h1, hz, f⟩ := h
  obtain ⟨a, xs, rfl, g1, r1⟩ := rx.tup_of
  refine ⟨a, k, xs, rfl, ry.int_of, same_t s g1, fun z => ne (r1.ne_.mpr z), h0, h1, by rw [r1.length]; exact hz, fun e1 => ?_, fun _ p hp => ?_⟩
  · subst e1
    refine q _ _ H G (Go.refl s .no) rx ?_
    have e : (List.replicate (1 : Int).toNat ds).flatten = ds := by
      show ds ++ [] = ds
      rw [List.append_nil]
    rw [e] at f
    exact f
  · have g2 := Go.laid (o := .tup (List.replicate k.toNat xs).flatten) s hp
    exact q _ _ _ _ g2 (.tup (SqT.of upd_same) ((r1.rep _).mono g2.grow)) f
/-! ### t + u, t[a:b] for tuples of any kind -/
def gCatA (d e : D) (F : D → Prop) : Prop := ∃ as bs : List D, d = .tup as ∧ e = .tup bs ∧ as.length + bs.length ≤ sizeLine ∧ F (.tup (as ++ bs))
theorem rd_catA {K : Fg} : RD K (L2.rCatA K) gCatA := fun H G x y d e F Q s rx ry h q => by
  obtain ⟨as, bs, rfl, rfl, hz, f⟩ := h
  obtain ⟨a, xs, rfl, g1, r1⟩ := rx.tup_of
  obtain ⟨b, ys, rfl, g2, r2⟩ := ry.tup_of
  refine ⟨a, b, xs, ys, rfl, rfl, same_t s g1, same_t s g2, by rw [r1.length, r2.length]; exact hz, fun e => ?_, fun _ e => ?_, fun _ _ p hp => ?_⟩
  · have e1 := r1.ne_.mpr e
    subst e1
    exact q _ _ H G (Go.refl s .no) ry f
  · have e1 := r2.ne_.mpr e
    subst e1
    rw [List.append_nil] at f
    exact q _ _ H G (Go.refl s .no) rx f
  · have g3 := Go.laid (o := .tup (xs ++ ys)) s hp
    exact q _ _ _ _ g3 (.tup (SqT.of upd_same) ((r1.append r2).mono g3.grow)) f
end
section
variable {X : Cx} {c : Ct} {W : WX} {a : Expr} {ma : ME} {ta : TE} {lo hi : Option Expr} {tl th : TO} {ml mh : MO} {p2 pos : Pos}
def mSlT (ma : ME) (ml mh : MO) : ME := fun δ F X => ma δ (fun d => ml δ (fun lo => mh δ (fun hi => ∃ ds, d = .tup ds ∧ F (.tup (cutD ds lo hi))) X) X) X
theorem cut_whole {α : Type} {ds : List α} {lo hi : Option Int} (h : HT.sIx ds.length 0 lo = 0 ∧ HT.sIx ds.length ds.length hi = ds.length) : cutD ds lo hi = ds := by
  unfold cutD
  rw [h.1, h.2, List.drop_zero, Nat.sub_zero, List.take_length]
theorem de_slT (ha : DE X c W a ta ma) (hl : DO X c W lo tl ml) (hh : DO X c W hi th mh) : DE X c W (.Subscript a (.Slice lo hi none p2) pos) (tSl (L2.rSlA X.K) ta tl th) (mSlT ma ml mh) := by
  refine ⟨pe_slice sl_tupA ha.p hl.p hh.p, fun H G σ δ F Y Q cr rs hm q x => ?_⟩
  refine ha.w H G σ δ _ _ _ cr rs hm (fun v d H1 G1 g1 r1 h1 => ?_) x
  refine hl.w H1 G1 σ δ _ _ _ (cr.step g1) (rs.step cr g1) h1 (fun o H2 G2 g2 h2 => ?_) (x.step g1)
  have g12 := g1.trans g2
  refine hh.w H2 G2 σ δ _ _ _ (cr.step g12) (rs.step cr g12) h2 (fun o2 H3 G3 g3 h3 => ?_) (x.step g12)
  obtain ⟨ds, rfl, f⟩ := h3
  have r3 := (r1.mono g2.grow).mono g3.grow
  have g4 := g12.trans g3
  obtain ⟨b, xs, rfl, e1, r4⟩ := r3.tup_of
  refine ⟨b, xs, rfl, same_t g3.sub e1, fun hw => ?_, fun hw p hp => ?_⟩
  · rw [r4.length] at hw
    rw [cut_whole hw] at f
    exact q _ _ H3 G3 g4 r3 f
  · have g5 := Go.laid (o := .tup (cutV xs o o2)) g3.sub hp
    exact q _ _ _ _ (g4.trans (g5.lift g3.deal)) (.tup (SqT.of upd_same) ((r4.cut o o2).mono g5.grow)) f
end
/-! ### enumerate(xs) of a list or a tuple -/
section
open XS
variable {X : Cx} {c : Ct} {W : WX} {e : Expr} {ta : TE} {ma : ME} {p pos tpos : Pos} {elts : List Expr} {kk : Nat}
def iEnumA (K : PySem.W.Frag) (ta : TA) : TI := fun σ H R => ta σ H fun vs H1 => (∃ a xs, vs = [.ref a] ∧ SqL K H1 a xs ∧ R (Ite K a) H1) ∨ ∃ a xs, vs = [.ref a] ∧ SqT K H1 a xs ∧ R (Itet K a) H1
theorem pi_enumA {ta : TA} (hg : Gl X "enumerate") (hm : X.mg "enumerate" = none) (ha : PA X [e] ta) (hs : starEach [e] X.env = [(false, eval e X.env)] := by rfl) :
    PI X (.Tuple elts kk tpos) (.Call (.Name "enumerate" p) [e] [] pos) (iEnumA X.K ta) := by
  refine ⟨fun pins s σ H R I h => Call_ (ld_blt I hg hm boot_enumerate (PyProof.Rows.callWith_type1 (thn (ha.run pos pins s σ H _ I h) fun us s1 ⟨vs, H1, I1, r1, hq⟩ => ?_) hs rfl))⟩
  have new : ∀ b ∈ [s1.heap.objs.size + 1, s1.heap.objs.size], s1.heap.objs.size ≤ b := fun b m => by
    rcases (show b = s1.heap.objs.size + 1 ∨ b = s1.heap.objs.size by simpa using m) with rfl | rfl
    · exact Nat.le_succ _
    · exact Nat.le_refl _
  rcases hq with ⟨a, xs, ex, hq, q⟩ | ⟨a, xs, ex, hq, q⟩
  · subst ex
    obtain rfl := Vals.ref1 r1
    obtain ⟨its, rv, pl, hz⟩ := I1.list hq
    refine call_enumerate_list pl.isList fun h' he hit hsz hk => wpAny_pyIter_enum he ?_
    exact ⟨s1.heap.objs.size + 1, [s1.heap.objs.size + 1, s1.heap.objs.size], _, _, H1, rfl, I1.kept (t' := s1.toks) hk, turn_enum a (s1.heap.objs.size + 1) s1.heap.objs.size, ⟨⟨.none, he⟩, hit, Nat.succ_ne_self _⟩, fun b m => I1.fpOk (new b m) (I1.hok.fresh (new b m)), q⟩
  · subst ex
    obtain rfl := Vals.ref1 r1
    obtain ⟨its, _, pl, _⟩ := I1.tuple hq
    refine call_enumT (begins_tuple a its.toArray) pl fun h' he at_ kept => wpAny_pyIter_enum he ?_
    exact ⟨s1.heap.objs.size + 1, [s1.heap.objs.size + 1, s1.heap.objs.size], _, _, H1, rfl, I1.kept (t' := s1.toks) kept, turn_enumT a (s1.heap.objs.size + 1) s1.heap.objs.size, ⟨⟨.none, he⟩, ⟨_, at_, rfl, rfl⟩, Nat.succ_ne_self _⟩, fun b m => I1.fpOk (new b m) (I1.hok.fresh (new b m)), q⟩
def miEnumA (ma : ME) : MA := fun δ F X => ma δ (fun d => ∃ ds, seqD d = some ds ∧ F (enumD 0 ds)) X
theorem di_enumA (hg : Gl X "enumerate") (hm : X.mg "enumerate" = none) (ha : DE X c W e ta ma) (hs : starEach [e] X.env = [(false, eval e X.env)] := by rfl) :
    DI X c W (.Tuple elts kk tpos) (.Call (.Name "enumerate" p) [e] [] pos) (iEnumA X.K (tCons ta tNil)) (miEnumA ma) := by
  refine ⟨pi_enumA hg hm (pa_cons ha.p pa_nil hs) hs, fun H G σ δ F Y R cr rs h q x => ?_⟩
  refine ha.w H G σ δ _ _ _ cr rs h (fun v d H1 G1 g1 r1 h1 => ?_) x
  obtain ⟨ds, e1, f⟩ := h1
  cases d with
  | lst l =>
    cases e1
    obtain ⟨a, xs, rfl, g2, r2⟩ := r1.lst_of
    exact .inl ⟨a, xs, rfl, SqL.of (g1.sub _ _ g2), q _ _ H1 G1 g1 (walk_enum g2 r2) f⟩
  | tup l =>
    cases e1
    obtain ⟨a, xs, rfl, g2, r2⟩ := r1.tup_of
    exact .inr ⟨a, xs, rfl, same_t g1.sub g2, q _ _ H1 G1 g1 (walk_enumT g2 r2) f⟩
  | _ => cases e1
end
end DL

set_option Elab.async false
set_option linter.all false
set_option maxRecDepth 100000
set_option maxHeartbeats 4000000
namespace XB
open PySem PySem.HandSPX Builtin Builtin.ObjectAttr PyProof.Rows
/-! own exceptions over a built-in class that may take its __new__ from the one above it (KeyError from LookupError) -/
structure Over {B mk ini : String} {up : List Value} (F : ExcBaseFacts B mk ini up) (tl : List Value) : Prop where
  has : tl.contains (.type B) = true
  noA : tl.contains (.type "AttributeError") = false
  noN : tl.contains (.type "NameError") = false
  obj : tl.contains (.type "object") = true
  exc : tl.contains (.type "BaseException") = true
  pas : ∀ v : Value, refuseLoop v "__setattr__" tl = pure ()
abbrev keyTail : List Value := [.type "KeyError", .type "LookupError", .type "Exception", .type "BaseException", .type "object"]
abbrev idxTail : List Value := [.type "IndexError", .type "LookupError", .type "Exception", .type "BaseException", .type "object"]
theorem over_key : Over PySem.F.excBase_LookupError keyTail := ⟨by decide +kernel, by decide +kernel, by decide +kernel, by decide +kernel, by decide +kernel, fun _ => by kernel_rfl⟩
theorem over_idx : Over PySem.F.excBase_IndexError idxTail := ⟨by decide +kernel, by decide +kernel, by decide +kernel, by decide +kernel, by decide +kernel, fun _ => by kernel_rfl⟩
section
variable {pg : Program} {wo : World} {Ar : Around} {Er : Value → Shared → Prop} {Rs : Result → Shared → Prop} {hp : Heap} {gn : Array GenState} {dr : Drawn} {tk : Nat} {ost : OsState}
variable {nm qn : Str} {C N fI : Addr} {bs tl up : List Value} {hd : Bool} {sn : List Str} {sb : List Value} {ab : Bool} {cl : Option Bool} {dd : Option Addr} {k0 k1 k2 k3 k5 : Option Value} {B mk ini : String} {F : ExcBaseFacts B mk ini up} {as : List Value}
theorem check_mk (O : Over F tl) {Q : Unit → Shared → Prop} (hC : hp.get? C = some (excClassObj nm qn C N bs tl hd sn sb ab cl dd k0 k1 k2 k3 k5 mk)) (q : Q () ⟨hp, gn, dr, tk, ost⟩) :
    wpAny (model pg wo) Ar (checkBuiltinCall mk ⟨.ref C :: as, []⟩) Q Er ⟨hp, gn, dr, tk, ost⟩ := by
  have inB : (Value.ref C :: tl).contains (.type B) = true := by
    rw [List.contains_cons, O.has]
    exact Bool.or_true _
  have st := F.noStar
  simp only [checkBuiltinCall, F.newSplit, F.newRow, F.newKind]
  repeat (first | (refine wpAny_isSubtype_exc hC ?_; rw [inB]) | refine wpAny_loadPart_at hC ?_ | refine wpAny_madeBy_exc hC ?_ | refine wpAny_staticBase_exc hC ?_ | simp only [bne_self_eq_false, if_false, Bool.false_eq_true] | wp_step)
  exact q
theorem mk_own (O : Over F tl) (hC : hp.get? C = some (excClassObj nm qn C N bs tl hd sn sb ab cl dd k0 k1 k2 k3 k5 mk)) (hz : as.length ≤ sizeLine)
    (q : Rs (.ok (.ret (.ref (hp.objs.size + 1)))) ⟨(hp.push (W.kdv_tup as)).push (excO C hp.objs.size), gn, dr, tk, ost⟩) : codeAny (model pg wo) Ar (.builtin mk ⟨.ref C :: as, []⟩) Rs ⟨hp, gn, dr, tk, ost⟩ := by
  have en := F.ends
  have inB : (Value.ref C :: tl).contains (.type B) = true := by
    rw [List.contains_cons, O.has]
    exact Bool.or_true _
  have inA : (Value.ref C :: tl).contains (.type "AttributeError") = false := by
    rw [List.contains_cons, O.noA]
    rfl
  have inN : (Value.ref C :: tl).contains (.type "NameError") = false := by
    rw [List.contains_cons, O.noN]
    rfl
  refine codeAny_builtinAt F.entry ?_
  unfold Builtin.«BaseException.__new__»
  refine PySem.wpAt_bind ?_
  show PySem.wpAt _ _ _ (stack >>= _) _ _ _
  refine PySem.wpAt_bind (PySem.wpAt_stack fun _ _ => PySem.wpAt_of_wpAny ?_)
  wp_walk
  refine PySem.wpAt_of_wpAny ?_
  rw [F.owner]
  repeat (first | with_reducible refine wpAny_loadPart_at hC ?_ | with_reducible refine wpAny_madeHere_exc F.canon hC ?_ | (with_reducible refine wpAny_isSubtype_exc hC ?_; first | rw [inA] | rw [inB] | rw [inN]) | wp_step)
  show Rs _ _
  rw [Heap.size_push]
  exact q
theorem type_own (O : Over F tl) {Q : Fin → Shared → Prop} (hC : hp.get? C = some (excClassObj nm qn C N bs tl hd sn sb ab cl dd k0 k1 k2 k3 k5 mk)) (hi : W.Looks (model pg wo) hp (typeLookup (.ref C) "__init__") (some (.ref fI)))
    (hb : ∀ me, W.Looks (model pg wo) hp (bindSpecial (.ref fI) me) (.ref fI, [me])) (hz : as.length ≤ sizeLine)
    (q : codeAny (model pg wo) Ar (.call (.ref fI) ⟨.ref (hp.objs.size + 1) :: as, []⟩) (fun r s' => match r with
      | .ok (.ret v) => v = .none ∧ Q (.done (.ret (.ref (hp.objs.size + 1)))) s'
      | .ok _ => False
      | .error e => Er e s') ⟨(hp.push (W.kdv_tup as)).push (excO C hp.objs.size), gn, dr, tk, ost⟩) :
    wpAny (model pg wo) Ar (Builtin.«type.__call__» ⟨.ref C :: as, []⟩) Q Er ⟨hp, gn, dr, tk, ost⟩ := by
  repeat (first | with_reducible refine wpAny_madeBy_exc hC ?_ | with_reducible refine wpAny_loadPart_at hC ?_ | wp_step)
  refine codeAny_call_builtin_code (Code.quiet_builtin _ F.quiet) (check_mk O hC (mk_own O hC hz ?_))
  show wpAny _ _ _ _ _ _
  have kp : ∀ b o, hp.get? b = some o → ((hp.push (W.kdv_tup as)).push (excO C hp.objs.size)).get? b = some o := fun b o z => Heap.get?_push_of_some _ (Heap.get?_push_of_some _ z)
  have hC2 := kp _ _ hC
  have at_ : ((hp.push (W.kdv_tup as)).push (excO C hp.objs.size)).get? (hp.objs.size + 1) = some (excO C hp.objs.size) := by heap_get
  have inC : (Value.ref C :: tl).contains (.ref C) = true := by simp
  have hi2 := hi.keeps kp
  have hb2 := (hb (.ref (hp.objs.size + 1))).keeps kp
  unfold isInstance
  repeat (first | with_reducible refine wpAny_loadPart_at at_ ?_ | (with_reducible refine wpAny_isSubtype_exc hC2 ?_; rw [inC]) | wp_step)
  show wpAny _ _ (typeLookup (.ref C) _) _ _ _
  refine hi2.at (wpAny_holding (wpAny_bind (hb2.at (wpAny_bind (wpAny_call (codeAny_mono q fun r s' z => ?_))))))
  rcases r with e | (v | _ | _ | _)
  all_goals first | exact z | exact z.elim | skip
  obtain ⟨rfl, z⟩ := z
  first | exact wpAny_pure (wpAny_pure z) | (wp_walk; exact z)
theorem call_over (O : Over F tl) (hC : hp.get? C = some (excClassObj nm qn C N bs tl hd sn sb ab cl dd k0 k1 k2 k3 k5 mk)) (hi : W.Looks (model pg wo) hp (typeLookup (.ref C) "__init__") (some (.ref fI)))
    (hb : ∀ me, W.Looks (model pg wo) hp (bindSpecial (.ref fI) me) (.ref fI, [me])) (hz : as.length ≤ sizeLine)
    (q : codeAny (model pg wo) (Ar.under (.builtin "type.__call__" ⟨.ref C :: as, []⟩)) (.call (.ref fI) ⟨.ref (hp.objs.size + 1) :: as, []⟩) (W.InitBack (hp.objs.size + 1) Rs) ⟨(hp.push (W.kdv_tup as)).push (excO C hp.objs.size), gn, dr, tk, ost⟩) :
    codeAny (model pg wo) Ar (.call (.ref C) ⟨as, []⟩) Rs ⟨hp, gn, dr, tk, ost⟩ := by
  have t1 := tc_lookup
  have t2 := tc_bind (.ref C)
  have ty : (⟨hp, gn, dr, tk, ost⟩ : Shared).TypeIs (.ref C) "type" := ⟨_, hC, rfl⟩
  refine codeAny_of_tree ?_
  show wpAny _ _ (callAny (.ref C) _) _ _ _
  repeat (any_goals (first | assumption | wp_step | with_reducible refine wpAny_loadPart_at hC ?_))
  refine ⟨rfl, codeAny_call_builtin_at (Code.quiet_builtin _ (by decide +kernel)) entry_typeCall (wpAny_check_type_call_sub hC (type_own O hC hi hb hz ?_))⟩
  refine codeAny_mono q fun r s' z => ?_
  rcases r with e | (v | _ | _ | _) <;> exact z
/-- the first field -/
theorem first_fld (O : Over F tl) {K : W.Frag} {name : Str} {u : Tok} {v : Value} {x : Addr} {fv : Array Value} {cd : ClassData} (X : K.In hp) (hx : hp.get? x = some { cls := .ref C, data := .fields fv }) (hcd : W.clsIn K C = some cd) (hm : cd.mro = .ref C :: tl) (hh : cd.hasDict = true)
    (ha : W.findIn K (.ref C) name = some none)
    (q : ∀ h' t' dx, (∀ b o, b ≠ x → hp.get? b = some o → h'.get? b = some o) → hp.objs.size ≤ dx → dx ≠ x → h'.get? x = some { cls := .ref C, dict := some dx, data := .fields fv } → h'.Ns1 dx (fun y => if y = name then some v else none) → Rs (.ok (.ret .none)) ⟨h', gn, dr, t', ost⟩) :
    codeAny (model pg wo) Ar (.call (.builtin "object.__setattr__") ⟨[.ref x, .str name u, v], []⟩) Rs ⟨hp, gn, dr, tk, ost⟩ := by
  have I : W.InstAt hp x { cls := .ref C, data := .fields fv } C none := ⟨hx, rfl, rfl, trivial⟩
  have inO : cd.mro.contains (.type "object") = true := by
    rw [hm, List.contains_cons, O.obj]
    exact Bool.or_true _
  have pas : refuseLoop (.ref x) "__setattr__" cd.mro = pure () := by
    rw [hm, refuseLoop_ref]
    exact O.pas _
  have nx : x ≠ hp.objs.size := Nat.ne_of_lt (Heap.lt_size hx)
  have isO : W.Looks (model pg wo) hp (isInstance (.ref x) (.type "object")) true := I.type.andThen (W.looks_mroIn X (by
    unfold W.mroIn
    rw [hcd, Option.bind_some, if_neg (by rw [hm]; exact Bool.false_ne_true), inO]))
  have S := PySem.F.store_object
  refine codeAny_call_builtin S.slot.plain S.entry (@W.check_slot (model pg wo) _ _ ⟨hp, gn, dr, tk, ost⟩ "object.__setattr__" "object" "__setattr__" (.ref x) [.str name u, v] [] _ S.kind S.split isO (S.args (.ref x) (.str name u) v) ?_)
  have cls := W.looks_clsIn (M := model pg wo) X hcd
  rw [W.osa_eq, refuse_eq]
  refine wpAny_bind (wpAny_bind (I.type.at (wpAny_bind ((cls.andThen (f := fun cd => pure cd.mro) .now).at ?_))))
  rw [pas]
  refine wpAny_pure (wpAny_bind (I.type.at (wpAny_bind ((W.looks_findIn X ha).at (wpAny_bind ((show W.Looks (model pg wo) hp (storeTaker? none) none from .now).at ?_))))))
  show wpAny _ _ (storeInOwnDict (.ref x) (.ref C) (.str name u) name v false) _ _ _
  obtain ⟨nm', bs', mro', ns', qn', hd', sn', sb', ab', col', del'⟩ := cd
  dsimp only at hh
  subst hh
  unfold storeInOwnDict ownDictForStores
  repeat (first | with_reducible refine store_in_new ?_ ?_ | with_reducible refine cls.at ?_ | with_reducible refine wpAny_loadPart_at hx ?_ | wp_step)
  · exact ⟨_, #[], _, (Heap.get?_update_ne _ _ _ _ nx.symm).trans (Heap.get?_push_at rfl rfl), rfl, fun _ z => absurd z (by simp), fun _ => rfl⟩
  · intro h' t' n1 sm
    have hx2 : (hp.push { cls := .type "dict", data := .dict #[] }).get? x = some { cls := .ref C, data := .fields fv } := Heap.get?_push_of_some _ hx
    refine q h' t' hp.objs.size (fun b o nb e => ?_) (Nat.le_refl _) nx.symm ((sm.2 x nx).trans (Heap.get?_update_self _ hx2 rfl)) n1
    exact (sm.2 b (Nat.ne_of_lt (Heap.lt_size e))).trans ((Heap.get?_update_ne _ _ _ _ nb).trans (Heap.get?_push_of_some _ e))
end
end XB

set_option Elab.async false
set_option linter.all false
set_option maxRecDepth 100000
set_option maxHeartbeats 4000000
namespace DL
open PySem L2 PySem.Spec PyProof.Rows
/-! ### own exceptions over another class than ValueError: made and raised -/
structure OexB (K : Fg) (C : Addr) : Prop where
  cls : ∃ (B mk ini : String) (up tl : List Value) (F : ExcBaseFacts B mk ini up), XB.Over F tl ∧ ∃ nm q N bs sn sub ab col dd k0 k1 k2 k3 k5, K.lookup C = some (excClassObj nm q C N bs tl true sn sub ab col dd k0 k1 k2 k3 k5 mk)
  sa : PySem.W.findIn K (.ref C) "__setattr__" = some (some (.builtin "object.__setattr__"))
  exC : PySem.W.subIn K (.ref C) (.type "BaseException") = some true
  tyC : PySem.W.typeIn K (.ref C) = some (.type "type")
  kC : PySem.W.keepIn K (.ref C) = true
def oexTB (K : Fg) (C : Addr) (mk : String) (tl : List Value) : Bool := match K.lookup C with
  | some ⟨.type "type", _, .cls cd, sl⟩ => (match cd.mro, sl.toList with
    | .ref C' :: bm, [_, _, _, _, some (.builtin n), _] => C' == C && n == mk && !cd.hasDel && cd.hasDict && decide (bm = tl)
    | _, _ => false)
  | _ => false
theorem oexTB_ok {K : Fg} {C : Addr} {mk : String} {tl : List Value} (q : oexTB K C mk tl = true) : ∃ nm q N bs sn sub ab col dd k0 k1 k2 k3 k5, K.lookup C = some (excClassObj nm q C N bs tl true sn sub ab col dd k0 k1 k2 k3 k5 mk) := by
  unfold oexTB at q
  split at q
  · rename_i dd cd sl ho
    split at q
    · rename_i C' bm k0 k1 k2 k3 n k5 hm hs
      simp only [Bool.and_eq_true, beq_iff_eq, Bool.not_eq_true', decide_eq_true_eq] at q
      obtain ⟨⟨⟨⟨rfl, rfl⟩, hdel⟩, hh⟩, rfl⟩ := q
      obtain ⟨nm, bs, mro, ns, qn, hd, sn, sub, ab, col, del⟩ := cd
      dsimp only at hm hdel hh
      subst hm hdel hh
      have hsl : sl = #[k0, k1, k2, k3, some (.builtin n), k5] := by
        obtain ⟨l⟩ := sl
        simp only at hs
        rw [hs]
      subst hsl
      exact ⟨nm, qn, ns, bs, sn, sub, ab, col, dd, k0, k1, k2, k3, k5, ho⟩
    · cases q
  · cases q
def oexBB (K : Fg) (C : Addr) (mk : String) (tl : List Value) : Bool := oexTB K C mk tl && (eqOV (PySem.W.findIn K (.ref C) "__setattr__") (some (some (.builtin "object.__setattr__"))) && (decide (PySem.W.subIn K (.ref C) (.type "BaseException") = some true) && (decide (PySem.W.typeIn K (.ref C) = some (.type "type")) && PySem.W.keepIn K (.ref C))))
theorem oexBB_ok {K : Fg} {C : Addr} {B mk ini : String} {up tl : List Value} {F : ExcBaseFacts B mk ini up} (O : XB.Over F tl) (h : oexBB K C mk tl = true) : OexB K C := by
  obtain ⟨h1, h⟩ := b2 h
  obtain ⟨h2, h⟩ := b2 h
  obtain ⟨h3, h⟩ := b2 h
  obtain ⟨h4, h5⟩ := b2 h
  exact ⟨⟨B, mk, ini, up, tl, F, O, oexTB_ok h1⟩, of_decide_eq_true h2, of_decide_eq_true h3, of_decide_eq_true h4, h5⟩
section
variable {X : Cx} {pins : List (Addr × Obj)} {σ : L2.St} {H : Hp} {s : Shared} {a C : Addr} {f : Str} {y : V} {u : Value} {Q : Unit → Shared → Prop} {E : Value → Shared → Prop} {A : Around}
theorem fld_new (T : OexB X.K C) (I : Inv X pins σ H s) (e : H a = some (exo a C none)) (free : PySem.W.findIn X.K (.ref C) f = some none) (ry : L2.RelV y u)
    (h : ∀ dx s', H dx = none → dx ≠ a → Inv X pins σ (upd (upd H dx (exd dx [(f, y)])) a (exo a C (some dx))) s' → Q () s') : wpAny (model X.prog X.w) A (setAttr (.ref a) f u) Q E s := by
  obtain ⟨B, mk, ini, up, tl, F, O, nm, q, N, bs, sn, sub, ab, col, dd, k0, k1, k2, k3, k5, hC⟩ := T.cls
  have hcl : PySem.W.clsIn X.K C = some { name := nm, bases := bs, mro := .ref C :: tl, ns := N, qualname := q, hasDict := true, slotNames := sn, subclasses := sub, abstract := ab, collection := col, hasDel := false } := by
    unfold PySem.W.clsIn
    rw [hC]
  obtain ⟨t1, at_⟩ := exo_at I.hok e
  obtain ⟨hp, g, d, t, os⟩ := s
  refine PySem.W.set_plain I.kIn (ox := PySem.HandSPX.excO C t1) (od := none) ⟨at_, rfl, rfl, trivial⟩ T.sa ?_
  refine XB.first_fld O I.kIn at_ hcl rfl rfl free fun h' tk' dx k dn dne hx hn => ?_
  have hnd : H dx = none := I.hok.fresh dn
  have nd : ∀ {b : Addr} {o : Obj}, hp.get? b = some o → b ≠ dx := fun {b o} z => Nat.ne_of_lt (Nat.lt_of_lt_of_le (Heap.lt_size z) dn)
  have na : ∀ {b : Addr}, H b = none → b ≠ a := fun {b} n z => by
    rw [z, e] at n
    cases n
  have U : Un X.fs [] H (upd (upd H dx (exd dx [(f, y)])) a (exo a C (some dx))) hp h' := {
    keep := fun b o z n _ _ => k b o (na n) z
    slot := fun b o z n _ _ => ⟨o.slots, k b o (na n) z⟩
    free := fun b o z n _ => (upd_ne (na n)).trans ((upd_ne (nd z)).trans n)
    there := fun b o z _ => if hb : b = a then ⟨_, hb ▸ hx⟩ else ⟨o, k b o hb z⟩
    tups := fun b xs z => (upd_ne (at_ne e z exo_tup)).trans ((upd_ne (ne_of_none z hnd)).trans z)
    frzs := fun b o v z => (upd_ne (at_ne e z exo_frz)).trans ((upd_ne (ne_of_none z hnd)).trans z)
    tbls := fun b ps z => ⟨#[], by rw [upd_ne (at_ne e z exo_tbl), upd_ne (ne_of_none z hnd), z, Array.append_empty]⟩ }
  refine h dx _ hnd dne (I.un (t' := tk') U fun b o z => ?_)
  by_cases hb : b = a
  · subst hb
    rw [upd_same] at z
    cases z
    exact exo_ok hx
  · rw [upd_ne hb] at z
    by_cases hd : b = dx
    · subst hd
      rw [upd_same] at z
      cases z
      exact exd_ok hn (relO_put (fs := []) ry fun g => True.intro)
    · rw [upd_ne hd] at z
      refine (I.hok b o z).stay (fun c v hc w => k c v ?_ w) (fun c hc => (upd_ne (at_ne e hc exo_own)).trans ((upd_ne (ne_of_none hc hnd)).trans hc)) (fun c xs hc => (upd_ne (at_ne e hc exo_tup)).trans ((upd_ne (ne_of_none hc hnd)).trans hc))
      rcases hc with hc | hc
      · rw [hc]
        exact hb
      · exact at_ne e hc exo_own
end
/-- self.f = e in such an __init__ -/
def tFldB (K : Fg) (f : Str) (to te : TE) : TS := fun D σ H => te σ H fun y H1 => to σ H1 fun x H2 => ∃ a C : Addr, x = .ref a ∧ OexB K C ∧ PySem.W.findIn K (.ref C) f = some none ∧ H2 a = some (exo a C none) ∧
  ∀ dx, H2 dx = none → dx ≠ a → D.nx σ (upd (upd H2 dx (exd dx [(f, y)])) a (exo a C (some dx)))
theorem ps_fldB {X : Cx} {o e : Expr} {to te : TE} {f : Str} {p' pos : Pos} (ho : PE X o to) (he : PE X e te) (hs : swapsWith e (some (.Attribute o f p')) pos.line X.env = pure false := by rfl) : PS X (.Assign [.Attribute o f p'] e pos) (tFldB X.K f to te) := by
  refine ⟨fun pins s σ H D I h => ?_⟩
  refine plainObj_wpAny_Assign_Attribute (thn (he.run pins s σ H _ I h) fun v s1 ⟨y, H1, I1, r1, q1⟩ => thn (ho.run pins s1 σ H1 _ I1 q1) fun u s2 z => ?_) hs
  obtain ⟨x, H2, I2, r2, a, C, rfl, T, free, ea, q⟩ := z
  have r2 : u = Value.ref a := r2
  subst r2
  exact fld_new T I2 ea free r1 fun dx s' n ne J => ⟨σ, _, J, q dx n ne⟩
theorem pmk_over {X : Cx} {e : Expr} {es : List Expr} {ta : TA} {p pos : Pos} {CX : CXT} {x : Str} {C fI : Addr} {k : Nat} {fd : FuncData} {ps : List Str} {sp : Sp} {ds : List Value} {dvs : List V} (T : OexB X.K C) (iC : PySem.W.findIn X.K (.ref C) "__init__" = some (some (.ref fI))) (tI : PySem.W.typeIn X.K (.ref fI) = some (.type "function"))
    (F1 : FnOk X.prog X.w X.K X.mg X.base CX k fI fd ps sp) (hr : Room (k + 1) X.A) (hb : Binds X.K fd ps ds) (hd : Vals dvs ds) (hx : Passes CX X (fun _ _ _ => False)) (hg : Gl X x) (hm : X.mg x = some (.ref C)) (ha : PA X (e :: es) ta)
    (hdb : (x == ("__debug__" : Str)) = false := by decide) (he : starEach (e :: es) X.env = (false, eval e X.env) :: starEach es X.env := by rfl) (hpl : (backTo pos (starEach es X.env)).any (·.1) = false := by rfl) :
    PMk X (.Call (.Name x p) (e :: es) [] pos) (tMkO C sp dvs ta) := by
  intro pins s σ H Q I h
  obtain ⟨B, mk, ini, up, tl, F, O, nm, q, N, bs, sn, sub, ab, col, dd, k0, k1, k2, k3, k5, hC⟩ := T.cls
  refine wpAny_Call_Name_kw (ld_glob I hg hm ?_ hdb)
  refine PySem.W.callWith_K (h₀ := X.base) I.ok.mod.kin T.kC (thn (ha.run pos pins s σ H _ I h) fun us s1 w => ?_) he hpl
  obtain ⟨vs, H1, I1, r1, hz, q1⟩ := w
  refine ⟨I1.kIn, ?_⟩
  show wpAny _ _ (call (.ref C) us) _ _ _
  obtain ⟨hp, g, dr, tk, os⟩ := s1
  have up1 : hp.objs.size ≤ hp.objs.size + 1 := Nat.le_succ _
  have nn : H1 (hp.objs.size + 1) = none := I1.hok.fresh up1
  have hq := q1 (hp.objs.size + 1) nn
  have kk : ∀ b o, hp.get? b = some o → ((hp.push (PySem.W.kdv_tup us)).push (PySem.HandSPX.excO C hp.objs.size)).get? b = some o := fun b o z => Heap.get?_push_of_some _ (Heap.get?_push_of_some _ z)
  have at_ : ((hp.push (PySem.W.kdv_tup us)).push (PySem.HandSPX.excO C hp.objs.size)).get? (hp.objs.size + 1) = some (PySem.HandSPX.excO C hp.objs.size) := by heap_get
  have I2 : Inv X pins σ (upd H1 (hp.objs.size + 1) (exo (hp.objs.size + 1) C none)) ⟨(hp.push (PySem.W.kdv_tup us)).push (PySem.HandSPX.excO C hp.objs.size), g, dr, tk, os⟩ := I1.laid (t' := tk) (o := exo (hp.objs.size + 1) C none) kk up1 (exo_ok at_)
  have r2 : Vals (V.ref (hp.objs.size + 1) :: (vs ++ dvs)) (Value.ref (hp.objs.size + 1) :: (us ++ ds)) := .cons rfl (r1.append hd)
  have len : (Value.ref (hp.objs.size + 1) :: us ++ ds).length = ps.length := by
    rw [← F1.len _ _ _ _ hq]
    exact r2.length.symm
  have small : us.length ≤ sizeLine := by
    rw [← Paired.length r1, sizeLine_eq]
    omega
  refine wpAny_call (XB.call_over O (I1.kIn _ _ hC) (PySem.W.looks_findIn I1.kIn iC) (fun me => PySem.W.bind_fn I1.kIn me tI) small
    (codeAny_mono (F1.run _ X.stack _ _ ⟨Value.ref (hp.objs.size + 1) :: us, []⟩ (Value.ref (hp.objs.size + 1) :: (us ++ ds)) _ _ (fun _ _ _ => False) (hr.make C us []) (I2.env0.make C us []) (hb _ (Value.ref (hp.objs.size + 1) :: us) I2.kIn len) r2 hq) fun r s' z => ?_))
  match r, z with
  | .error er, z => exact hx pins σ _ _ er s' I2 z
  | .ok .next, z => exact z.elim
  | .ok .brk, z => exact z.elim
  | .ok .cont, z => exact z.elim
  | .ok (.ret u), z =>
    obtain ⟨v, H2, os2, bare2, un2, hok2, rv, ev, d, fs, ea, ed, hd1, q2⟩ := z
    subst ev
    obtain ⟨h2, g2, d2, t2, os'⟩ := s'
    exact ⟨rv, mk_end (raises_own T.exC T.tyC) I1 up1 kk un2 hok2 os2 bare2 ea ed hd1 q2⟩
section
variable {P : Program} {w : World} {K : Fg} {mg : Str → Option Value} {base : Heap} {x qual : Str} {params : Arguments} {body : List Stmt} {scope : Scope} {f C : Addr} {fd : FuncData} {N ps : List Str} {fl : Str}
theorem fn_x1B (F : FunD K x qual params body scope [] [] f fd) (S : FnScope N ps scope) (hl : ps.length = 2) (hN : N.length = 2) (T : OexB K C) (hno : PySem.W.findIn K (.ref C) fl = some none)
    (hb : ∀ (cdv : Value) (A : Around) (outer : List Env) (s : Shared) (H : Hp) (E : XK), PSs (cxOf (L2.CX P w) P w K mg base N qual scope f cdv A outer s H E) body (tFldB K fl (tVar 0) (tVar 1))) : FnOk P w K mg base (L2.CX P w) 1 f fd ps (spX1 C fl) := by
  refine F.ok (k := 0) S (fun vs H Q E h => ?_) (fun cdv A outer s H vs Q E hr h => ⟨_, hb cdv A outer s H E, ?_⟩)
  · obtain ⟨a, v, rfl, _⟩ := h
    rw [hl]
    rfl
  · obtain ⟨a, v, rfl, h1, h2⟩ := h
    have e : L2.start N [V.ref a, v] = [some (.ref a), some v] := by
      unfold L2.start
      rw [hN]
      rfl
    rw [e]
    exact ⟨v, rfl, .ref a, rfl, a, C, rfl, T, hno, h1, fun dx n ne => h2 dx n ne⟩
end
section
variable {X : Cx} {c : Ct} {W : WX} {e : Expr} {es : List Expr} {pos p pos' : Pos} {x : Str} {mr : MA} {tr : TA} {C fI : Addr} {k : Nat} {fd : FuncData} {ps : List Str} {fl : Str}
theorem ws_raise1 {K : Fg} (ha : WA K c W tr mr) : WS K c W (fun _ σ H => tMkO C (spX1 C fl) [] tr σ H fun cls d H' => W cls d σ H') (msRaise1 C fl mr) := fun H G σ δ k Y cr rs h en => by
  refine ha H G σ δ _ _ _ cr rs h (fun vs ds H1 G1 g1 r1 h1 => ?_) (en.xw cr rs)
  split at h1
  · rename_i d
    obtain ⟨v, e1, r2⟩ := r1.one
    subst e1
    refine ⟨(by show 1 ≤ 1000; decide), fun ea hea => ⟨ea, v, rfl, upd_same, fun dx ndx ne => ⟨rfl, dx, [(fl, v)], upd_same, by rw [upd_ne ne, upd_same], ?_, ?_⟩⟩⟩
    · rw [upd_ne ne] at ndx
      exact ndx
    · have ndx1 : H1 dx = none := by
        rw [upd_ne ne] at ndx
        exact ndx
      have g2 : Go none H1 G1 (upd (del (upd (upd (upd H1 ea (exo ea C none)) dx (exd dx [(fl, v)])) ea (exo ea C (some dx))) ea) dx (.xd [(fl, v)])) (upd G1 dx (.xd [(fl, v)])) := {
        keep := fun b o hb _ => by
          have n1 : b ≠ dx := ne_of_none hb ndx1
          have n2 : b ≠ ea := ne_of_none hb hea
          rw [upd_ne n1, del_ne n2, upd_ne n2, upd_ne n1, upd_ne n2]
          exact hb
        grow := fun b o hb => by rw [upd_ne (ne_of_none (g1.sub _ _ hb) ndx1)]; exact hb
        sub := fun b o hb => by
          by_cases n1 : b = dx
          · subst n1
            rw [upd_same] at hb ⊢
            exact hb
          · rw [upd_ne n1] at hb
            have hb1 := g1.sub _ _ hb
            have n2 : b ≠ ea := ne_of_none hb1 hea
            rw [upd_ne n1, del_ne n2, upd_ne n2, upd_ne n1, upd_ne n2]
            exact hb1
        new := fun b o hb => by
          by_cases n1 : b = dx
          · subst n1
            exact .inr ndx1
          · rw [upd_ne n1] at hb
            exact .inl hb
        deal := .no }
      have g3 := g1.trans (g2.lift g1.deal)
      refine en.rs C [(fl, d)] (some dx) σ δ _ _ (cr.step g3) (rs.step cr g3) g3.grow (.inr ⟨dx, [(fl, v)], rfl, upd_same, .cons (r2.mono g2.grow) .nil⟩) h1
  · exact h1.elim

theorem ds_raise1B (hc : X.calm = true) (tk : Takes X W) (T : OexB X.K C) (iC : PySem.W.findIn X.K (.ref C) "__init__" = some (some (.ref fI))) (tI : PySem.W.typeIn X.K (.ref fI) = some (.type "function"))
    (F1 : FnOk X.prog X.w X.K X.mg X.base (L2.CX X.prog X.w) k fI fd ps (spX1 C fl)) (hr : Room (k + 1) X.A) (hb : Binds X.K fd ps []) (hg : Gl X x) (hm : X.mg x = some (.ref C)) (ha : DA X c W (e :: es) tr mr)
    (hdb : (x == ("__debug__" : Str)) = false := by decide) (he : starEach (e :: es) X.env = (false, eval e X.env) :: starEach es X.env := by rfl) (hpl : (backTo pos (starEach es X.env)).any (·.1) = false := by rfl) :
    DS X c W (.Raise (some (.Call (.Name x p) (e :: es) [] pos)) none pos') (fun _ σ H => tMkO C (spX1 C fl) [] tr σ H fun cls d H' => W cls d σ H') (msRaise1 C fl mr) :=
  ⟨ps_raise hc tk (pmk_over T iC tI F1 hr hb .nil passL hg hm ha.p hdb he hpl), ws_raise1 ha.w⟩
end
end DL

set_option Elab.async false
set_option linter.all false
set_option maxRecDepth 100000
set_option maxHeartbeats 0
namespace K04
open PySem PySem.Spec PyProof.Rows L2 DL
abbrev PR : PySem.Program := PySem.Challenge.pw_meltback_k04_rows_and_texts_in_tables
def top (i : Nat) : Stmt := PR.main.body.getD i (.Pass ⟨0, 0, 0, 0⟩)
def dfn (p : Str × Option Str) (x q : Str) (s : Stmt) (d : List He.Dv := []) : He.DefD := ⟨p, x, q, defArgs s, defBody s, defScope s, d, []⟩
abbrev s_InvalidTable_init : Stmt := inClass (top 3) 0
abbrev s_NoColumn_init : Stmt := inClass (top 7) 0
abbrev s_is_sequence : Stmt := top 14
abbrev s_is_word : Stmt := top 15
abbrev s_is_name : Stmt := top 16
abbrev s_is_text : Stmt := top 17
abbrev s_is_cell : Stmt := top 18
abbrev s_are_names : Stmt := top 19
abbrev s_has_width : Stmt := top 22
abbrev s_is_row : Stmt := top 23
abbrev s_places_told : Stmt := top 24
abbrev s_cells_at : Stmt := top 25
abbrev s_with_places : Stmt := top 26
abbrev s_unlike_places : Stmt := top 27
abbrev s_all_told : Stmt := top 28
abbrev s_ascending : Stmt := top 29
abbrev s_rows_left : Stmt := top 30
abbrev s_need_rows : Stmt := top 35
abbrev s_different_texts : Stmt := top 38
abbrev s_Table_init : Stmt := inClass (top 39) 0
abbrev s_Table_texts : Stmt := inClass (top 39) 2
abbrev s_Table_under : Stmt := inClass (top 39) 3
abbrev s_Table_contains : Stmt := inClass (top 39) 8
abbrev s_law_deal : Stmt := top 41
abbrev s_law_draw : Stmt := top 42
abbrev s_law_pick : Stmt := top 43
abbrev s_law_columns : Stmt := top 44
abbrev s_law_texts : Stmt := top 45
abbrev s_law_rows : Stmt := top 46
abbrev s_law_is_part : Stmt := top 47
abbrev s_law_greatest : Stmt := top 48
abbrev s_law_table : Stmt := top 49
abbrev s_law_under : Stmt := top 50
abbrev s_law_bare : Stmt := top 51
abbrev s_law : Stmt := top 52
def fn : List He.DefD := [dfn ("InvalidTable", some "__init__") "__init__" "InvalidTable.__init__" s_InvalidTable_init,
  dfn ("NoColumn", some "__init__") "__init__" "NoColumn.__init__" s_NoColumn_init,
  dfn ("is_sequence", none) "is_sequence" "is_sequence" s_is_sequence,
  dfn ("is_word", none) "is_word" "is_word" s_is_word,
  dfn ("is_name", none) "is_name" "is_name" s_is_name,
  dfn ("is_text", none) "is_text" "is_text" s_is_text,
  dfn ("is_cell", none) "is_cell" "is_cell" s_is_cell,
  dfn ("are_names", none) "are_names" "are_names" s_are_names,
  dfn ("has_width", none) "has_width" "has_width" s_has_width,
  dfn ("is_row", none) "is_row" "is_row" s_is_row,
  dfn ("places_told", none) "places_told" "places_told" s_places_told,
  dfn ("cells_at", none) "cells_at" "cells_at" s_cells_at,
  dfn ("with_places", none) "with_places" "with_places" s_with_places,
  dfn ("unlike_places", none) "unlike_places" "unlike_places" s_unlike_places,
  dfn ("all_told", none) "all_told" "all_told" s_all_told,
  dfn ("ascending", none) "ascending" "ascending" s_ascending,
  dfn ("rows_left", none) "rows_left" "rows_left" s_rows_left,
  dfn ("need_rows", none) "need_rows" "need_rows" s_need_rows,
  dfn ("different_texts", none) "different_texts" "different_texts" s_different_texts,
  dfn ("Table", some "__init__") "__init__" "Table.__init__" s_Table_init [.adr (He.dflAt ("Table", some "__init__") 0)],
  dfn ("Table", some "under") "under" "Table.under" s_Table_under,
  dfn ("Table", some "__contains__") "__contains__" "Table.__contains__" s_Table_contains,
  dfn ("_law_deal", none) "_law_deal" "_law_deal" s_law_deal,
  dfn ("_law_draw", none) "_law_draw" "_law_draw" s_law_draw,
  dfn ("_law_pick", none) "_law_pick" "_law_pick" s_law_pick,
  dfn ("_law_columns", none) "_law_columns" "_law_columns" s_law_columns,
  dfn ("_law_texts", none) "_law_texts" "_law_texts" s_law_texts,
  dfn ("_law_rows", none) "_law_rows" "_law_rows" s_law_rows,
  dfn ("_law_is_part", none) "_law_is_part" "_law_is_part" s_law_is_part,
  dfn ("_law_greatest", none) "_law_greatest" "_law_greatest" s_law_greatest,
  dfn ("_law_table", none) "_law_table" "_law_table" s_law_table,
  dfn ("_law_under", none) "_law_under" "_law_under" s_law_under,
  dfn ("_law_bare", none) "_law_bare" "_law_bare" s_law_bare,
  dfn ("law", none) "law" "law" s_law]
-- 0 s_InvalidTable_init
-- 1 s_NoColumn_init
-- 2 s_is_sequence
-- 3 s_is_word
-- 4 s_is_name
-- 5 s_is_text
-- 6 s_is_cell
-- 7 s_are_names
-- 8 s_has_width
-- 9 s_is_row
-- 10 s_places_told
-- 11 s_cells_at
-- 12 s_with_places
-- 13 s_unlike_places
-- 14 s_all_told
-- 15 s_ascending
-- 16 s_rows_left
-- 17 s_need_rows
-- 18 s_different_texts
-- 19 s_Table_init
-- 20 s_Table_texts
-- 21 s_Table_under
-- 22 s_Table_contains
-- 23 s_law_deal
-- 24 s_law_draw
-- 25 s_law_pick
-- 26 s_law_columns
-- 27 s_law_texts
-- 28 s_law_rows
-- 29 s_law_is_part
-- 30 s_law_greatest
-- 31 s_law_table
-- 32 s_law_under
-- 33 s_law_bare
-- 34 s_law
def names : List PySem.Str := [("_wall" : PySem.Str), ("__name__" : PySem.Str), ("TableError" : PySem.Str), ("InvalidTable" : PySem.Str), ("InvalidText" : PySem.Str), ("Mismatch" : PySem.Str), ("NoRow" : PySem.Str), ("NoColumn" : PySem.Str), ("LETTERS" : PySem.Str), ("LETTERS_AND_DIGITS" : PySem.Str), ("LONGEST_NAME" : PySem.Str), ("LONGEST_TEXT" : PySem.Str), ("PARTING_WORDS" : PySem.Str), ("is_sequence" : PySem.Str), ("is_word" : PySem.Str), ("is_name" : PySem.Str), ("is_text" : PySem.Str), ("is_cell" : PySem.Str), ("are_names" : PySem.Str), ("LACKING" : PySem.Str), ("has_width" : PySem.Str), ("is_row" : PySem.Str), ("places_told" : PySem.Str), ("cells_at" : PySem.Str), ("with_places" : PySem.Str), ("unlike_places" : PySem.Str), ("all_told" : PySem.Str), ("ascending" : PySem.Str), ("rows_left" : PySem.Str), ("told_by_both" : PySem.Str), ("row_line" : PySem.Str), ("row_of_line" : PySem.Str), ("need_rows" : PySem.Str), ("need_same_columns" : PySem.Str), ("read_rows" : PySem.Str), ("different_texts" : PySem.Str), ("Table" : PySem.Str), ("_law_deal" : PySem.Str), ("_law_draw" : PySem.Str), ("_law_pick" : PySem.Str), ("_law_columns" : PySem.Str), ("_law_texts" : PySem.Str), ("_law_rows" : PySem.Str), ("_law_is_part" : PySem.Str), ("_law_greatest" : PySem.Str), ("_law_table" : PySem.Str), ("_law_under" : PySem.Str), ("_law_bare" : PySem.Str)]
-- law at 52
abbrev R : PySem.W.OpenRow := PySem.W.OpenLaw.row PySem.Challenge.rw_meltback_k04_rows_and_texts_in_tables
def gl : List Str := [("is_sequence" : Str), ("is_word" : Str), ("is_name" : Str), ("is_text" : Str), ("is_cell" : Str), ("are_names" : Str), ("has_width" : Str), ("is_row" : Str), ("places_told" : Str), ("cells_at" : Str), ("with_places" : Str), ("unlike_places" : Str), ("all_told" : Str), ("ascending" : Str), ("rows_left" : Str), ("need_rows" : Str), ("different_texts" : Str), ("InvalidTable" : Str), ("NoColumn" : Str), ("TableError" : Str), ("Table" : Str), ("PARTING_WORDS" : Str), ("_law_deal" : Str), ("_law_draw" : Str), ("_law_pick" : Str), ("_law_columns" : Str), ("_law_texts" : Str), ("_law_rows" : Str), ("_law_is_part" : Str), ("_law_greatest" : Str), ("_law_table" : Str), ("_law_under" : Str), ("_law_bare" : Str), ("law" : Str)]
def fr : List Str := [("len" : Str), ("isinstance" : Str), ("str" : Str), ("list" : Str), ("tuple" : Str), ("all" : Str), ("set" : Str), ("int" : Str), ("range" : Str), ("abs" : Str), ("enumerate" : Str), ("sorted" : Str), ("repr" : Str), ("KeyError" : Str)]
def fa : List He.Fa := gl.map He.Fa.glo ++ (fr.map He.Fa.free ++ [.mkr "Table", .cls "Table", .noat "Table" "columns", .noat "Table" "rows", .str "LACKING" "-",
  .str "LETTERS" "abcdefghijklmnopqrstuvwxyz", .str "LETTERS_AND_DIGITS" "abcdefghijklmnopqrstuvwxyz0123456789", .int "LONGEST_NAME" 4, .int "LONGEST_TEXT" 6])
def iT (K : Fg) : Addr := He.ga K "InvalidTable"
def cTable (K : Fg) : Addr := He.ga K "Table"
def ex1 (K : Fg) : Bool := oexB K (iT K) && (initB K (iT K) (He.ma K (iT K) "__init__") && (nofB K (iT K) "word" && ((xfB K (iT K) && cobB K (iT K)) && (decide (PySem.W.exmOne K (.ref (iT K)) (.ref (iT K)) = some true) && (decide (PySem.W.kitOne K (.ref (iT K)) (.ref (He.ga K "TableError")) = some true) &&
  ((clsB K (cTable K) && cobB K (cTable K)) && (He.tupB K "PARTING_WORDS" [.str "as", .str "by", .str "to", .str "end"] && (tupAtB K (He.dflAt ("Table", some "__init__") 0 K) [] &&
  ((kitB K (.ref (cTable K)) [.type "list", .type "tuple"] false && kitB K (.ref (cTable K)) [.type "str"] false) && (kitB K (.ref (cTable K)) [.type "list"] false && kitB K (.ref (cTable K)) [.type "tuple"] false))))))))))
def methB (K : Fg) (C : Addr) (m : Str) : Bool := eqOV (PySem.W.findIn K (.ref C) m) (some (some (.ref (He.ma K C m)))) && decide (PySem.W.typeIn K (.ref (He.ma K C m)) = some (.type "function"))
def methK (K : Fg) (C : Addr) (m : Str) : Bool := methB K C m && PySem.W.keepIn K (.ref (He.ma K C m))
def prA (K : Fg) (C : Addr) (m : Str) : Addr := match PySem.W.recIn K (He.ma K C m) "property" with
  | some (.ref g :: _) => g
  | _ => 0
def prB (K : Fg) (C : Addr) (m : Str) : Bool := eqOV (PySem.W.findIn K (.ref C) m) (some (some (.ref (He.ma K C m)))) && (eqOV (PySem.W.specialIn K (.ref (He.ma K C m)) "__get__") (some (some (.builtin "property.__get__"))) && (decide (PySem.W.takesIn K (.ref (He.ma K C m)) = some true) && (match PySem.W.recIn K (He.ma K C m) "property" with
  | some (.ref _ :: _) => true
  | _ => false)))
def txA (K : Fg) : Addr := prA K (cTable K) "texts"
def nC (K : Fg) : Addr := He.ga K "NoColumn"
def exN (K : Fg) : Bool := oexBB K (nC K) "LookupError.__new__" XB.keyTail && (initB K (nC K) (He.ma K (nC K) "__init__") && (nofB K (nC K) "name" && ((xfB K (nC K) && cobB K (nC K)) && (decide (PySem.W.exmOne K (.ref (nC K)) (.ref (nC K)) = some true) && (decide (PySem.W.kitOne K (.ref (nC K)) (.ref (He.ga K "TableError")) = some false) && decide (PySem.W.kitOne K (.ref (nC K)) (.type "KeyError") = some true))))))
def ex (K : Fg) : Bool := ex1 K && (exN K && (methB K (cTable K) "__contains__" && (methK K (cTable K) "under" && (prB K (cTable K) "texts" && okA K (txA K) "Table.texts"))))
def fc : List ((Fg → Addr) × He.DefD) := [(txA, dfn ("Table", some "texts") "texts" "Table.texts" s_Table_texts)]
abbrev hk : PySem.W.Hook := hookC 6 fa fn fc ex
def ob (s : PySem.W.SharedT) : AlC := obsC 6 fa fn fc ex (HandSHeadRun.getT s)
theorem ob_eq (s : PySem.W.SharedT) : ob s = hk.obs s.abs := obsC_eq (HandSHeadRun.getT_eq s)
end K04

set_option Elab.async false
set_option linter.all false
set_option maxRecDepth 100000
set_option maxHeartbeats 4000000
namespace K04
open PySem PySem.Spec PyProof.Rows L2 DL
/-! ### what is known of the module's names -/
structure Glo (K : Fg) (mg : Str → Option Value) : Prop where
  g : ∀ z ∈ gl, mg z = some (.ref (He.ga K z))
  n : ∀ z ∈ fr, mg z = none
  hL : ∃ t, mg "LETTERS" = some (.str "abcdefghijklmnopqrstuvwxyz" t)
  hA : ∃ t, mg "LETTERS_AND_DIGITS" = some (.str "abcdefghijklmnopqrstuvwxyz0123456789" t)
  hN : ∃ t, mg "LONGEST_NAME" = some (.int 4 t)
  hT : ∃ t, mg "LONGEST_TEXT" = some (.int 6 t)
  hK : ∃ t, mg "LACKING" = some (.str "-" t)
/-- what is known of the classes -/
structure Kls (K : Fg) : Prop where
  part : ∀ H, SqT K H (He.ga K "PARTING_WORDS") [.str "as", .str "by", .str "to", .str "end"]
  seq : ∀ C, C = cTable K → PySem.W.kitAny K (.ref C) [.type "list", .type "tuple"] = some false
  str : ∀ C, C = cTable K → PySem.W.kitAny K (.ref C) [.type "str"] = some false
  isC : ∀ C, C = cTable K → IsC K C
  lst : ∀ C, C = cTable K → PySem.W.kitAny K (.ref C) [.type "list"] = some false
  tup : ∀ C, C = cTable K → PySem.W.kitAny K (.ref C) [.type "tuple"] = some false
/-! ### data -/
def partD : List D := [.str "as", .str "by", .str "to", .str "end"]
theorem partRep {K : Fg} (k : Kls K) (H : Hp) : Rep K H (.ref (He.ga K "PARTING_WORDS")) (.tup partD) :=
  .tup (k.part H) (.cons (.str _) (.cons (.str _) (.cons (.str _) (.cons (.str _) .nil))))
def isSeqD : D → Bool
  | .lst _ => true
  | .tup _ => true
  | _ => false
def isStrD : D → Bool
  | .str _ => true
  | _ => false
/-- a value of the law: what isinstance tells of it is known -/
def Kn (K : Fg) : D → Prop
  | .fx _ => False
  | .scr _ => False
  | .ext _ _ => False
  | .obj C _ => C = cTable K
  | _ => True
theorem kn_seq {K : Fg} (k : Kls K) : ∀ {d : D}, Kn K d → ∃ t, TyD K d t ∧ PySem.W.kitAny K t [.type "list", .type "tuple"] = some (isSeqD d)
  | .non, _ => ⟨_, rfl, rfl⟩
  | .bl _, _ => ⟨_, rfl, rfl⟩
  | .int _, _ => ⟨_, rfl, rfl⟩
  | .str _, _ => ⟨_, rfl, rfl⟩
  | .lst _, _ => ⟨_, rfl, rfl⟩
  | .tup _, _ => ⟨_, rfl, rfl⟩
  | .obj C _, h => ⟨_, ⟨rfl, k.isC C h⟩, k.seq C h⟩
  | .fx _, h => h.elim
  | .scr _, h => h.elim
  | .ext _ _, h => h.elim
theorem kn_str {K : Fg} (k : Kls K) : ∀ {d : D}, Kn K d → ∃ t, TyD K d t ∧ PySem.W.kitAny K t [.type "str"] = some (isStrD d)
  | .non, _ => ⟨_, rfl, rfl⟩
  | .bl _, _ => ⟨_, rfl, rfl⟩
  | .int _, _ => ⟨_, rfl, rfl⟩
  | .str _, _ => ⟨_, rfl, rfl⟩
  | .lst _, _ => ⟨_, rfl, rfl⟩
  | .tup _, _ => ⟨_, rfl, rfl⟩
  | .obj C _, h => ⟨_, ⟨rfl, k.isC C h⟩, k.str C h⟩
  | .fx _, h => h.elim
  | .scr _, h => h.elim
  | .ext _ _, h => h.elim
def isLstD : D → Bool
  | .lst _ => true
  | _ => false
def isTupD : D → Bool
  | .tup _ => true
  | _ => false
theorem kn_lst {K : Fg} (k : Kls K) : ∀ {d : D}, Kn K d → ∃ t, TyD K d t ∧ PySem.W.kitAny K t [.type "list"] = some (isLstD d)
  | .non, _ => ⟨_, rfl, rfl⟩
  | .bl _, _ => ⟨_, rfl, rfl⟩
  | .int _, _ => ⟨_, rfl, rfl⟩
  | .str _, _ => ⟨_, rfl, rfl⟩
  | .lst _, _ => ⟨_, rfl, rfl⟩
  | .tup _, _ => ⟨_, rfl, rfl⟩
  | .obj C _, h => ⟨_, ⟨rfl, k.isC C h⟩, k.lst C h⟩
  | .fx _, h => h.elim
  | .scr _, h => h.elim
  | .ext _ _, h => h.elim
theorem kn_tup {K : Fg} (k : Kls K) : ∀ {d : D}, Kn K d → ∃ t, TyD K d t ∧ PySem.W.kitAny K t [.type "tuple"] = some (isTupD d)
  | .non, _ => ⟨_, rfl, rfl⟩
  | .bl _, _ => ⟨_, rfl, rfl⟩
  | .int _, _ => ⟨_, rfl, rfl⟩
  | .str _, _ => ⟨_, rfl, rfl⟩
  | .lst _, _ => ⟨_, rfl, rfl⟩
  | .tup _, _ => ⟨_, rfl, rfl⟩
  | .obj C _, h => ⟨_, ⟨rfl, k.isC C h⟩, k.tup C h⟩
  | .fx _, h => h.elim
  | .scr _, h => h.elim
  | .ext _ _, h => h.elim
def gSeq (K : Fg) : FF := fun ds F _ => ∃ d, ds = [d] ∧ Kn K d ∧ F (.bl (isSeqD d))
theorem kit1_of {K : Fg} {t u : Value} {b : Bool} (h : PySem.W.kitAny K t [u] = some b) : PySem.W.kitOne K t u = some b := by
  unfold PySem.W.kitAny at h
  split at h
  · rename_i e
    cases h
    exact e
  · rename_i e
    cases h
    exact e
  · cases h
def szD : D → Prop
  | .str z => z.length ≤ 200 ∧ PyData.strOk z = true
  | .lst ds => ds.length ≤ 200
  | .tup ds => ds.length ≤ 200
  | _ => True
def wordD (d : D) (s : Str) (m : Int) : Bool := match d with
  | .str z => decide (1 ≤ (z.length : Int)) && decide ((z.length : Int) ≤ m) && decide (Txt.stripChars z s = "")
  | _ => false
def gWord (K : Fg) : FF := fun ds F _ => ∃ d s m, ds = [d, .str s, .int m] ∧ Kn K d ∧ szD d ∧ F (.bl (wordD d s m))
def nameD (d : D) : Bool := wordD d "abcdefghijklmnopqrstuvwxyz" 4 && !inD d partD
def textD (d : D) : Bool := wordD d "abcdefghijklmnopqrstuvwxyz0123456789" 6
def elD (d : D) : List D := (seqD d).getD []
/-- a value of the law, of the first and of the second level -/
def V1 (K : Fg) (d : D) : Prop := Kn K d ∧ szD d
def V2 (K : Fg) (d : D) : Prop := V1 K d ∧ ∀ e ∈ elD d, V1 K e
def gName (K : Fg) : FF := fun ds F _ => ∃ d, ds = [d] ∧ V1 K d ∧ F (.bl (nameD d))
def gText (K : Fg) : FF := fun ds F _ => ∃ d, ds = [d] ∧ V1 K d ∧ F (.bl (textD d))
def diffD (ds : List D) : Bool := match strsD ds with
  | some xs => decide (((ddS [] xs).length : Int) = (ds.length : Int))
  | none => false
def namesD (d : D) (least : Int) : Bool := isSeqD d && (!decide (((elD d).length : Int) < least) && ((elD d).all nameD && diffD (elD d)))
def gNames (K : Fg) : FF := fun ds F _ => ∃ d m, ds = [d, .int m] ∧ V2 K d ∧ F (.bl (namesD d m))
theorem word_str {d : D} {s : Str} {m : Int} (h : wordD d s m = true) : ∃ z, d = .str z := by
  cases d with
  | str z => exact ⟨z, rfl⟩
  | _ => cases h
theorem strs_all : ∀ {l : List D}, l.all nameD = true → ∃ xs, strsD l = some xs ∧ xs.length = l.length
  | [], _ => ⟨[], rfl, rfl⟩
  | d :: l, h => by
    rw [List.all_cons, Bool.and_eq_true] at h
    obtain ⟨xs, h1, h2⟩ := strs_all h.2
    obtain ⟨z, rfl⟩ := word_str (Bool.and_eq_true_iff.mp h.1).1
    refine ⟨z :: xs, ?_, by rw [List.length_cons, List.length_cons, h2]⟩
    show (strsD l).map (z :: ·) = _
    rw [h1]
    rfl
def cellB : D → Bool
  | .non => true
  | d => textD d
def gCell (K : Fg) : FF := fun ds F _ => ∃ d, ds = [d] ∧ V1 K d ∧ F (.bl (cellB d))
def wideD (d : D) (n : Int) : Bool := isSeqD d && decide (((elD d).length : Int) = n)
def gWide (K : Fg) : FF := fun ds F _ => ∃ d n, ds = [d, .int n] ∧ V1 K d ∧ F (.bl (wideD d n))
theorem u0 {n : Nat} (h : n + 64 < cLine) : n < cLine := by omega
theorem u1 {n : Nat} (h : n + 64 < cLine) : n + 1 < cLine := by omega
theorem ms_at {ms : MS} {δ : List Sl} {k : MK} {e : List Sl} (q : δ = e) (h : ms e k) : ms δ k := by
  rw [q]
  exact h
section
variable {P : Program} {w : World} {K : Fg} {mg : Str → Option Value} {base : Heap}
theorem sc_is_sequence : FnScope ["value"] ["value"] (defScope s_is_sequence) := ⟨rfl, rfl, rfl, by decide +kernel, rfl, by decide +kernel, by decide +kernel⟩
theorem ok_is_sequence (G : Glo K mg) (c : He.SaysD fa fn K) (kl : Kls K) : Fn P w K mg base "is_sequence" 1 1 false (gSeq K) := by
  obtain ⟨fd, F⟩ := c.defs (d := dfn ("is_sequence", none) "is_sequence" "is_sequence" s_is_sequence) (by unfold fn; simp)
  replace F : FunD K "is_sequence" "is_sequence" (defArgs s_is_sequence) (defBody s_is_sequence) (defScope s_is_sequence) [] [] (He.ga K "is_sequence") fd := F
  refine ⟨_, fd, ["value"], ?_, G.g "is_sequence" (by decide), F.kp, F.bindsN fun _ _ _ _ _ _ us hl => match us, hl with | [_], _ => rfl⟩
  have nd : (["value"] : List Str).Nodup := sc_is_sequence.nd
  obtain ⟨_, h_LETTERS⟩ := G.hL
  obtain ⟨_, h_LAD⟩ := G.hA
  obtain ⟨_, h_LN⟩ := G.hN
  obtain ⟨_, h_LT⟩ := G.hT
  apply fn_okE (k := 0) (N := ["value"]) F sc_is_sequence rfl (by decide)
  intro c cdv A outer s H E hr
  have hu := hr.units
  have tk := takes_of (X := cxOf (L2.CX P w) P w K mg base ["value"] "is_sequence" (defScope s_is_sequence) (He.ga K "is_sequence") cdv A outer s H E) rfl rfl rfl rfl
  apply Exists.intro
  apply Exists.intro
  apply And.intro
  · exact (dss_one (ds_ret (de_isiT rfl (G.n "isinstance" (by decide)) (de_var 0) (da_cons (de_ty "list" rfl (G.n "list" (by decide)) (by decide +kernel)) (da_cons (de_ty "tuple" rfl (G.n "tuple" (by decide)) (by decide +kernel)) da_nil)))))
  · intro ds F1 X1 hn h
    obtain ⟨d, rfl, hd, f⟩ := h
    obtain ⟨t, h1, h2⟩ := kn_seq kl hd
    refine Exists.intro [.ty "list", .ty "tuple"] (Exists.intro [.type "list", .type "tuple"] (Exists.intro t (Exists.intro (isSeqD d) ⟨rfl, by decide, ?_, h1, h2, f⟩)))
    exact .cons (.ty _) (.cons (.ty _) .nil)
theorem sc_is_word : FnScope ["value", "signs", "longest"] ["value", "signs", "longest"] (defScope s_is_word) := ⟨rfl, rfl, rfl, by decide +kernel, rfl, by decide +kernel, by decide +kernel⟩
theorem ok_is_word (G : Glo K mg) (c : He.SaysD fa fn K) (kl : Kls K) : Fn P w K mg base "is_word" 1 3 false (gWord K) := by
  obtain ⟨fd, F⟩ := c.defs (d := dfn ("is_word", none) "is_word" "is_word" s_is_word) (by unfold fn; simp)
  replace F : FunD K "is_word" "is_word" (defArgs s_is_word) (defBody s_is_word) (defScope s_is_word) [] [] (He.ga K "is_word") fd := F
  refine ⟨_, fd, ["value", "signs", "longest"], ?_, G.g "is_word" (by decide), F.kp, F.bindsN fun _ _ _ _ _ _ us hl => match us, hl with | [_, _, _], _ => rfl⟩
  have nd : (["value", "signs", "longest"] : List Str).Nodup := sc_is_word.nd
  obtain ⟨_, h_LETTERS⟩ := G.hL
  obtain ⟨_, h_LAD⟩ := G.hA
  obtain ⟨_, h_LN⟩ := G.hN
  obtain ⟨_, h_LT⟩ := G.hT
  apply fn_okE (k := 0) (N := ["value", "signs", "longest"]) F sc_is_word rfl (by decide)
  intro c cdv A outer s H E hr
  have hu := hr.units
  have tk := takes_of (X := cxOf (L2.CX P w) P w K mg base ["value", "signs", "longest"] "is_word" (defScope s_is_word) (He.ga K "is_word") cdv A outer s H E) rfl rfl rfl rfl
  apply Exists.intro
  apply Exists.intro
  apply And.intro
  · exact (dss_cons (ds_if (DW.dt (dw_or (dt_not (dt_truth (de_callB call_isi cd_isi rfl (G.n "isinstance" (by decide)) (by decide +kernel) (da_cons (de_var 0) (da_cons (de_ty "str" rfl (G.n "str" (by decide)) (by decide +kernel)) da_nil))))) (dw_or1 (dt_not (dt_chain op_le op_le rd_le rd_le de_int (de_callB call_len cd_len rfl (G.n "len" (by decide)) (by decide +kernel) (da_cons (de_var 0) da_nil)) (de_var 2)))))) (dss_one (ds_ret de_bl)) dss_nil)
    (dss_one (ds_ret (de_cmp op_eq rd_eqS (de_ms slot_strip type_strip mt_stripChars md_strip (de_var 0) (da_cons (de_var 1) da_nil)) de_str (nomark _)))))
  · intro ds F1 X1 hn h
    obtain ⟨d, sg, m, rfl, hv, hz, f⟩ := h
    obtain ⟨t, h1, h2⟩ := kn_str kl hv
    refine ms_at (e := [.dat d, .dat (.str sg), .dat (.int m)]) rfl ?_
    simp only [msRet, msRetN, msSeq, msIf, msNext, msExpr, msSet, mtAnd, mtOr, mtNot, mTru, mB, mCB, mCall, maCons, maNil, mVar, mC, mOp, mChain, mIf, mAndV, mOrV, mNotV, mLst, mTup, mMS, gI0, gLen, gEq, gNe, gEqS, gNeS, gIn, gAll, gStrip, truD, start0, dn, mLc, miS, mgName, wipeD, mYes, lcD, List.map_cons, List.map_nil, List.replicate, List.cons_append, List.nil_append, List.getElem?_cons_zero, List.getElem?_cons_succ, List.getElem?_nil, List.append_nil, gLe, gLt, Bool.not_true, Bool.not_false, Bool.false_eq_true, reduceIte]
    refine ⟨t, .type "str", isStrD d, .ty _, h1, kit1_of h2, ?_⟩
    cases d with
    | str z =>
      have hz : z.length ≤ 200 := hz.1
      have hz2 : z.length ≤ sizeLine := Nat.le_trans hz (by decide)
      have f : F1 (.bl (decide (1 ≤ (z.length : Int)) && decide ((z.length : Int) ≤ m) && decide (Txt.stripChars z sg = ""))) := f
      simp only [isStrD, Bool.not_true, Bool.false_eq_true, reduceIte]
      refine ⟨hz2, ?_⟩
      cases e1 : decide (1 ≤ (z.length : Int)) <;> rw [e1] at f
      · exact f
      · cases e2 : decide ((z.length : Int) ≤ m) <;> rw [e2] at f
        · simp only [e2]
          exact f
        · simp only [e2]
          exact ⟨hz2, f⟩
    | _ => exact f
theorem sc_is_name : FnScope ["value"] ["value"] (defScope s_is_name) := ⟨rfl, rfl, rfl, by decide +kernel, rfl, by decide +kernel, by decide +kernel⟩
theorem ok_is_name (G : Glo K mg) (c : He.SaysD fa fn K) (H_is_word : Fn P w K mg base "is_word" 1 3 false (gWord K)) (kl : Kls K) : Fn P w K mg base "is_name" 2 1 false (gName K) := by
  obtain ⟨fd, F⟩ := c.defs (d := dfn ("is_name", none) "is_name" "is_name" s_is_name) (by unfold fn; simp)
  replace F : FunD K "is_name" "is_name" (defArgs s_is_name) (defBody s_is_name) (defScope s_is_name) [] [] (He.ga K "is_name") fd := F
  refine ⟨_, fd, ["value"], ?_, G.g "is_name" (by decide), F.kp, F.bindsN fun _ _ _ _ _ _ us hl => match us, hl with | [_], _ => rfl⟩
  have nd : (["value"] : List Str).Nodup := sc_is_name.nd
  obtain ⟨_, h_LETTERS⟩ := G.hL
  obtain ⟨_, h_LAD⟩ := G.hA
  obtain ⟨_, h_LN⟩ := G.hN
  obtain ⟨_, h_LT⟩ := G.hT
  apply fn_okE (k := 1) (N := ["value"]) F sc_is_name rfl (by decide)
  intro c cdv A outer s H E hr
  have hu := hr.units
  have tk := takes_of (X := cxOf (L2.CX P w) P w K mg base ["value"] "is_name" (defScope s_is_name) (He.ga K "is_name") cdv A outer s H E) rfl rfl rfl rfl
  apply Exists.intro
  apply Exists.intro
  apply And.intro
  · exact (dss_one (ds_ret (de_and (de_f H_is_word (hr.mono (by decide)) rfl tk (da_cons (de_var 0) (da_cons (de_glob (v := .str "abcdefghijklmnopqrstuvwxyz") rfl h_LETTERS ⟨_, rfl⟩ (fun _ => .str _)) (da_cons (de_glob (v := .int 4) rfl h_LN ⟨_, rfl⟩ (fun _ => .int _)) da_nil)))) (de_one (de_cmp op_notInA rd_in (de_var 0) (de_glob (v := .ref (He.ga K "PARTING_WORDS")) rfl (G.g "PARTING_WORDS" (by decide)) rfl (fun G1 => partRep kl G1)) (by rfl))))))
  · intro ds F1 X1 hn h
    obtain ⟨d, rfl, hv, f⟩ := h
    refine ms_at (e := [.dat d]) rfl ?_
    simp only [msRet, msRetN, msSeq, msIf, msNext, msExpr, msSet, mtAnd, mtOr, mtNot, mTru, mB, mCB, mCall, maCons, maNil, mVar, mC, mOp, mChain, mIf, mAndV, mOrV, mNotV, mLst, mTup, mMS, gI0, gLen, gEq, gNe, gEqS, gNeS, gIn, gAll, gStrip, truD, start0, dn, mLc, miS, mgName, wipeD, mYes, lcD, List.map_cons, List.map_nil, List.replicate, List.cons_append, List.nil_append, List.getElem?_cons_zero, List.getElem?_cons_succ, List.getElem?_nil, List.append_nil, gLe, gLt, Bool.not_true, Bool.not_false, Bool.false_eq_true, reduceIte]
    refine ⟨rfl, d, _, _, rfl, hv.1, hv.2, ?_⟩
    have f : F1 (.bl (wordD d "abcdefghijklmnopqrstuvwxyz" 4 && !inD d partD)) := f
    cases e : wordD d "abcdefghijklmnopqrstuvwxyz" 4 <;> rw [e] at f
    · exact f
    · obtain ⟨z, rfl⟩ := word_str e
      exact ⟨rfl, rfl, f⟩
theorem sc_is_text : FnScope ["value"] ["value"] (defScope s_is_text) := ⟨rfl, rfl, rfl, by decide +kernel, rfl, by decide +kernel, by decide +kernel⟩
theorem ok_is_text (G : Glo K mg) (c : He.SaysD fa fn K) (H_is_word : Fn P w K mg base "is_word" 1 3 false (gWord K)) : Fn P w K mg base "is_text" 2 1 false (gText K) := by
  obtain ⟨fd, F⟩ := c.defs (d := dfn ("is_text", none) "is_text" "is_text" s_is_text) (by unfold fn; simp)
  replace F : FunD K "is_text" "is_text" (defArgs s_is_text) (defBody s_is_text) (defScope s_is_text) [] [] (He.ga K "is_text") fd := F
  refine ⟨_, fd, ["value"], ?_, G.g "is_text" (by decide), F.kp, F.bindsN fun _ _ _ _ _ _ us hl => match us, hl with | [_], _ => rfl⟩
  have nd : (["value"] : List Str).Nodup := sc_is_text.nd
  obtain ⟨_, h_LETTERS⟩ := G.hL
  obtain ⟨_, h_LAD⟩ := G.hA
  obtain ⟨_, h_LN⟩ := G.hN
  obtain ⟨_, h_LT⟩ := G.hT
  apply fn_okE (k := 1) (N := ["value"]) F sc_is_text rfl (by decide)
  intro c cdv A outer s H E hr
  have hu := hr.units
  have tk := takes_of (X := cxOf (L2.CX P w) P w K mg base ["value"] "is_text" (defScope s_is_text) (He.ga K "is_text") cdv A outer s H E) rfl rfl rfl rfl
  apply Exists.intro
  apply Exists.intro
  apply And.intro
  · exact (dss_one (ds_ret (de_f H_is_word (hr.mono (by decide)) rfl tk (da_cons (de_var 0) (da_cons (de_glob (v := .str "abcdefghijklmnopqrstuvwxyz0123456789") rfl h_LAD ⟨_, rfl⟩ (fun _ => .str _)) (da_cons (de_glob (v := .int 6) rfl h_LT ⟨_, rfl⟩ (fun _ => .int _)) da_nil))))))
  · intro ds F1 X1 hn h
    obtain ⟨d, rfl, hv, f⟩ := h
    refine ms_at (e := [.dat d]) rfl ?_
    simp only [msRet, msRetN, msSeq, msIf, msNext, msExpr, msSet, mtAnd, mtOr, mtNot, mTru, mB, mCB, mCall, maCons, maNil, mVar, mC, mOp, mChain, mIf, mAndV, mOrV, mNotV, mLst, mTup, mMS, gI0, gLen, gEq, gNe, gEqS, gNeS, gIn, gAll, gStrip, truD, start0, dn, mLc, miS, mgName, wipeD, mYes, lcD, List.map_cons, List.map_nil, List.replicate, List.cons_append, List.nil_append, List.getElem?_cons_zero, List.getElem?_cons_succ, List.getElem?_nil, List.append_nil, gLe, gLt, Bool.not_true, Bool.not_false, Bool.false_eq_true, reduceIte]
    exact ⟨rfl, d, _, _, rfl, hv.1, hv.2, f⟩
theorem sc_are_names : FnScope ["value", "least", "name"] ["value", "least"] (defScope s_are_names) := ⟨rfl, rfl, rfl, by decide +kernel, rfl, by decide +kernel, by decide +kernel⟩
theorem ok_are_names (G : Glo K mg) (c : He.SaysD fa fn K) (H_is_sequence : Fn P w K mg base "is_sequence" 1 1 false (gSeq K)) (H_is_name : Fn P w K mg base "is_name" 2 1 false (gName K)) : Fn P w K mg base "are_names" 3 2 false (gNames K) := by
  obtain ⟨fd, F⟩ := c.defs (d := dfn ("are_names", none) "are_names" "are_names" s_are_names) (by unfold fn; simp)
  replace F : FunD K "are_names" "are_names" (defArgs s_are_names) (defBody s_are_names) (defScope s_are_names) [] [] (He.ga K "are_names") fd := F
  refine ⟨_, fd, ["value", "least"], ?_, G.g "are_names" (by decide), F.kp, F.bindsN fun _ _ _ _ _ _ us hl => match us, hl with | [_, _], _ => rfl⟩
  have nd : (["value", "least", "name"] : List Str).Nodup := sc_are_names.nd
  obtain ⟨_, h_LETTERS⟩ := G.hL
  obtain ⟨_, h_LAD⟩ := G.hA
  obtain ⟨_, h_LN⟩ := G.hN
  obtain ⟨_, h_LT⟩ := G.hT
  apply fn_okE (k := 2) (N := ["value", "least", "name"]) F sc_are_names rfl (by decide)
  intro c cdv A outer s H E hr
  have hu := hr.units
  have tk := takes_of (X := cxOf (L2.CX P w) P w K mg base ["value", "least", "name"] "are_names" (defScope s_are_names) (He.ga K "are_names") cdv A outer s H E) rfl rfl rfl rfl
  apply Exists.intro
  apply Exists.intro
  apply And.intro
  · exact (dss_cons (ds_if (DW.dt (dw_or (dt_not (dt_truth (de_f H_is_sequence (hr.mono (by decide)) rfl tk (da_cons (de_var 0) da_nil)))) (dw_or1 (dt_cmp op_lt rd_lt (de_callB call_len cd_len rfl (G.n "len" (by decide)) (by decide +kernel) (da_cons (de_var 0) da_nil)) (de_var 1) (nomark _))))) (dss_one (ds_ret de_bl)) dss_nil)
    (dss_one (ds_ret (de_and (de_callB (cr_all rfl) cd_all rfl (G.n "all" (by decide)) (by decide +kernel) (da_cons (de_lcF (own := [("name", 2)]) rfl nd (dic_of (di_seq (de_var 0))) (blkOk_by (show blkC ["value", "least", "name"] (defScope s_are_names) _ _ = true from by decide +kernel)) (by decide) (fun s H C cl fp => (dg_name 2 nd rfl (by first | exact .inl rfl | exact .inr rfl))) (fun s H C cl fp => dts_nil) (fun s H C cl fp => (de_f H_is_name (hr.mono (by decide)) rfl DL.takes0 (da_cons (de_var 2) da_nil)))) da_nil)) (de_one (de_cmp op_eq rd_eqS (de_lenSet rfl rfl (G.n "len" (by decide)) rfl (G.n "set" (by decide)) (de_var 0)) (de_callB call_len cd_len rfl (G.n "len" (by decide)) (by decide +kernel) (da_cons (de_var 0) da_nil)) (nomark _)))))))
  · intro ds F1 X1 hn h
    obtain ⟨d, m, rfl, hv, f⟩ := h
    refine ms_at (e := [.dat d, .dat (.int m), .un]) rfl ?_
    cases d with
    | lst l =>
      simp only [msRet, msRetN, msSeq, msIf, msNext, msExpr, msSet, mtAnd, mtOr, mtNot, mTru, mB, mCB, mCall, maCons, maNil, mVar, mC, mOp, mChain, mIf, mAndV, mOrV, mNotV, mLst, mTup, mMS, gI0, gLen, gEq, gNe, gEqS, gNeS, gIn, gAll, gStrip, truD, start0, dn, mLc, miS, mgName, wipeD, mYes, lcD, List.map_cons, List.map_nil, List.replicate, List.cons_append, List.nil_append, List.getElem?_cons_zero, List.getElem?_cons_succ, List.getElem?_nil, List.append_nil, gLe, gLt, Bool.not_true, Bool.not_false, Bool.false_eq_true, reduceIte]
      refine ⟨rfl, _, rfl, hv.1.1, ?_⟩
      simp only [isSeqD, Bool.not_true, Bool.false_eq_true, reduceIte]
      have hz : l.length ≤ 200 := hv.1.2
      have f : F1 (.bl (!decide ((l.length : Int) < m) && (l.all nameD && diffD l))) := f
      cases e1 : decide ((l.length : Int) < m) <;> rw [e1] at f
      · simp only [Bool.false_eq_true, reduceIte]
        refine ⟨l, rfl, Nat.lt_of_le_of_lt hz (by decide), lcD_map (f := fun d => .bl (nameD d)) l (fun e me F' q => ?_) ?_⟩
        · exact ⟨rfl, e, rfl, hv.2 e me, q⟩
        · refine ⟨l.map nameD, bls_map l, ?_⟩
          rw [all_map]
          cases e2 : l.all nameD <;> rw [e2] at f
          · exact f
          · obtain ⟨xs, hx, hn2⟩ := strs_all e2
            have f : F1 (.bl (diffD l)) := f
            unfold diffD at f
            rw [hx] at f
            exact ⟨l, xs, rfl, hx, by rw [hn2]; exact Nat.lt_of_le_of_lt (Nat.succ_le_succ hz) (by decide), f⟩
      · exact f
    | tup l =>
      simp only [msRet, msRetN, msSeq, msIf, msNext, msExpr, msSet, mtAnd, mtOr, mtNot, mTru, mB, mCB, mCall, maCons, maNil, mVar, mC, mOp, mChain, mIf, mAndV, mOrV, mNotV, mLst, mTup, mMS, gI0, gLen, gEq, gNe, gEqS, gNeS, gIn, gAll, gStrip, truD, start0, dn, mLc, miS, mgName, wipeD, mYes, lcD, List.map_cons, List.map_nil, List.replicate, List.cons_append, List.nil_append, List.getElem?_cons_zero, List.getElem?_cons_succ, List.getElem?_nil, List.append_nil, gLe, gLt, Bool.not_true, Bool.not_false, Bool.false_eq_true, reduceIte]
      refine ⟨rfl, _, rfl, hv.1.1, ?_⟩
      simp only [isSeqD, Bool.not_true, Bool.false_eq_true, reduceIte]
      have hz : l.length ≤ 200 := hv.1.2
      have f : F1 (.bl (!decide ((l.length : Int) < m) && (l.all nameD && diffD l))) := f
      cases e1 : decide ((l.length : Int) < m) <;> rw [e1] at f
      · simp only [Bool.false_eq_true, reduceIte]
        refine ⟨l, rfl, Nat.lt_of_le_of_lt hz (by decide), lcD_map (f := fun d => .bl (nameD d)) l (fun e me F' q => ?_) ?_⟩
        · exact ⟨rfl, e, rfl, hv.2 e me, q⟩
        · refine ⟨l.map nameD, bls_map l, ?_⟩
          rw [all_map]
          cases e2 : l.all nameD <;> rw [e2] at f
          · exact f
          · obtain ⟨xs, hx, hn2⟩ := strs_all e2
            have f : F1 (.bl (diffD l)) := f
            unfold diffD at f
            rw [hx] at f
            exact ⟨l, xs, rfl, hx, by rw [hn2]; exact Nat.lt_of_le_of_lt (Nat.succ_le_succ hz) (by decide), f⟩
      · exact f
    | _ =>
      simp only [msRet, msRetN, msSeq, msIf, msNext, msExpr, msSet, mtAnd, mtOr, mtNot, mTru, mB, mCB, mCall, maCons, maNil, mVar, mC, mOp, mChain, mIf, mAndV, mOrV, mNotV, mLst, mTup, mMS, gI0, gLen, gEq, gNe, gEqS, gNeS, gIn, gAll, gStrip, truD, start0, dn, mLc, miS, mgName, wipeD, mYes, lcD, List.map_cons, List.map_nil, List.replicate, List.cons_append, List.nil_append, List.getElem?_cons_zero, List.getElem?_cons_succ, List.getElem?_nil, List.append_nil, gLe, gLt, Bool.not_true, Bool.not_false, Bool.false_eq_true, reduceIte]
      exact ⟨rfl, _, rfl, hv.1.1, f⟩
theorem sc_is_cell : FnScope ["value"] ["value"] (defScope s_is_cell) := ⟨rfl, rfl, rfl, by decide +kernel, rfl, by decide +kernel, by decide +kernel⟩
theorem ok_is_cell (G : Glo K mg) (c : He.SaysD fa fn K) (H_is_text : Fn P w K mg base "is_text" 2 1 false (gText K)) : Fn P w K mg base "is_cell" 3 1 false (gCell K) := by
  obtain ⟨fd, F⟩ := c.defs (d := dfn ("is_cell", none) "is_cell" "is_cell" s_is_cell) (by unfold fn; simp)
  replace F : FunD K "is_cell" "is_cell" (defArgs s_is_cell) (defBody s_is_cell) (defScope s_is_cell) [] [] (He.ga K "is_cell") fd := F
  refine ⟨_, fd, ["value"], ?_, G.g "is_cell" (by decide), F.kp, F.bindsN fun _ _ _ _ _ _ us hl => match us, hl with | [_], _ => rfl⟩
  have nd : (["value"] : List Str).Nodup := sc_is_cell.nd
  obtain ⟨_, h_LETTERS⟩ := G.hL
  obtain ⟨_, h_LAD⟩ := G.hA
  obtain ⟨_, h_LN⟩ := G.hN
  obtain ⟨_, h_LT⟩ := G.hT
  apply fn_okE (k := 2) (N := ["value"]) F sc_is_cell rfl (by decide)
  intro c cdv A outer s H E hr
  have hu := hr.units
  have tk := takes_of (X := cxOf (L2.CX P w) P w K mg base ["value"] "is_cell" (defScope s_is_cell) (He.ga K "is_cell") cdv A outer s H E) rfl rfl rfl rfl
  apply Exists.intro
  apply Exists.intro
  apply And.intro
  · exact (dss_one (ds_ret (de_or (de_cmp op_isN rd_isN (de_var 0) de_non (nomark _)) (de_one (de_f H_is_text (hr.mono (by decide)) rfl tk (da_cons (de_var 0) da_nil))))))
  · intro ds F1 X1 hn h
    obtain ⟨d, rfl, hv, f⟩ := h
    refine ms_at (e := [.dat d]) rfl ?_
    dsimp only [msRet, msRetN, msSeq, msIf, msNext, msExpr, msSet, mtAnd, mtOr, mtNot, mTru, mB, mCB, mCall, maCons, maNil, mVar, mC, mOp, mChain, mIf, mAndV, mOrV, mNotV, mLst, mTup, mMS, gI0, gLen, gEq, gNe, gEqS, gNeS, gIn, gAll, gStrip, truD, start0, dn, mLc, miS, mgName, wipeD, mYes, lcD, List.map_cons, List.map_nil, List.replicate, List.cons_append, List.nil_append, List.getElem?_cons_zero, List.getElem?_cons_succ, List.getElem?_nil, List.append_nil, gLe, gLt, Bool.not_true, Bool.not_false, Bool.false_eq_true, reduceIte, gIsN]
    cases d with
    | non => exact ⟨(fun v e => nomatch e), f⟩
    | fx _ => exact hv.1.elim
    | scr _ => exact hv.1.elim
    | ext _ _ => exact hv.1.elim
    | _ => exact ⟨(fun v e => nomatch e), rfl, _, rfl, hv, f⟩
theorem sc_has_width : FnScope ["value", "width"] ["value", "width"] (defScope s_has_width) := ⟨rfl, rfl, rfl, by decide +kernel, rfl, by decide +kernel, by decide +kernel⟩
theorem ok_has_width (G : Glo K mg) (c : He.SaysD fa fn K) (H_is_sequence : Fn P w K mg base "is_sequence" 1 1 false (gSeq K)) : Fn P w K mg base "has_width" 2 2 false (gWide K) := by
  obtain ⟨fd, F⟩ := c.defs (d := dfn ("has_width", none) "has_width" "has_width" s_has_width) (by unfold fn; simp)
  replace F : FunD K "has_width" "has_width" (defArgs s_has_width) (defBody s_has_width) (defScope s_has_width) [] [] (He.ga K "has_width") fd := F
  refine ⟨_, fd, ["value", "width"], ?_, G.g "has_width" (by decide), F.kp, F.bindsN fun _ _ _ _ _ _ us hl => match us, hl with | [_, _], _ => rfl⟩
  have nd : (["value", "width"] : List Str).Nodup := sc_has_width.nd
  obtain ⟨_, h_LETTERS⟩ := G.hL
  obtain ⟨_, h_LAD⟩ := G.hA
  obtain ⟨_, h_LN⟩ := G.hN
  obtain ⟨_, h_LT⟩ := G.hT
  apply fn_okE (k := 1) (N := ["value", "width"]) F sc_has_width rfl (by decide)
  intro c cdv A outer s H E hr
  have hu := hr.units
  have tk := takes_of (X := cxOf (L2.CX P w) P w K mg base ["value", "width"] "has_width" (defScope s_has_width) (He.ga K "has_width") cdv A outer s H E) rfl rfl rfl rfl
  apply Exists.intro
  apply Exists.intro
  apply And.intro
  · exact (dss_one (ds_ret (de_and (de_f H_is_sequence (hr.mono (by decide)) rfl tk (da_cons (de_var 0) da_nil)) (de_one (de_cmp op_eq rd_eqS (de_callB call_len cd_len rfl (G.n "len" (by decide)) (by decide +kernel) (da_cons (de_var 0) da_nil)) (de_var 1) (nomark _))))))
  · intro ds F1 X1 hn h
    obtain ⟨d, n, rfl, hv, f⟩ := h
    refine ms_at (e := [.dat d, .dat (.int n)]) rfl ?_
    dsimp only [msRet, msRetN, msSeq, msIf, msNext, msExpr, msSet, mtAnd, mtOr, mtNot, mTru, mB, mCB, mCall, maCons, maNil, mVar, mC, mOp, mChain, mIf, mAndV, mOrV, mNotV, mLst, mTup, mMS, gI0, gLen, gEq, gNe, gEqS, gNeS, gIn, gAll, gStrip, truD, start0, dn, mLc, miS, mgName, wipeD, mYes, lcD, List.map_cons, List.map_nil, List.replicate, List.cons_append, List.nil_append, List.getElem?_cons_zero, List.getElem?_cons_succ, List.getElem?_nil, List.append_nil, gLe, gLt, Bool.not_true, Bool.not_false, Bool.false_eq_true, reduceIte]
    refine ⟨rfl, _, rfl, hv.1, ?_⟩
    cases d with
    | lst l => exact f
    | tup l => exact f
    | _ => exact f
end
end K04

set_option Elab.async false
set_option linter.all false
set_option maxRecDepth 100000
set_option maxHeartbeats 4000000
namespace K04
open PySem PySem.Spec PyProof.Rows L2 DL XS
def gPlaces : FF := fun ds F _ => ∃ r : Rw, ds = [rowD r] ∧ r.length ≤ 1000 ∧ F (plD (plc r))
def gCells : FF := fun ds F _ => ∃ (r : Rw) (l : List Int), ds = [rowD r, plD l] ∧ r.length ≤ 1000 ∧ l.length ≤ 1000 ∧ (∀ i ∈ l, 0 ≤ i ∧ i < r.length) ∧ F (rowD (cellsR r l))
def gWith : FF := fun ds F _ => ∃ (d : D) (rs : List Rw), ds = [d] ∧ seqD d = some (rs.map rowD) ∧ rs.length < 64 ∧ (∀ r ∈ rs, r.length ≤ 1000) ∧ F (.lst (rs.map tagD))
def gUnlike : FF := fun ds F _ => ∃ rs : List Rw, ds = [.lst (rs.map tagD)] ∧ rs.length < 64 ∧ ∀ out : List (List Int), out.Nodup → (∀ l, l ∈ out ↔ ∃ r ∈ rs, plc r = l ∧ l ≠ []) → F (.lst (out.map plD))
def gAsc : FF := fun ds F _ => ∃ (d : D) (es : List D) (rs : List Rw), ds = [d] ∧ seqD d = some es ∧ RowsD es rs ∧ GoodR rs ∧ ∀ out, AscR out rs → F (.tup (out.map rowD))
theorem sz64 {n : Nat} (h : n < 64) : n < sizeLine := Nat.lt_trans h (by decide)
theorem sz1000 {n : Nat} (h : n ≤ 1000) : n < sizeLine := Nat.lt_of_le_of_lt h (by decide)
def toldB : D → Bool
  | .tup (.tup [] :: _) => false
  | _ => true
theorem told_of : ∀ rs : List Rw, ((rs.map tagD).filter toldB).map fstD = tupsD D.int ((rs.map plc).filter fun l => !decide (l = []))
  | [] => rfl
  | r :: rs => by
    rw [List.map_cons, List.map_cons]
    have ih := told_of rs
    cases e : plc r with
    | nil =>
      rw [List.filter_cons_of_neg (by unfold tagD plD; rw [e]; exact Bool.false_ne_true), List.filter_cons_of_neg (by simp)]
      exact ih
    | cons i l =>
      rw [List.filter_cons_of_pos (by unfold tagD plD; rw [e]; rfl), List.filter_cons_of_pos (by simp), List.map_cons, ih]
      unfold tagD plD
      rw [e]
      rfl
section
variable {P : Program} {w : World} {K : Fg} {mg : Str → Option Value} {base : Heap}
theorem sc_places_told : FnScope ["row", "at", "cell"] ["row"] (defScope s_places_told) := ⟨rfl, rfl, rfl, by decide +kernel, rfl, by decide +kernel, by decide +kernel⟩
theorem ok_places_told (G : Glo K mg) (c : He.SaysD fa fn K) : Fn P w K mg base "places_told" 1 1 false (gPlaces) := by
  obtain ⟨fd, F⟩ := c.defs (d := dfn ("places_told", none) "places_told" "places_told" s_places_told) (by unfold fn; simp)
  replace F : FunD K "places_told" "places_told" (defArgs s_places_told) (defBody s_places_told) (defScope s_places_told) [] [] (He.ga K "places_told") fd := F
  refine ⟨_, fd, ["row"], ?_, G.g "places_told" (by decide), F.kp, F.bindsN fun _ _ _ _ _ _ us hl => match us, hl with | [_], _ => rfl⟩
  have nd : (["row", "at", "cell"] : List Str).Nodup := sc_places_told.nd
  obtain ⟨_, h_LETTERS⟩ := G.hL
  obtain ⟨_, h_LAD⟩ := G.hA
  obtain ⟨_, h_LN⟩ := G.hN
  obtain ⟨_, h_LT⟩ := G.hT
  apply fn_okE (k := 0) (N := ["row", "at", "cell"]) F sc_places_told rfl (by decide)
  intro c cdv A outer s H E hr
  have hu := hr.units
  have tk := takes_of (X := cxOf (L2.CX P w) P w K mg base ["row", "at", "cell"] "places_told" (defScope s_places_told) (He.ga K "places_told") cdv A outer s H E) rfl rfl rfl rfl
  apply Exists.intro
  apply Exists.intro
  apply And.intro
  · exact (dss_one (ds_ret (de_callTy call_tuple_of cd_tuple rfl (G.n "tuple" (by decide)) (by decide +kernel) (da_cons (de_lcF (own := [("at", 1), ("cell", 2)]) rfl nd (dic_of (di_enumT rfl (G.n "enumerate" (by decide)) (de_var 0))) (blkOk_by (show blkC ["row", "at", "cell"] (defScope s_places_told) _ _ = true from by decide +kernel)) (by decide) (fun s H C cl fp => (dg_tup rfl (dgs_cons (dg_name 1 nd rfl (by first | exact .inl rfl | exact .inr rfl)) (dgs_cons (dg_name 2 nd rfl (by first | exact .inl rfl | exact .inr rfl)) dgs_nil)))) (fun s H C cl fp => (dts_one (dt_cmp op_notN rd_notN (de_var 2) de_non (nomark _)))) (fun s H C cl fp => (de_var 1))) da_nil))))
  · intro ds F1 X1 hn h
    obtain ⟨r, rfl, hl, f⟩ := h
    refine ms_at (e := [.dat (rowD r), .un, .un]) rfl ?_
    dsimp only [msRet, msRetN, msSeq, msIf, msNext, msExpr, msSet, mtAnd, mtOr, mtNot, mTru, mB, mCB, mCall, maCons, maNil, mVar, mC, mOp, mChain, mIf, mAndV, mOrV, mNotV, mLst, mTup, mMS, gI0, gLen, gEq, gNe, gEqS, gNeS, gIn, gAll, gStrip, truD, start0, dn, mLc, miS, mgName, wipeD, mYes, lcD, List.map_cons, List.map_nil, List.replicate, List.cons_append, List.nil_append, List.getElem?_cons_zero, List.getElem?_cons_succ, List.getElem?_nil, List.append_nil, gLe, gLt, Bool.not_true, Bool.not_false, Bool.false_eq_true, reduceIte, gIsN, gNotN, miEnumT, miZ, mSl, moNone, moSome, gIx, miR1, gAdd, decide_true, eq_self, gTuple, rowD]
    have len : (enumD 0 (r.map cD)).length = r.length := by rw [enumD_len, List.length_map]
    refine ⟨by rw [len]; exact sz1000 hl, lcD_gen (g := two 1 2 [.dat (rowD r), .un, .un]) (p := hasD) (f := fstD) _ _ (fun d m => ?_) ?_⟩
    · obtain ⟨k, c, rfl⟩ := enum_mem m
      refine ⟨fun F' q => ⟨rfl, q⟩, fun F' q => ?_, fun _ F' q => q⟩
      cases c with
      | none => exact ⟨(fun v e => nomatch e), q⟩
      | some x => exact ⟨(fun v e => nomatch e), q⟩
    · rw [List.nil_append, enum_plc]
      exact f
theorem sc_cells_at : FnScope ["row", "places", "at"] ["row", "places"] (defScope s_cells_at) := ⟨rfl, rfl, rfl, by decide +kernel, rfl, by decide +kernel, by decide +kernel⟩
theorem ok_cells_at (G : Glo K mg) (c : He.SaysD fa fn K) : Fn P w K mg base "cells_at" 1 2 false (gCells) := by
  obtain ⟨fd, F⟩ := c.defs (d := dfn ("cells_at", none) "cells_at" "cells_at" s_cells_at) (by unfold fn; simp)
  replace F : FunD K "cells_at" "cells_at" (defArgs s_cells_at) (defBody s_cells_at) (defScope s_cells_at) [] [] (He.ga K "cells_at") fd := F
  refine ⟨_, fd, ["row", "places"], ?_, G.g "cells_at" (by decide), F.kp, F.bindsN fun _ _ _ _ _ _ us hl => match us, hl with | [_, _], _ => rfl⟩
  have nd : (["row", "places", "at"] : List Str).Nodup := sc_cells_at.nd
  obtain ⟨_, h_LETTERS⟩ := G.hL
  obtain ⟨_, h_LAD⟩ := G.hA
  obtain ⟨_, h_LN⟩ := G.hN
  obtain ⟨_, h_LT⟩ := G.hT
  apply fn_okE (k := 0) (N := ["row", "places", "at"]) F sc_cells_at rfl (by decide)
  intro c cdv A outer s H E hr
  have hu := hr.units
  have tk := takes_of (X := cxOf (L2.CX P w) P w K mg base ["row", "places", "at"] "cells_at" (defScope s_cells_at) (He.ga K "cells_at") cdv A outer s H E) rfl rfl rfl rfl
  apply Exists.intro
  apply Exists.intro
  apply And.intro
  · exact (dss_one (ds_ret (de_callTy call_tuple_of cd_tuple rfl (G.n "tuple" (by decide)) (by decide +kernel) (da_cons (de_lcF (own := [("at", 2)]) rfl nd (dic_of (di_seq (de_var 1))) (blkOk_by (show blkC ["row", "places", "at"] (defScope s_cells_at) _ _ = true from by decide +kernel)) (by decide) (fun s H C cl fp => (dg_name 2 nd rfl (by first | exact .inl rfl | exact .inr rfl))) (fun s H C cl fp => dts_nil) (fun s H C cl fp => (de_ix (de_var 0) (de_var 2) (fun _ _ => rfl)))) da_nil))))
  · intro ds F1 X1 hn h
    obtain ⟨r, l, rfl, hl, hl2, hb, f⟩ := h
    refine ms_at (e := [.dat (rowD r), .dat (plD l), .un]) rfl ?_
    dsimp only [msRet, msRetN, msSeq, msIf, msNext, msExpr, msSet, mtAnd, mtOr, mtNot, mTru, mB, mCB, mCall, maCons, maNil, mVar, mC, mOp, mChain, mIf, mAndV, mOrV, mNotV, mLst, mTup, mMS, gI0, gLen, gEq, gNe, gEqS, gNeS, gIn, gAll, gStrip, truD, start0, dn, mLc, miS, mgName, wipeD, mYes, lcD, List.map_cons, List.map_nil, List.replicate, List.cons_append, List.nil_append, List.getElem?_cons_zero, List.getElem?_cons_succ, List.getElem?_nil, List.append_nil, gLe, gLt, Bool.not_true, Bool.not_false, Bool.false_eq_true, reduceIte, gIsN, gNotN, miEnumT, miZ, mSl, moNone, moSome, gIx, miR1, gAdd, decide_true, eq_self, gTuple, rowD, plD]
    refine ⟨_, rfl, by rw [List.length_map]; exact sz1000 hl2, lcD_map (f := fun d => match d with | .int i => cD (r[i.toNat]?).join | d => d) _ (fun d m F' q => ?_) ?_⟩
    · obtain ⟨i, mi, rfl⟩ := List.mem_map.mp m
      exact ⟨_, at_row (hb i mi).1 (hb i mi).2 (by omega), q⟩
    · rw [List.map_map]
      unfold rowD cellsR at f
      rw [List.map_map] at f
      exact f
theorem sc_with_places : FnScope ["rows", "row"] ["rows"] (defScope s_with_places) := ⟨rfl, rfl, rfl, by decide +kernel, rfl, by decide +kernel, by decide +kernel⟩
theorem ok_with_places (G : Glo K mg) (c : He.SaysD fa fn K) (H_places_told : Fn P w K mg base "places_told" 1 1 false gPlaces) : Fn P w K mg base "with_places" 2 1 false (gWith) := by
  obtain ⟨fd, F⟩ := c.defs (d := dfn ("with_places", none) "with_places" "with_places" s_with_places) (by unfold fn; simp)
  replace F : FunD K "with_places" "with_places" (defArgs s_with_places) (defBody s_with_places) (defScope s_with_places) [] [] (He.ga K "with_places") fd := F
  refine ⟨_, fd, ["rows"], ?_, G.g "with_places" (by decide), F.kp, F.bindsN fun _ _ _ _ _ _ us hl => match us, hl with | [_], _ => rfl⟩
  have nd : (["rows", "row"] : List Str).Nodup := sc_with_places.nd
  obtain ⟨_, h_LETTERS⟩ := G.hL
  obtain ⟨_, h_LAD⟩ := G.hA
  obtain ⟨_, h_LN⟩ := G.hN
  obtain ⟨_, h_LT⟩ := G.hT
  apply fn_okE (k := 1) (N := ["rows", "row"]) F sc_with_places rfl (by decide)
  intro c cdv A outer s H E hr
  have hu := hr.units
  have tk := takes_of (X := cxOf (L2.CX P w) P w K mg base ["rows", "row"] "with_places" (defScope s_with_places) (He.ga K "with_places") cdv A outer s H E) rfl rfl rfl rfl
  apply Exists.intro
  apply Exists.intro
  apply And.intro
  · exact (dss_one (ds_ret (de_lcF (own := [("row", 1)]) rfl nd (dic_of (di_seq (de_var 0))) (blkOk_by (show blkC ["rows", "row"] (defScope s_with_places) _ _ = true from by decide +kernel)) (by decide) (fun s H C cl fp => (dg_name 1 nd rfl (by first | exact .inl rfl | exact .inr rfl))) (fun s H C cl fp => dts_nil) (fun s H C cl fp => (de_tup (da_cons (de_f H_places_told (hr.mono (by decide)) rfl DL.takes0 (da_cons (de_var 1) da_nil)) (da_cons (de_var 1) da_nil)))))))
  · intro ds F1 X1 hn h
    obtain ⟨d, rs, rfl, hs, hl, hr, f⟩ := h
    refine ms_at (e := [.dat d, .un]) rfl ?_
    cases d with
    | lst es =>
      have hs : es = rs.map rowD := Option.some.inj hs
      dsimp only [msRet, msRetN, msSeq, msIf, msNext, msExpr, msSet, mtAnd, mtOr, mtNot, mTru, mB, mCB, mCall, maCons, maNil, mVar, mC, mOp, mChain, mIf, mAndV, mOrV, mNotV, mLst, mTup, mMS, gI0, gLen, gEq, gNe, gEqS, gNeS, gIn, gAll, gStrip, truD, start0, dn, mLc, miS, mgName, wipeD, mYes, lcD, List.map_cons, List.map_nil, List.replicate, List.cons_append, List.nil_append, List.getElem?_cons_zero, List.getElem?_cons_succ, List.getElem?_nil, List.append_nil, gLe, gLt, Bool.not_true, Bool.not_false, Bool.false_eq_true, reduceIte, gIsN, gNotN, miEnumT, miZ, mSl, moNone, moSome, gIx, miR1, gAdd, decide_true, eq_self, gTuple]
      refine ⟨_, rfl, by rw [hs, List.length_map]; exact sz64 hl, ?_⟩
      rw [hs]
      refine lcD_map (f := fun d => tagD (rwOf d)) _ (fun d m F' q => ?_) ?_
      · obtain ⟨r, mr, rfl⟩ := List.mem_map.mp m
        have q : F' (tagD (rwOf (rowD r))) := q
        rw [row_of (d := rowD r) rfl] at q
        exact ⟨rfl, r, rfl, hr r mr, (show 2 ≤ sizeLine from by decide), q⟩
      · rw [(rowsD_of rs).maps tagD]
        exact f
    | tup es =>
      have hs : es = rs.map rowD := Option.some.inj hs
      dsimp only [msRet, msRetN, msSeq, msIf, msNext, msExpr, msSet, mtAnd, mtOr, mtNot, mTru, mB, mCB, mCall, maCons, maNil, mVar, mC, mOp, mChain, mIf, mAndV, mOrV, mNotV, mLst, mTup, mMS, gI0, gLen, gEq, gNe, gEqS, gNeS, gIn, gAll, gStrip, truD, start0, dn, mLc, miS, mgName, wipeD, mYes, lcD, List.map_cons, List.map_nil, List.replicate, List.cons_append, List.nil_append, List.getElem?_cons_zero, List.getElem?_cons_succ, List.getElem?_nil, List.append_nil, gLe, gLt, Bool.not_true, Bool.not_false, Bool.false_eq_true, reduceIte, gIsN, gNotN, miEnumT, miZ, mSl, moNone, moSome, gIx, miR1, gAdd, decide_true, eq_self, gTuple]
      refine ⟨_, rfl, by rw [hs, List.length_map]; exact sz64 hl, ?_⟩
      rw [hs]
      refine lcD_map (f := fun d => tagD (rwOf d)) _ (fun d m F' q => ?_) ?_
      · obtain ⟨r, mr, rfl⟩ := List.mem_map.mp m
        have q : F' (tagD (rwOf (rowD r))) := q
        rw [row_of (d := rowD r) rfl] at q
        exact ⟨rfl, r, rfl, hr r mr, (show 2 ≤ sizeLine from by decide), q⟩
      · rw [(rowsD_of rs).maps tagD]
        exact f
    | _ => cases hs
theorem sc_unlike_places : FnScope ["marked", "places", "row"] ["marked"] (defScope s_unlike_places) := ⟨rfl, rfl, rfl, by decide +kernel, rfl, by decide +kernel, by decide +kernel⟩
theorem ok_unlike_places (G : Glo K mg) (c : He.SaysD fa fn K) : Fn P w K mg base "unlike_places" 1 1 false (gUnlike) := by
  obtain ⟨fd, F⟩ := c.defs (d := dfn ("unlike_places", none) "unlike_places" "unlike_places" s_unlike_places) (by unfold fn; simp)
  replace F : FunD K "unlike_places" "unlike_places" (defArgs s_unlike_places) (defBody s_unlike_places) (defScope s_unlike_places) [] [] (He.ga K "unlike_places") fd := F
  refine ⟨_, fd, ["marked"], ?_, G.g "unlike_places" (by decide), F.kp, F.bindsN fun _ _ _ _ _ _ us hl => match us, hl with | [_], _ => rfl⟩
  have nd : (["marked", "places", "row"] : List Str).Nodup := sc_unlike_places.nd
  obtain ⟨_, h_LETTERS⟩ := G.hL
  obtain ⟨_, h_LAD⟩ := G.hA
  obtain ⟨_, h_LN⟩ := G.hN
  obtain ⟨_, h_LT⟩ := G.hT
  apply fn_okE (k := 0) (N := ["marked", "places", "row"]) F sc_unlike_places rfl (by decide)
  intro c cdv A outer s H E hr
  have hu := hr.units
  have tk := takes_of (X := cxOf (L2.CX P w) P w K mg base ["marked", "places", "row"] "unlike_places" (defScope s_unlike_places) (He.ga K "unlike_places") cdv A outer s H E) rfl rfl rfl rfl
  apply Exists.intro
  apply Exists.intro
  apply And.intro
  · exact (dss_one (ds_ret (de_sortSet (intD _) rfl hu rfl (G.n "sorted" (by decide)) rfl (G.n "set" (by decide)) (de_lcF (own := [("places", 1), ("row", 2)]) rfl nd (dic_of (di_seq (de_var 0))) (blkOk_by (show blkC ["marked", "places", "row"] (defScope s_unlike_places) _ _ = true from by decide +kernel)) (by decide) (fun s H C cl fp => (dg_tup rfl (dgs_cons (dg_name 1 nd rfl (by first | exact .inl rfl | exact .inr rfl)) (dgs_cons (dg_name 2 nd rfl (by first | exact .inl rfl | exact .inr rfl)) dgs_nil)))) (fun s H C cl fp => (dts_one (dt_truth (de_var 1)))) (fun s H C cl fp => (de_var 1))))))
  · intro ds F1 X1 hn h
    obtain ⟨rs, rfl, hl, f⟩ := h
    refine ms_at (e := [.dat (.lst (rs.map tagD)), .un, .un]) rfl ?_
    dsimp only [msRet, msRetN, msSeq, msIf, msNext, msExpr, msSet, mtAnd, mtOr, mtNot, mTru, mB, mCB, mCall, maCons, maNil, mVar, mC, mOp, mChain, mIf, mAndV, mOrV, mNotV, mLst, mTup, mMS, gI0, gLen, gEq, gNe, gEqS, gNeS, gIn, gAll, gStrip, truD, start0, dn, mLc, miS, mgName, wipeD, mYes, lcD, List.map_cons, List.map_nil, List.replicate, List.cons_append, List.nil_append, List.getElem?_cons_zero, List.getElem?_cons_succ, List.getElem?_nil, List.append_nil, gLe, gLt, Bool.not_true, Bool.not_false, Bool.false_eq_true, reduceIte, gIsN, gNotN, miEnumT, miZ, mSl, moNone, moSome, gIx, miR1, gAdd, decide_true, eq_self, gTuple]
    refine ⟨_, rfl, by rw [List.length_map]; exact sz64 hl, lcD_gen (g := two 1 2 [.dat (.lst (rs.map tagD)), .un, .un]) (p := toldB) (f := fstD) _ _ (fun d m => ?_) ?_⟩
    · obtain ⟨r, m, rfl⟩ := List.mem_map.mp m
      refine ⟨fun F' q => ⟨rfl, q⟩, fun F' q => ?_, fun _ F' q => q⟩
      unfold tagD plD at q ⊢
      cases e : plc r with
      | nil => rw [e] at q; exact q
      | cons i l => rw [e] at q; exact q
    · rw [List.nil_append, told_of]
      refine ⟨_, rfl, Nat.lt_of_le_of_lt (List.length_filter_le ..) (by rw [List.length_map]; exact hl), fun l m => by simpa using (List.mem_filter.mp m).2, fun out nd mem _ => f out nd fun l => ?_⟩
      rw [mem, List.mem_filter, List.mem_map]
      constructor
      · rintro ⟨⟨r, m, e⟩, ne⟩
        exact ⟨r, m, e, by simpa using ne⟩
      · rintro ⟨r, m, e, ne⟩
        exact ⟨⟨r, m, e⟩, by simpa using ne⟩
theorem asc_of {out : List (List Str)} {rs : List Rw} (good : GoodR rs) (nd : out.Nodup) (mem : ∀ l, l ∈ out ↔ l ∈ rs.map plainR) (pw : out.Pairwise fun x y => ltT PyData.str y x = false) : AscR (out.map unplain) rs where
  nd := List.pairwise_map.mpr (nd.imp fun ne e => ne (unplain_inj e))
  mem := fun r => by
    rw [List.mem_map]
    constructor
    · rintro ⟨l, m, rfl⟩
      obtain ⟨r, mr, rfl⟩ := List.mem_map.mp ((mem l).mp m)
      rw [un_plain fun x hx => (good.txt r mr x hx).1]
      exact mr
    · intro m
      exact ⟨plainR r, (mem _).mpr (List.mem_map_of_mem m), un_plain fun x hx => (good.txt r m x hx).1⟩
  asc := by
    rw [List.pairwise_map]
    refine pw.imp fun {x y} h => ?_
    rw [plain_un, plain_un]
    exact h
theorem sc_ascending : FnScope ["rows", "plain", "row", "cell"] ["rows"] (defScope s_ascending) := ⟨rfl, rfl, rfl, by decide +kernel, rfl, by decide +kernel, by decide +kernel⟩
theorem ok_ascending (G : Glo K mg) (c : He.SaysD fa fn K) : Fn P w K mg base "ascending" 1 1 false (gAsc) := by
  obtain ⟨fd, F⟩ := c.defs (d := dfn ("ascending", none) "ascending" "ascending" s_ascending) (by unfold fn; simp)
  replace F : FunD K "ascending" "ascending" (defArgs s_ascending) (defBody s_ascending) (defScope s_ascending) [] [] (He.ga K "ascending") fd := F
  refine ⟨_, fd, ["rows"], ?_, G.g "ascending" (by decide), F.kp, F.bindsN fun _ _ _ _ _ _ us hl => match us, hl with | [_], _ => rfl⟩
  have nd : (["rows", "plain", "row", "cell"] : List Str).Nodup := sc_ascending.nd
  obtain ⟨_, h_LETTERS⟩ := G.hL
  obtain ⟨_, h_LAD⟩ := G.hA
  obtain ⟨_, h_LN⟩ := G.hN
  obtain ⟨_, h_LT⟩ := G.hT
  apply fn_okE (k := 0) (N := ["rows", "plain", "row", "cell"]) F sc_ascending rfl (by decide)
  intro c cdv A outer s H E hr
  have hu := hr.units
  have tk := takes_of (X := cxOf (L2.CX P w) P w K mg base ["rows", "plain", "row", "cell"] "ascending" (defScope s_ascending) (He.ga K "ascending") cdv A outer s H E) rfl rfl rfl rfl
  apply Exists.intro
  apply Exists.intro
  apply And.intro
  · exact (dss_cons (ds_setLcF 1 (own := [("row", 2)]) rfl nd rfl rfl rfl (dic_of (di_seq (de_var 0))) (blkOk_by (show blkC ["rows", "plain", "row", "cell"] (defScope s_ascending) _ _ = true from by decide +kernel)) (by decide) (fun s H C cl fp => (dg_name 2 nd rfl (by first | exact .inl rfl | exact .inr rfl))) (fun s H C cl fp => dts_nil) (fun s H C cl fp => (de_callTy call_tuple_of cd_tuple rfl (G.n "tuple" (by decide)) (by decide +kernel) (da_cons (de_lcF (own := [("cell", 3)]) rfl nd (dic_of (di_seq (de_var 2))) (blk_in (N := ["rows", "plain", "row", "cell"]) (sc0 := defScope s_ascending) rfl (by decide +kernel)) (by decide) (fun s H C cl fp => (dg_name 3 nd rfl (by first | exact .inl rfl | exact .inr rfl))) (fun s H C cl fp => dts_nil) (fun s H C cl fp => (de_or (de_var 3) (de_one de_str)))) da_nil))))
    (dss_one (ds_ret (de_callTy call_tuple_of cd_tuple rfl (G.n "tuple" (by decide)) (by decide +kernel) (da_cons (de_lcF (own := [("row", 2)]) rfl nd (dic_of (di_seq (de_sortSet (strD _) rfl hu rfl (G.n "sorted" (by decide)) rfl (G.n "set" (by decide)) (de_var 1)))) (blkOk_by (show blkC ["rows", "plain", "row", "cell"] (defScope s_ascending) _ _ = true from by decide +kernel)) (by decide) (fun s H C cl fp => (dg_name 2 nd rfl (by first | exact .inl rfl | exact .inr rfl))) (fun s H C cl fp => dts_nil) (fun s H C cl fp => (de_callTy call_tuple_of cd_tuple rfl (G.n "tuple" (by decide)) (by decide +kernel) (da_cons (de_lcF (own := [("cell", 3)]) rfl nd (dic_of (di_seq (de_var 2))) (blk_in (N := ["rows", "plain", "row", "cell"]) (sc0 := defScope s_ascending) rfl (by decide +kernel)) (by decide) (fun s H C cl fp => (dg_name 3 nd rfl (by first | exact .inl rfl | exact .inr rfl))) (fun s H C cl fp => dts_nil) (fun s H C cl fp => (de_or (de_var 3) (de_one de_non)))) da_nil)))) da_nil)))))
  · intro ds F1 X1 hn h
    obtain ⟨d, es, rs, rfl, hs, hr, good, f⟩ := h
    refine ms_at (e := [.dat d, .un, .un, .un]) rfl ?_
    refine seq_st fun R hR => ?_
    dsimp only [msRet, msRetN, msSeq, msIf, msNext, msExpr, msSet, mtAnd, mtOr, mtNot, mTru, mB, mCB, mCall, maCons, maNil, mVar, mC, mOp, mChain, mIf, mAndV, mOrV, mNotV, mLst, mTup, mMS, gI0, gLen, gEq, gNe, gEqS, gNeS, gIn, gAll, gStrip, truD, start0, dn, mLc, miS, mgName, wipeD, mYes, lcD, List.map_cons, List.map_nil, List.replicate, List.cons_append, List.nil_append, List.getElem?_cons_zero, List.getElem?_cons_succ, List.getElem?_nil, List.append_nil, gLe, gLt, Bool.not_true, Bool.not_false, Bool.false_eq_true, reduceIte, gIsN, gNotN, miEnumT, miZ, mSl, moNone, moSome, gIx, miR1, gAdd, decide_true, eq_self, gTuple]
    refine ⟨es, hs, by rw [hr.len]; exact sz64 good.few, lcD_map (f := fun d => .tup ((plainR (rwOf d)).map D.str)) _ (fun d m F' q => ?_) ?_⟩
    · obtain ⟨r, mr, hd⟩ := hr.mem m
      have q : F' (.tup ((plainR (rwOf d)).map D.str)) := q
      rw [row_of hd] at q
      refine ⟨_, hd, by rw [List.length_map]; exact sz1000 (good.small r mr), lcD_map (f := plainD) _ (fun x mx F'' q2 => ?_) ?_⟩
      · obtain ⟨c, mc, rfl⟩ := List.mem_map.mp mx
        cases c with
        | none => exact q2
        | some x => exact or_str (good.txt r mr x mc).1 (good.txt r mr x mc).2 q2
      · rw [plain_cells]
        exact q
    · rw [hr.maps fun r => D.tup ((plainR r).map D.str)]
      refine hR _ ?_
      clear hR
      dsimp only [msRet, msRetN, msSeq, msIf, msNext, msExpr, msSet, mtAnd, mtOr, mtNot, mTru, mB, mCB, mCall, maCons, maNil, mVar, mC, mOp, mChain, mIf, mAndV, mOrV, mNotV, mLst, mTup, mMS, gI0, gLen, gEq, gNe, gEqS, gNeS, gIn, gAll, gStrip, truD, start0, dn, mLc, miS, mgName, wipeD, mYes, lcD, List.map_cons, List.map_nil, List.replicate, List.cons_append, List.nil_append, List.getElem?_cons_zero, List.getElem?_cons_succ, List.getElem?_nil, List.append_nil, gLe, gLt, Bool.not_true, Bool.not_false, Bool.false_eq_true, reduceIte, gIsN, gNotN, miEnumT, miZ, mSl, moNone, moSome, gIx, miR1, gAdd, decide_true, eq_self, gTuple]
      refine ⟨rs.map plainR, ?_, by rw [List.length_map]; exact good.few, ?_, fun out nd mem pw => ?_⟩
      · unfold tupsD
        rw [List.map_map]
        rfl
      · intro l m
        obtain ⟨r, mr, rfl⟩ := List.mem_map.mp m
        have := good.ne r mr
        cases r with
        | nil => exact absurd rfl this
        | cons _ _ => exact fun e => nomatch e
      · have small : ∀ l ∈ out, l.length ≤ 1000 ∧ ∀ x ∈ l, x.length ≤ 1000 := fun l m => by
          obtain ⟨r, mr, rfl⟩ := List.mem_map.mp ((mem l).mp m)
          refine ⟨by unfold plainR; rw [List.length_map]; exact good.small r mr, fun x mx => ?_⟩
          obtain ⟨c, mc, rfl⟩ := List.mem_map.mp mx
          cases c with
          | none => exact Nat.zero_le _
          | some x => exact (good.txt r mr x mc).2
        have few : out.length < 64 := Nat.lt_of_le_of_lt (nodup_len out (rs.map plainR) nd fun l m => (mem l).mp m) (by rw [List.length_map]; exact good.few)
        refine ⟨_, rfl, by unfold tupsD; rw [List.length_map]; exact sz64 few, lcD_map (f := fun d => .tup (((seqD d).getD []).map unD)) _ (fun d m F' q => ?_) ?_⟩
        · obtain ⟨l, ml, rfl⟩ := List.mem_map.mp m
          refine ⟨_, rfl, by rw [List.length_map]; exact sz1000 (small l ml).1, lcD_map (f := unD) _ (fun x mx F'' q2 => ?_) q⟩
          obtain ⟨x, mx2, rfl⟩ := List.mem_map.mp mx
          by_cases e : x = ("" : Str)
          · subst e
            exact q2
          · have q2 : F'' (if x = ("" : Str) then .non else .str x) := q2
            rw [if_neg e] at q2
            exact or_str e ((small l ml).2 x mx2) q2
        · have g := f _ (asc_of good nd mem pw)
          rw [List.map_map] at g
          unfold tupsD
          rw [List.map_map]
          have e : (out.map ((fun d => D.tup (((seqD d).getD []).map unD)) ∘ fun ks => D.tup (ks.map D.str))) = out.map (rowD ∘ unplain) := by
            refine List.map_congr_left fun l _ => ?_
            show D.tup ((l.map D.str).map unD) = rowD (unplain l)
            rw [un_cells]
            rfl
          exact (congrArg (fun z => F1 (D.tup z)) e).mpr g
end
end K04

set_option Elab.async false
set_option linter.all false
set_option maxRecDepth 100000
set_option maxHeartbeats 4000000
namespace K04
open PySem PySem.Spec PyProof.Rows L2 DL XS
def gLeft : FF := fun ds F _ => ∃ (d : D) (es : List D) (rs : List Rw) (n : Nat), ds = [d] ∧ seqD d = some es ∧ RowsD es rs ∧ GoodR rs ∧ (∀ r ∈ rs, r.length = n) ∧ ∀ (a out ks : List Rw), AscR a rs → AscR out ks → (∀ r, r ∈ ks ↔ keepR a r) → F (.tup (out.map rowD))
section
variable {P : Program} {w : World} {K : Fg} {mg : Str → Option Value} {base : Heap}
theorem sc_rows_left : FnScope ["rows", "marked", "kept", "places", "larger", "alike", "its", "row"] ["rows"] (defScope s_rows_left) := ⟨rfl, rfl, rfl, by decide +kernel, rfl, by decide +kernel, by decide +kernel⟩
theorem ok_rows_left (G : Glo K mg) (c : He.SaysD fa fn K) (H_ascending : Fn P w K mg base "ascending" 1 1 false gAsc) (H_with_places : Fn P w K mg base "with_places" 2 1 false gWith) (H_unlike_places : Fn P w K mg base "unlike_places" 1 1 false gUnlike) (H_cells_at : Fn P w K mg base "cells_at" 1 2 false gCells) : Fn P w K mg base "rows_left" 3 1 false (gLeft) := by
  obtain ⟨fd, F⟩ := c.defs (d := dfn ("rows_left", none) "rows_left" "rows_left" s_rows_left) (by unfold fn; simp)
  replace F : FunD K "rows_left" "rows_left" (defArgs s_rows_left) (defBody s_rows_left) (defScope s_rows_left) [] [] (He.ga K "rows_left") fd := F
  refine ⟨_, fd, ["rows"], ?_, G.g "rows_left" (by decide), F.kp, F.bindsN fun _ _ _ _ _ _ us hl => match us, hl with | [_], _ => rfl⟩
  have nd : (["rows", "marked", "kept", "places", "larger", "alike", "its", "row"] : List Str).Nodup := sc_rows_left.nd
  obtain ⟨_, h_LETTERS⟩ := G.hL
  obtain ⟨_, h_LAD⟩ := G.hA
  obtain ⟨_, h_LN⟩ := G.hN
  obtain ⟨_, h_LT⟩ := G.hT
  apply fn_okE (k := 2) (N := ["rows", "marked", "kept", "places", "larger", "alike", "its", "row"]) F sc_rows_left rfl (by decide)
  intro c cdv A outer s H E hr
  have hu := hr.units
  have tk := takes_of (X := cxOf (L2.CX P w) P w K mg base ["rows", "marked", "kept", "places", "larger", "alike", "its", "row"] "rows_left" (defScope s_rows_left) (He.ga K "rows_left") cdv A outer s H E) rfl rfl rfl rfl
  apply Exists.intro
  apply Exists.intro
  apply And.intro
  · exact (dss_cons (ds_set 1 nd rfl (by first | exact .inl rfl | exact .inr rfl) (de_f H_with_places (hr.mono (by decide)) rfl tk (da_cons (de_f H_ascending (hr.mono (by decide)) rfl tk (da_cons (de_var 0) da_nil)) da_nil)))
    (dss_cons (ds_own 2 nd rfl (by first | exact .inl rfl | exact .inr rfl) (oe_lst da_nil))
    (dss_cons (ds_for (passes_of rfl) rfl (di_seq (de_f H_unlike_places (hr.mono (by decide)) rfl tk (da_cons (de_var 1) da_nil))) (dg_name 3 nd rfl (by first | exact .inl rfl | exact .inr rfl)) (dss_cons (ds_set 4 nd rfl (by first | exact .inl rfl | exact .inr rfl) (de_dcF (own := [("its", 6), ("row", 7)]) rfl (u0 hu) nd (dic_of (di_seq (de_var 1))) (blkOk_by (show blkC ["rows", "marked", "kept", "places", "larger", "alike", "its", "row"] (defScope s_rows_left) _ _ = true from by decide +kernel)) (by decide) (fun s H C cl fp => (dg_tup rfl (dgs_cons (dg_name 6 nd rfl (by first | exact .inl rfl | exact .inr rfl)) (dgs_cons (dg_name 7 nd rfl (by first | exact .inl rfl | exact .inr rfl)) dgs_nil)))) (fun s H C cl fp => (dts_one (dt_cmp (op_neD hu) rd_ne (de_var 6) (de_var 3) (nomark _)))) (fun s H C cl fp => (de_f H_cells_at (hr.mono (by decide)) rfl DL.takes0 (da_cons (de_var 7) (da_cons (de_var 3) da_nil)))) (fun s H C cl fp => de_bl)))
    (dss_cons (ds_setLcF 5 (own := [("its", 6), ("row", 7)]) rfl nd rfl rfl rfl (dic_of (di_seq (de_var 1))) (blkOk_by (show blkC ["rows", "marked", "kept", "places", "larger", "alike", "its", "row"] (defScope s_rows_left) _ _ = true from by decide +kernel)) (by decide) (fun s H C cl fp => (dg_tup rfl (dgs_cons (dg_name 6 nd rfl (by first | exact .inl rfl | exact .inr rfl)) (dgs_cons (dg_name 7 nd rfl (by first | exact .inl rfl | exact .inr rfl)) dgs_nil)))) (fun s H C cl fp => (dts_one (dt_cmp (op_eqD hu) rd_eq (de_var 6) (de_var 3) (nomark _)))) (fun s H C cl fp => (de_var 7)))
    (dss_one (ds_extO 2 (pv 2) (de_lcF (own := [("row", 7)]) rfl nd (dic_of (di_seq (de_var 5))) (blkOk_by (show blkC ["rows", "marked", "kept", "places", "larger", "alike", "its", "row"] (defScope s_rows_left) _ _ = true from by decide +kernel)) (by decide) (fun s H C cl fp => (dg_name 7 nd rfl (by first | exact .inl rfl | exact .inr rfl))) (fun s H C cl fp => (dts_one (dt_cmp (op_notInX (u1 hu)) rd_inX (de_f H_cells_at (hr.mono (by decide)) rfl DL.takes0 (da_cons (de_var 7) (da_cons (de_var 3) da_nil))) (de_var 4) (by rfl)))) (fun s H C cl fp => (de_var 7))))))))
    (dss_one (ds_pub 2 (ds_ret (de_f H_ascending (hr.mono (by decide)) rfl tk (da_cons (de_var 2) da_nil))))))))
  · intro ds F1 X1 hn h
    obtain ⟨d, es, rs, n, rfl, hs, hr, good, wide, f⟩ := h
    refine ms_at (e := [.dat d, .un, .un, .un, .un, .un, .un, .un]) rfl ?_
    refine seq_st fun R hR => ?_
    dsimp only [msRet, msRetN, msSeq, msIf, msNext, msExpr, msSet, mtAnd, mtOr, mtNot, mTru, mB, mCB, mCall, maCons, maNil, mVar, mC, mOp, mChain, mIf, mAndV, mOrV, mNotV, mLst, mTup, mMS, gI0, gLen, gEq, gNe, gEqS, gNeS, gIn, gAll, gStrip, truD, start0, dn, mLc, miS, mgName, wipeD, mYes, lcD, List.map_cons, List.map_nil, List.replicate, List.cons_append, List.nil_append, List.getElem?_cons_zero, List.getElem?_cons_succ, List.getElem?_nil, List.append_nil, gLe, gLt, Bool.not_true, Bool.not_false, Bool.false_eq_true, reduceIte, gIsN, gNotN, miEnumT, miZ, mSl, moNone, moSome, gIx, miR1, gAdd, decide_true, eq_self, gTuple, msOwn, msExtO, msPub, mDc, mLend]
    refine ⟨rfl, d, es, rs, rfl, hs, hr, good, fun a ha => ⟨rfl, _, a, rfl, rfl, (ha.good good).few, (ha.good good).small, ?_⟩⟩
    have ga := ha.good good
    have wa : ∀ r ∈ a, r.length = n := fun r m => wide r ((ha.mem r).mp m)
    refine hR _ ?_
    clear hR
    refine seq_st fun R hR => ?_
    dsimp only [msRet, msRetN, msSeq, msIf, msNext, msExpr, msSet, mtAnd, mtOr, mtNot, mTru, mB, mCB, mCall, maCons, maNil, mVar, mC, mOp, mChain, mIf, mAndV, mOrV, mNotV, mLst, mTup, mMS, gI0, gLen, gEq, gNe, gEqS, gNeS, gIn, gAll, gStrip, truD, start0, dn, mLc, miS, mgName, wipeD, mYes, lcD, List.map_cons, List.map_nil, List.replicate, List.cons_append, List.nil_append, List.getElem?_cons_zero, List.getElem?_cons_succ, List.getElem?_nil, List.append_nil, gLe, gLt, Bool.not_true, Bool.not_false, Bool.false_eq_true, reduceIte, gIsN, gNotN, miEnumT, miZ, mSl, moNone, moSome, gIx, miR1, gAdd, decide_true, eq_self, gTuple, msOwn, msExtO, msPub, mDc, mLend]
    refine ⟨by decide, ?_⟩
    refine hR _ ?_
    clear hR
    refine seq_st fun R hR => ?_
    dsimp only [msRet, msRetN, msSeq, msIf, msNext, msExpr, msSet, mtAnd, mtOr, mtNot, mTru, mB, mCB, mCall, maCons, maNil, mVar, mC, mOp, mChain, mIf, mAndV, mOrV, mNotV, mLst, mTup, mMS, gI0, gLen, gEq, gNe, gEqS, gNeS, gIn, gAll, gStrip, truD, start0, dn, mLc, miS, mgName, wipeD, mYes, lcD, List.map_cons, List.map_nil, List.replicate, List.cons_append, List.nil_append, List.getElem?_cons_zero, List.getElem?_cons_succ, List.getElem?_nil, List.append_nil, gLe, gLt, Bool.not_true, Bool.not_false, Bool.false_eq_true, reduceIte, gIsN, gNotN, miEnumT, miZ, mSl, moNone, moSome, gIx, miR1, gAdd, decide_true, eq_self, gTuple, msOwn, msExtO, msPub, mDc, mLend, msFor]
    refine ⟨rfl, a, rfl, ga.few, fun out nd mem => ⟨_, rfl, ?_⟩⟩
    refine forD_map plD (fun done δ => ∃ x3 x4 x5 x6 x7, δ = [.dat d, .dat (.lst (a.map tagD)), .own ((done.flatMap (selR a)).map rowD), x3, x4, x5, x6, x7]) out out [] _ rfl (fun l pre rest δ eo i k' nx _ _ => ?_) ⟨_, _, _, _, _, rfl⟩ (fun δ i => ?_)
    · obtain ⟨x3, x4, x5, x6, x7, rfl⟩ := i
      have nd1 : (pre ++ [l]).Nodup := by
        have : (pre ++ [l] ++ rest).Nodup := by rw [List.append_assoc]; exact eo ▸ nd
        exact (List.nodup_append.mp this).1
      have nd0 : pre.Nodup := (List.nodup_append.mp nd1).1
      obtain ⟨r0, m0, e0, _⟩ := (mem l).mp (by rw [← eo]; simp)
      have hb : ∀ r ∈ a, ∀ i ∈ l, 0 ≤ i ∧ i < r.length := fun r m i mi => by
        rw [← e0] at mi
        have := plc_lt mi
        rw [wa r m, ← wa r0 m0]
        exact this
      have hl : l.length ≤ 1000 := by
        have h1 := nodup_len l ((List.range n).map fun (i : Nat) => (i : Int)) (by rw [← e0]; exact plc_nodup r0) fun i mi => by
          obtain ⟨h1, h2⟩ := hb r0 m0 i mi
          rw [wa r0 m0] at h2
          refine List.mem_map.mpr ⟨i.toNat, List.mem_range.mpr (by omega), by omega⟩
        rw [List.length_map, List.length_range, ← wa r0 m0] at h1
        exact Nat.le_trans h1 (ga.small r0 m0)
      have tags : (a.map tagD).length < sizeLine := by rw [List.length_map]; exact sz64 ga.few
      refine ms_at (ms := fun δ k => msSeq _ _ δ k) (e := [.dat d, .dat (.lst (a.map tagD)), .own ((pre.flatMap (selR a)).map rowD), .dat (plD l), x4, x5, x6, x7]) rfl ?_
      refine seq_st fun R2 hR2 => ?_
      dsimp only [msRet, msRetN, msSeq, msIf, msNext, msExpr, msSet, mtAnd, mtOr, mtNot, mTru, mB, mCB, mCall, maCons, maNil, mVar, mC, mOp, mChain, mIf, mAndV, mOrV, mNotV, mLst, mTup, mMS, gI0, gLen, gEq, gNe, gEqS, gNeS, gIn, gAll, gStrip, truD, start0, dn, mLc, miS, mgName, wipeD, mYes, lcD, List.map_cons, List.map_nil, List.replicate, List.cons_append, List.nil_append, List.getElem?_cons_zero, List.getElem?_cons_succ, List.getElem?_nil, List.append_nil, gLe, gLt, Bool.not_true, Bool.not_false, Bool.false_eq_true, reduceIte, gIsN, gNotN, miEnumT, miZ, mSl, moNone, moSome, gIx, miR1, gAdd, decide_true, eq_self, gTuple, msOwn, msExtO, msPub, mDc, mLend]
      refine ⟨_, rfl, tags, dcD_gen (g := two 6 7 [.dat d, .dat (.lst (a.map tagD)), .own ((pre.flatMap (selR a)).map rowD), .dat (plD l), x4, x5, .un, .un]) (p := fun d => !atP l d) (kf := keyAt l) _ _ (fun d m => ?_) ?_⟩
      · obtain ⟨r, mr, rfl⟩ := List.mem_map.mp m
        refine ⟨fun F' q => ⟨rfl, q⟩, fun F' q => ⟨plain_pl _, plain_pl _, q⟩, fun F' q => ?_, fun F' q => q _⟩
        rw [key_tag, keyD_row] at q
        exact ⟨rfl, r, l, rfl, ga.small r mr, hl, hb r mr, q⟩
      · rw [List.nil_append, keys_of]
        intro dd hdd
        refine hR2 _ ?_
        clear hR2
        refine ms_at (ms := fun δ k => msSeq _ _ δ k) (e := [.dat d, .dat (.lst (a.map tagD)), .own ((pre.flatMap (selR a)).map rowD), .dat (plD l), .dat dd, x5, x6, x7]) rfl ?_
        refine seq_st fun R2 hR2 => ?_
        dsimp only [msRet, msRetN, msSeq, msIf, msNext, msExpr, msSet, mtAnd, mtOr, mtNot, mTru, mB, mCB, mCall, maCons, maNil, mVar, mC, mOp, mChain, mIf, mAndV, mOrV, mNotV, mLst, mTup, mMS, gI0, gLen, gEq, gNe, gEqS, gNeS, gIn, gAll, gStrip, truD, start0, dn, mLc, miS, mgName, wipeD, mYes, lcD, List.map_cons, List.map_nil, List.replicate, List.cons_append, List.nil_append, List.getElem?_cons_zero, List.getElem?_cons_succ, List.getElem?_nil, List.append_nil, gLe, gLt, Bool.not_true, Bool.not_false, Bool.false_eq_true, reduceIte, gIsN, gNotN, miEnumT, miZ, mSl, moNone, moSome, gIx, miR1, gAdd, decide_true, eq_self, gTuple, msOwn, msExtO, msPub, mDc, mLend]
        refine ⟨_, rfl, tags, lcD_gen (g := two 6 7 [.dat d, .dat (.lst (a.map tagD)), .own ((pre.flatMap (selR a)).map rowD), .dat (plD l), .dat dd, x5, .un, .un]) (p := atP l) (f := sndD) _ _ (fun d m => ?_) ?_⟩
        · obtain ⟨r, mr, rfl⟩ := List.mem_map.mp m
          exact ⟨fun F' q => ⟨rfl, q⟩, fun F' q => ⟨plain_pl _, plain_pl _, q⟩, fun _ F' q => q⟩
        · rw [List.nil_append, tags_of]
          refine hR2 _ ?_
          clear hR2
          refine ms_at (e := [.dat d, .dat (.lst (a.map tagD)), .own ((pre.flatMap (selR a)).map rowD), .dat (plD l), .dat dd, .dat (.lst ((a.filter fun r => decide (plc r = l)).map rowD)), x6, x7]) rfl ?_
          dsimp only [msRet, msRetN, msSeq, msIf, msNext, msExpr, msSet, mtAnd, mtOr, mtNot, mTru, mB, mCB, mCall, maCons, maNil, mVar, mC, mOp, mChain, mIf, mAndV, mOrV, mNotV, mLst, mTup, mMS, gI0, gLen, gEq, gNe, gEqS, gNeS, gIn, gAll, gStrip, truD, start0, dn, mLc, miS, mgName, wipeD, mYes, lcD, List.map_cons, List.map_nil, List.replicate, List.cons_append, List.nil_append, List.getElem?_cons_zero, List.getElem?_cons_succ, List.getElem?_nil, List.append_nil, gLe, gLt, Bool.not_true, Bool.not_false, Bool.false_eq_true, reduceIte, gIsN, gNotN, miEnumT, miZ, mSl, moNone, moSome, gIx, miR1, gAdd, decide_true, eq_self, gTuple, msOwn, msExtO, msPub, mDc, mLend]
          refine ⟨_, rfl, by rw [List.length_map]; exact sz64 (Nat.lt_of_le_of_lt (List.length_filter_le ..) ga.few), lcD_if (p := outP a l) (f := id) _ (fun d m F' q => ?_) (fun d m _ F' q => q) ?_⟩
          · obtain ⟨r, mr, rfl⟩ := List.mem_map.mp m
            have mr : r ∈ a := (List.mem_filter.mp mr).1
            refine ⟨rfl, r, l, rfl, ga.small r mr, hl, hb r mr, toK (cellsR r l), _, (keyD_row _).symm, hdd, ?_⟩
            have e : (true ^^ decide (toK (cellsR r l) ∈ (a.filter fun r => !decide (plc r = l)).map fun s => toK (cellsR s l))) = outP a l (rowD r) := by
              unfold outP
              rw [row_of (d := rowD r) rfl, decide_eq_decide.mpr inK, Bool.true_xor]
            rw [e]
            exact q
          · rw [sel_of]
            have f1 := sel_few ha.nd nd0
            have f2 : (selR a l).length ≤ a.length := Nat.le_trans (List.length_filter_le ..) (List.length_filter_le ..)
            refine ⟨by rw [List.length_map, List.length_map]; exact Nat.le_trans (Nat.add_le_add f1 f2) (Nat.le_trans (Nat.add_le_add (Nat.le_of_lt ga.few) (Nat.le_of_lt ga.few)) (by decide)), nx _ ⟨.dat (plD l), .dat dd, .dat (.lst ((a.filter fun r => decide (plc r = l)).map rowD)), x6, x7, ?_⟩⟩
            rw [List.flatMap_append, List.map_append, List.flatMap_cons, List.flatMap_nil, List.append_nil]
            rfl
    · obtain ⟨x3, x4, x5, x6, x7, rfl⟩ := i
      refine hR _ ?_
      clear hR
      dsimp only [msRet, msRetN, msSeq, msIf, msNext, msExpr, msSet, mtAnd, mtOr, mtNot, mTru, mB, mCB, mCall, maCons, maNil, mVar, mC, mOp, mChain, mIf, mAndV, mOrV, mNotV, mLst, mTup, mMS, gI0, gLen, gEq, gNe, gEqS, gNeS, gIn, gAll, gStrip, truD, start0, dn, mLc, miS, mgName, wipeD, mYes, lcD, List.map_cons, List.map_nil, List.replicate, List.cons_append, List.nil_append, List.getElem?_cons_zero, List.getElem?_cons_succ, List.getElem?_nil, List.append_nil, gLe, gLt, Bool.not_true, Bool.not_false, Bool.false_eq_true, reduceIte, gIsN, gNotN, miEnumT, miZ, mSl, moNone, moSome, gIx, miR1, gAdd, decide_true, eq_self, gTuple, msOwn, msExtO, msPub, mDc, mLend]
      have few := Nat.lt_of_le_of_lt (sel_few ha.nd nd) ga.few
      have mem' : ∀ r, r ∈ out.flatMap (selR a) ↔ keepR a r := fun r => sels_mem mem
      refine ⟨rfl, _, _, out.flatMap (selR a), rfl, rfl, rowsD_of _, ga.sub few fun r m => ((mem' r).mp m).1, fun o ho => f a o _ ha ho mem'⟩
end
end K04

set_option Elab.async false
set_option linter.all false
set_option maxRecDepth 100000
set_option maxHeartbeats 4000000
namespace K04
open PySem PySem.Spec PyProof.Rows L2 DL XS
/-- the exception of tables: its class, its __init__ -/
def Exs (P : Program) (w : World) (K : Fg) (mg : Str → Option Value) (base : Heap) : Prop := ∃ (fI : Addr) (fd : FuncData) (ps : List Str), OexC K (iT K) ∧ PySem.W.findIn K (.ref (iT K)) "__init__" = some (some (.ref fI)) ∧ PySem.W.typeIn K (.ref fI) = some (.type "function") ∧
  FnOk P w K mg base (L2.CX P w) 1 fI fd ps (spX1 (iT K) "word") ∧ Binds K fd ps []
def V3 (K : Fg) (d : D) : Prop := V1 K d ∧ (elD d).length ≤ 60 ∧ ∀ e ∈ elD d, V2 K e
/-- the word for which rows are refused -/
def badR (d : D) (n : Int) : Option Str := if isSeqD d = true then (if ((elD d).all fun e => wideD e n) = true then (if ((elD d).all fun e => (elD e).all cellB) = true then none else some "cell") else some "row") else some "rows"
def orX (K : Fg) (X : XC) (F : Prop) : Option Str → Prop
  | none => F
  | some z => X (iT K, [("word", .str z)])
def gNeedR (K : Fg) : FF := fun ds F X => ∃ (d : D) (n : Int), ds = [d, .int n] ∧ V3 K d ∧ orX K X (F .non) (badR d n)
theorem lc1_map {j : Nat} {me : ME} {δ : List Sl} {f : D → D} {F : List D → Prop} : ∀ (ds acc : List D), acc.length + ds.length ≤ sizeLine → (∀ d ∈ ds, ∀ F' : D → Prop, F' (f d) → me (δ.set j (.dat d)) F' fun _ => False) → F (acc ++ ds.map f) → lc1D j me δ F ds acc
  | [], acc, _, _, h => by rw [List.map_nil, List.append_nil] at h; exact h
  | d :: ds, acc, hz, hs, h => by
    rw [List.length_cons] at hz
    refine hs d (List.mem_cons_self ..) _ ⟨by omega, lc1_map ds _ (by rw [List.length_append, List.length_singleton]; omega) (fun e m => hs e (List.mem_cons_of_mem _ m)) ?_⟩
    rw [List.append_assoc]
    exact h
theorem lc2_map {i j : Nat} {mi1 : MA} {me : ME} {δ : List Sl} {el : D → List D} {f : D → D} {N : Nat} {F : List D → Prop} : ∀ (ds acc : List D), acc.length + ds.length * N ≤ sizeLine →
    (∀ d ∈ ds, (el d).length ≤ N ∧ (∀ F' : List D → Prop, F' (el d) → mi1 (δ.set i (.dat d)) F' fun _ => False) ∧ ∀ e ∈ el d, ∀ F' : D → Prop, F' (f e) → me ((wipeD (δ.set i (.dat d)) [j]).set j (.dat e)) F' fun _ => False) →
    F (acc ++ (ds.flatMap el).map f) → lc2D i j mi1 me δ F ds acc
  | [], acc, _, _, h => by rw [List.flatMap_nil, List.map_nil, List.append_nil] at h; exact h
  | d :: ds, acc, hz, hs, h => by
    obtain ⟨h1, h2, h3⟩ := hs d (List.mem_cons_self ..)
    rw [List.length_cons, Nat.add_mul, Nat.one_mul] at hz
    refine h2 _ (lc1_map (f := f) _ _ (by omega) h3 ?_)
    refine lc2_map (el := el) (f := f) (N := N) ds _ (by rw [List.length_append, List.length_map]; omega) (fun e m => hs e (List.mem_cons_of_mem _ m)) ?_
    rw [List.flatMap_cons, List.map_append] at h
    rw [List.append_assoc]
    exact h
theorem all_flat (f : D → Bool) (el : D → List D) : ∀ ds : List D, (ds.flatMap el).all f = ds.all fun d => (el d).all f
  | [] => rfl
  | d :: ds => by rw [List.flatMap_cons, List.all_append, List.all_cons, all_flat f el ds]
theorem cell_is {d : D} (h : cellB d = true) : d = cD (celOf d) ∧ ∀ x, celOf d = some x → x ≠ "" ∧ x.length ≤ 1000 := by
  cases d with
  | non => exact ⟨rfl, fun _ e => nomatch e⟩
  | str z =>
    refine ⟨rfl, fun x e => ?_⟩
    cases e
    have h : (decide (1 ≤ (z.length : Int)) && decide ((z.length : Int) ≤ 6) && decide (Txt.stripChars z "abcdefghijklmnopqrstuvwxyz0123456789" = "")) = true := h
    rw [Bool.and_eq_true, Bool.and_eq_true, decide_eq_true_eq, decide_eq_true_eq] at h
    obtain ⟨⟨h1, h2⟩, _⟩ := h
    refine ⟨fun e => ?_, by omega⟩
    subst e
    exact absurd h1 (by decide)
  | _ => cases h
theorem row_is {e : D} {n : Int} (hw : wideD e n = true) (hc : (elD e).all cellB = true) : seqD e = some ((rwOf e).map cD) ∧ ((rwOf e).length : Int) = n ∧ ∀ x, some x ∈ rwOf e → x ≠ "" ∧ x.length ≤ 1000 := by
  obtain ⟨h1, h2⟩ := Bool.and_eq_true_iff.mp hw
  have h2 := of_decide_eq_true h2
  have all := List.all_eq_true.mp hc
  have es : elD e = (rwOf e).map cD := by
    unfold rwOf
    show elD e = ((elD e).map celOf).map cD
    rw [List.map_map]
    conv => lhs; rw [← List.map_id (elD e)]
    exact List.map_congr_left fun d m => (cell_is (all d m)).1
  refine ⟨?_, ?_, fun x m => ?_⟩
  · cases e with
    | lst l => exact congrArg some es
    | tup l => exact congrArg some es
    | _ => cases h1
  · rw [es, List.length_map] at h2
    exact h2
  · obtain ⟨d, md, ed⟩ := List.mem_map.mp (show some x ∈ (elD e).map celOf from m)
    exact (cell_is (all d md)).2 x ed
theorem rows_is : ∀ (es : List D) {n : Int}, 1 ≤ n → n ≤ 1000 → (es.all fun e => wideD e n) = true → (es.all fun e => (elD e).all cellB) = true → RowsD es (es.map rwOf) ∧ ∀ r ∈ es.map rwOf, (r.length : Int) = n ∧ ∀ x, some x ∈ r → x ≠ "" ∧ x.length ≤ 1000
  | [], _, _, _, _, _ => ⟨.nil, fun _ m => nomatch m⟩
  | e :: es, n, h0, h1, hw, hc => by
    rw [List.all_cons, Bool.and_eq_true] at hw hc
    obtain ⟨r1, r2⟩ := rows_is es h0 h1 hw.2 hc.2
    obtain ⟨a, b, c⟩ := row_is hw.1 hc.1
    refine ⟨.cons a r1, fun r m => ?_⟩
    rcases List.mem_cons.mp m with rfl | m
    · exact ⟨b, c⟩
    · exact r2 r m
theorem ok_exs {P : Program} {w : World} {K : Fg} {mg : Str → Option Value} {base : Heap} (c : He.SaysD fa fn K) (h1 : OexC K (iT K)) (h2 : PySem.W.findIn K (.ref (iT K)) "__init__" = some (some (.ref (He.ma K (iT K) "__init__")))) (h3 : PySem.W.typeIn K (.ref (He.ma K (iT K) "__init__")) = some (.type "function")) (h4 : PySem.W.findIn K (.ref (iT K)) "word" = some none) : Exs P w K mg base := by
  obtain ⟨fd, F⟩ := c.defs (d := dfn ("InvalidTable", some "__init__") "__init__" "InvalidTable.__init__" s_InvalidTable_init) (by unfold fn; simp)
  replace F : FunD K "__init__" "InvalidTable.__init__" (defArgs s_InvalidTable_init) (defBody s_InvalidTable_init) (defScope s_InvalidTable_init) [] [] (He.ma K (iT K) "__init__") fd := F
  have sc : FnScope ["self", "word"] ["self", "word"] (defScope s_InvalidTable_init) := ⟨rfl, rfl, rfl, by decide +kernel, rfl, by decide +kernel, by decide +kernel⟩
  refine ⟨_, fd, ["self", "word"], h1, h2, h3, fn_x1 F sc rfl rfl h1 h4 fun cdv A outer s H E => pss_one (ps_ost (pv 0) (pv 1)), F.bindsN fun _ _ _ _ _ _ us hl => match us, hl with | [_, _], _ => rfl⟩
section
variable {P : Program} {w : World} {K : Fg} {mg : Str → Option Value} {base : Heap}
theorem sc_need_rows : FnScope ["rows", "width", "row", "cell"] ["rows", "width"] (defScope s_need_rows) := ⟨rfl, rfl, rfl, by decide +kernel, rfl, by decide +kernel, by decide +kernel⟩
theorem ok_need_rows (G : Glo K mg) (c : He.SaysD fa fn K) (H_is_sequence : Fn P w K mg base "is_sequence" 1 1 false (gSeq K)) (H_has_width : Fn P w K mg base "has_width" 2 2 false (gWide K)) (H_is_cell : Fn P w K mg base "is_cell" 3 1 false (gCell K)) (ex0 : Exs P w K mg base) : Fn P w K mg base "need_rows" 4 2 false (gNeedR K) := by
  obtain ⟨fd, F⟩ := c.defs (d := dfn ("need_rows", none) "need_rows" "need_rows" s_need_rows) (by unfold fn; simp)
  replace F : FunD K "need_rows" "need_rows" (defArgs s_need_rows) (defBody s_need_rows) (defScope s_need_rows) [] [] (He.ga K "need_rows") fd := F
  refine ⟨_, fd, ["rows", "width"], ?_, G.g "need_rows" (by decide), F.kp, F.bindsN fun _ _ _ _ _ _ us hl => match us, hl with | [_, _], _ => rfl⟩
  have nd : (["rows", "width", "row", "cell"] : List Str).Nodup := sc_need_rows.nd
  obtain ⟨_, h_LETTERS⟩ := G.hL
  obtain ⟨_, h_LAD⟩ := G.hA
  obtain ⟨_, h_LN⟩ := G.hN
  obtain ⟨_, h_LT⟩ := G.hT
  obtain ⟨fI, fdI, psI, oex, iC, tI, FI, bI⟩ := ex0
  apply fn_okE (k := 3) (N := ["rows", "width", "row", "cell"]) F sc_need_rows rfl (by decide)
  intro c cdv A outer s H E hr
  have hu := hr.units
  have tk := takes_of (X := cxOf (L2.CX P w) P w K mg base ["rows", "width", "row", "cell"] "need_rows" (defScope s_need_rows) (He.ga K "need_rows") cdv A outer s H E) rfl rfl rfl rfl
  apply Exists.intro
  apply Exists.intro
  apply And.intro
  · exact (dss_cons (ds_if (dt_not (dt_truth (de_f H_is_sequence (hr.mono (by decide)) rfl tk (da_cons (de_var 0) da_nil)))) (dss_one (ds_raise1 rfl tk oex iC tI FI (hr.mono (by decide)) bI rfl (G.g "InvalidTable" (by decide)) (da_cons de_str da_nil))) dss_nil)
    (dss_cons (ds_if (dt_not (dt_truth (de_callB (cr_all rfl) cd_all rfl (G.n "all" (by decide)) (by decide +kernel) (da_cons (de_lcF (own := [("row", 2)]) rfl nd (dic_of (di_seq (de_var 0))) (blkOk_by (show blkC ["rows", "width", "row", "cell"] (defScope s_need_rows) _ _ = true from by decide +kernel)) (by decide) (fun s H C cl fp => (dg_name 2 nd rfl (by first | exact .inl rfl | exact .inr rfl))) (fun s H C cl fp => dts_nil) (fun s H C cl fp => (de_f H_has_width (hr.mono (by decide)) rfl DL.takes0 (da_cons (de_var 2) (da_cons (de_var 1) da_nil))))) da_nil)))) (dss_one (ds_raise1 rfl tk oex iC tI FI (hr.mono (by decide)) bI rfl (G.g "InvalidTable" (by decide)) (da_cons de_str da_nil))) dss_nil)
    (dss_one (ds_if (dt_not (dt_truth (de_callB (cr_all rfl) cd_all rfl (G.n "all" (by decide)) (by decide +kernel) (da_cons (de_lc2F (own := [("row", 2), ("cell", 3)]) 2 3 rfl nd (dic_of (di_seq (de_var 0))) (blkOk_by (show blkC ["rows", "width", "row", "cell"] (defScope s_need_rows) _ _ = true from by decide +kernel)) (by decide) (by decide) (fun s H C cl fp => (dg_name 2 nd rfl (by first | exact .inl rfl | exact .inr rfl))) (fun s H C cl fp => (dg_name 3 nd rfl (by first | exact .inl rfl | exact .inr rfl))) (fun s H C cl fp => (di_seq (de_var 2))) (fun s H C cl fp => (de_f H_is_cell (hr.mono (by decide)) rfl DL.takes0 (da_cons (de_var 3) da_nil)))) da_nil)))) (dss_one (ds_raise1 rfl tk oex iC tI FI (hr.mono (by decide)) bI rfl (G.g "InvalidTable" (by decide)) (da_cons de_str da_nil))) dss_nil))))
  · intro ds F1 X1 hn h
    obtain ⟨d, n, rfl, hv, f⟩ := h
    refine ms_at (e := [.dat d, .dat (.int n), .un, .un]) rfl ?_
    unfold badR at f
    refine seq_st fun R hR => ?_
    dsimp only [msRet, msRetN, msSeq, msIf, msNext, msExpr, msSet, mtAnd, mtOr, mtNot, mTru, mB, mCB, mCall, maCons, maNil, mVar, mC, mOp, mChain, mIf, mAndV, mOrV, mNotV, mLst, mTup, mMS, gI0, gLen, gEq, gNe, gEqS, gNeS, gIn, gAll, gStrip, truD, start0, dn, mLc, miS, mgName, wipeD, mYes, lcD, List.map_cons, List.map_nil, List.replicate, List.cons_append, List.nil_append, List.getElem?_cons_zero, List.getElem?_cons_succ, List.getElem?_nil, List.append_nil, gLe, gLt, Bool.not_true, Bool.not_false, Bool.false_eq_true, reduceIte, gIsN, gNotN, miEnumT, miZ, mSl, moNone, moSome, gIx, miR1, gAdd, decide_true, eq_self, gTuple, msRaise1, mLc2, msSelf]
    refine ⟨rfl, d, rfl, hv.1.1, ?_⟩
    cases e1 : isSeqD d with
    | false =>
      rw [e1] at f
      exact f
    | true =>
      rw [if_pos e1] at f
      obtain ⟨l, sl, el⟩ : ∃ l, seqD d = some l ∧ elD d = l := by
        cases d with
        | lst l => exact ⟨l, rfl, rfl⟩
        | tup l => exact ⟨l, rfl, rfl⟩
        | _ => cases e1
      have few : l.length ≤ 60 := el ▸ hv.2.1
      rw [el] at f
      refine hR _ ?_
      clear hR
      refine seq_st fun R hR => ?_
      dsimp only [msRet, msRetN, msSeq, msIf, msNext, msExpr, msSet, mtAnd, mtOr, mtNot, mTru, mB, mCB, mCall, maCons, maNil, mVar, mC, mOp, mChain, mIf, mAndV, mOrV, mNotV, mLst, mTup, mMS, gI0, gLen, gEq, gNe, gEqS, gNeS, gIn, gAll, gStrip, truD, start0, dn, mLc, miS, mgName, wipeD, mYes, lcD, List.map_cons, List.map_nil, List.replicate, List.cons_append, List.nil_append, List.getElem?_cons_zero, List.getElem?_cons_succ, List.getElem?_nil, List.append_nil, gLe, gLt, Bool.not_true, Bool.not_false, Bool.false_eq_true, reduceIte, gIsN, gNotN, miEnumT, miZ, mSl, moNone, moSome, gIx, miR1, gAdd, decide_true, eq_self, gTuple, msRaise1, mLc2, msSelf]
      refine ⟨l, sl, Nat.lt_of_le_of_lt few (by decide), lcD_map (f := fun e => .bl (wideD e n)) l (fun e m F' q => ?_) ?_⟩
      · exact ⟨rfl, e, n, rfl, (hv.2.2 e (el ▸ m)).1, q⟩
      · refine ⟨l.map fun e => wideD e n, bls_map l, ?_⟩
        rw [all_map]
        cases e2 : l.all fun e => wideD e n with
        | false =>
          rw [if_neg (by rw [e2]; exact Bool.false_ne_true)] at f
          exact f
        | true =>
          rw [if_pos e2] at f
          refine hR _ ?_
          clear hR
          dsimp only [msRet, msRetN, msSeq, msIf, msNext, msExpr, msSet, mtAnd, mtOr, mtNot, mTru, mB, mCB, mCall, maCons, maNil, mVar, mC, mOp, mChain, mIf, mAndV, mOrV, mNotV, mLst, mTup, mMS, gI0, gLen, gEq, gNe, gEqS, gNeS, gIn, gAll, gStrip, truD, start0, dn, mLc, miS, mgName, wipeD, mYes, lcD, List.map_cons, List.map_nil, List.replicate, List.cons_append, List.nil_append, List.getElem?_cons_zero, List.getElem?_cons_succ, List.getElem?_nil, List.append_nil, gLe, gLt, Bool.not_true, Bool.not_false, Bool.false_eq_true, reduceIte, gIsN, gNotN, miEnumT, miZ, mSl, moNone, moSome, gIx, miR1, gAdd, decide_true, eq_self, gTuple, msRaise1, mLc2, msSelf]
          have w2 := List.all_eq_true.mp e2
          refine ⟨l, sl, lc2_map (el := elD) (f := fun e => .bl (cellB e)) (N := 200) l [] ?_ (fun e m => ⟨?_, fun F' q => ?_, fun x mx F' q => ?_⟩) ?_⟩
          · show 0 + l.length * 200 ≤ sizeLine
            rw [Nat.zero_add]
            exact Nat.le_trans (Nat.mul_le_mul_right 200 few) (by decide)
          · have h := (hv.2.2 e (el ▸ m)).1.2
            cases e with
            | lst _ => exact h
            | tup _ => exact h
            | _ => exact Nat.zero_le _
          · have h := (Bool.and_eq_true_iff.mp (w2 e m)).1
            cases e with
            | lst _ => exact ⟨_, rfl, q⟩
            | tup _ => exact ⟨_, rfl, q⟩
            | _ => cases h
          · exact ⟨rfl, x, rfl, (hv.2.2 e (el ▸ m)).2 x mx, q⟩
          · rw [List.nil_append]
            refine ⟨(l.flatMap elD).map cellB, bls_map _, ?_⟩
            rw [all_map, all_flat]
            cases e3 : l.all fun e => (elD e).all cellB with
            | false =>
              rw [if_neg (by rw [e3]; exact Bool.false_ne_true)] at f
              exact f
            | true =>
              rw [if_pos e3] at f
              exact f
end
end K04

set_option Elab.async false
set_option linter.all false
set_option maxRecDepth 100000
set_option maxHeartbeats 4000000
namespace DL
open PySem L2 PySem.Spec PyProof.Rows
/-! ### tuples of texts that have methods: known to have no dict -/
def NamF (f : Addr → HO) (xs : List Str) : Prop := ∃ o : Obj, o.dict = none ∧ f = fun _ => .frz o (.tup (xs.map V.str))
theorem NamF.rep {K : Fg} {G : Hp} {v : V} {f : Addr → HO} {xs : List Str} (n : NamF f xs) (r : Rep K G v (.ext f [])) : Rep K G v (.tup (xs.map D.str)) := by
  obtain ⟨o, hd, rfl⟩ := n
  obtain ⟨a, rfl, h, _⟩ := r.ext_of
  exact .tup (.inl (.inr ⟨o, h⟩)) (reps_strs xs)
section
variable {X : Cx}
theorem call_tupN : CallR X (.type "tuple") (fun xs H Q => ∃ p, xs = [.ref p] ∧ ((∃ ys, SqL X.K H p ys ∧ ∀ l o, H l = none → o.dict = none → Q (.ref l) (upd H l (.frz o (.tup ys)))) ∨ (∃ ys, SqT X.K H p ys ∧ Q (.ref p) H))) := by
  intro pins s σ H xs us Q I r h
  obtain ⟨p, rfl, h⟩ := h
  obtain ⟨u, rfl, rx⟩ := vals1 r
  cases rx
  rcases h with ⟨ys, hq, q⟩ | ⟨ys, hq, q⟩
  · obtain ⟨its, r', pl, hz⟩ := I.list hq
    have hlen := r'.length
    refine call_tuple_list pl.isList (fun h' kp => ?_) (by simp only [List.size_toArray] <;> omega)
    have I1 : Inv X pins σ H { s with heap := h' } := I.kept (t' := s.toks) kp
    have I2 := I1.laid (t' := s.toks) (a := h'.objs.size) (o := .frz { cls := .type "tuple", data := .seq its.toArray } (.tup ys)) (h' := h'.push { cls := .type "tuple", data := .seq its.toArray }) (fun b o e => Heap.get?_push_of_some _ e) (Nat.le_refl _) ⟨Heap.get?_push_size _ rfl, hz, its, r', IsTup.new _ _⟩
    exact ⟨.ref h'.objs.size, _, I2, rfl, q _ _ (I1.hok.fresh (Nat.le_refl _)) rfl⟩
  · obtain ⟨its, r', pl, hz⟩ := I.tuple hq
    exact call_tuple_same pl ⟨.ref p, H, I, rfl, q⟩
end
def gTupN (ds : List D) (F : D → Prop) : Prop := (∃ xs : List Str, ds = [.lst (xs.map D.str)] ∧ ∀ f, NamF f xs → F (.ext f [])) ∨ ∃ f xs, ds = [.ext f []] ∧ NamF f xs ∧ F (.ext f [])
theorem cd_tupN {K : Fg} : CD K (fun xs H Q => ∃ p, xs = [.ref p] ∧ ((∃ ys, SqL K H p ys ∧ ∀ l o, H l = none → o.dict = none → Q (.ref l) (upd H l (.frz o (.tup ys)))) ∨ (∃ ys, SqT K H p ys ∧ Q (.ref p) H))) gTupN := fun H G vs ds F Q s r h q => by
  rcases h with ⟨xs, rfl, f⟩ | ⟨f, xs, rfl, nf, h⟩
  · obtain ⟨v, rfl, r1⟩ := r.one
    obtain ⟨p, ys, rfl, g1, r2⟩ := r1.lst_of
    obtain rfl := strs_reps r2
    refine ⟨p, rfl, .inl ⟨_, SqL.of (s _ _ g1), fun l o hl hd => ?_⟩⟩
    exact q _ _ _ _ (Go.laid s hl) (.ext upd_same (by intro p m; cases m)) (f _ ⟨o, hd, rfl⟩)
  · obtain ⟨v, rfl, r1⟩ := r.one
    obtain ⟨o, hd, rfl⟩ := nf
    obtain ⟨p, rfl, h2, h3⟩ := r1.ext_of
    exact ⟨p, rfl, .inr ⟨_, .inl (.inr ⟨o, s _ _ h2⟩), q _ _ H G (Go.refl s .no) r1 h⟩⟩
section
variable {X : Cx} {c : Ct} {W : WX} {o e : Expr} {apos cpos : Pos} {ta te : TE} {ma me : ME}
/-- such a tuple seen as a tuple -/
def mAsT (ma : ME) : ME := fun δ F Y => ma δ (fun d => ∃ f xs, d = .ext f [] ∧ NamF f xs ∧ F (.tup (xs.map D.str))) Y
theorem de_asT (h : DE X c W e te me) : DE X c W e te (mAsT me) := ⟨h.p, fun H G σ δ F Y Q cr rs hm q x => by
  refine h.w H G σ δ _ _ _ cr rs hm (fun v d H' G' g r f => ?_) x
  obtain ⟨f, xs, rfl, nf, z⟩ := f
  exact q v _ H' G' g (nf.rep r) z⟩
/-! t.index(x) -/
def tIxN (ta : TE) (t : TA) : TE := fun σ H Q => ta σ H fun x H1 => ∃ (p : Addr) (o : Obj) (ys : List Str), x = .ref p ∧ o.dict = none ∧ H1 p = some (.frz o (.tup (ys.map V.str))) ∧
  t σ H1 fun vs H2 => ∃ (z : Str) (j : Nat), vs = [.str z] ∧ H2 p = some (.frz o (.tup (ys.map V.str))) ∧ ys[j]? = some z ∧ (∀ m, m < j → ys[m]? ≠ some z) ∧ Q (.int (j : Nat)) H2
theorem pe_ixN {t : TA} (ho : PE X o ta) (ha : PA X [e] t)
    (hbase : attributeBase o "index" X.env (eval o X.env) = eval o X.env)
    (hfew : ((backTo cpos (starEach [e] X.env)).all (fun x => !x.1) && (backToKw cpos (keywordEach [] X.env)).all (fun x => x.1.isSome)
      && decide ([e].length + ([] : List Keyword).length + (if ([] : List Keyword).isEmpty then 0 else 1) < 30)) = true)
    (hline : (apos.endLine == cpos.line) = true) (hs : starEach [e] X.env = (false, eval e X.env) :: starEach [] X.env) (hplain : (backTo cpos (starEach [] X.env)).any (·.1) = false) : PE X (.Call (.Attribute o "index" apos) [e] [] cpos) (tIxN ta t) := by
  refine ⟨fun pins s σ H Q I h => ?_⟩
  refine wpAny_Call_method_late hbase hfew hline rfl (thn (ho.run pins s σ H _ I h) fun v s1 z => ?_)
  obtain ⟨x, H1, I1, r1, p, ob, ys, rfl, hd, hp, q1⟩ := z
  have r1 : v = Value.ref p := r1
  subst r1
  have ok1 : s1.heap.get? p = some ob ∧ ObjOk X.prog X.w H1 s1.heap p (.tup (ys.map V.str)) := I1.hok p _ hp
  obtain ⟨hob, _, its, rv, ob', hob', hcls, n, hdat⟩ := ok1
  rw [hob] at hob'
  cases hob'
  refine ⟨"tuple", "tuple.index", PySem.F.plainAttrs_tuple, PySem.F.slot_tuple_index, PySem.F.type_tuple_index, ⟨_, hob, hcls⟩, fun a ea => ?_, ?_⟩
  · cases ea
    exact ⟨_, hob, hd⟩
  have hA := ha.run cpos pins s1 σ H1 _ I1 q1
  rw [hs] at hA ⊢
  refine Calls.callWith_builtin (by show (false || (backTo cpos (starEach [] X.env)).any (·.1)) = false; rw [hplain]; rfl) (Calls.evalArgs_plain ?_)
  refine thn hA fun us s2 w => ?_
  obtain ⟨vs, H2, I2, r2, z, j, rfl, hp2, h3, h4, q2⟩ := w
  exact mt_tup_index pins s2 σ H2 (.ref p) [.str z] (.ref p) us Q I2 rfl r2 ⟨p, ys, z, j, rfl, rfl, .inl (.inr ⟨ob, hp2⟩), h3, h4, q2⟩
def mIxN (ma me : ME) : ME := fun δ F Y => ma δ (fun d => ∃ (f : Addr → HO) (ys : List Str), d = .ext f [] ∧ NamF f ys ∧ me δ (fun e => ∃ (z : Str) (j : Nat), e = .str z ∧ ys[j]? = some z ∧ (∀ m, m < j → ys[m]? ≠ some z) ∧ F (.int j)) Y) Y
theorem de_ixN (ho : DE X c W o ta ma) (he : DE X c W e te me)
    (hbase : attributeBase o "index" X.env (eval o X.env) = eval o X.env := by rfl)
    (hfew : ((backTo cpos (starEach [e] X.env)).all (fun x => !x.1) && (backToKw cpos (keywordEach [] X.env)).all (fun x => x.1.isSome)
      && decide ([e].length + ([] : List Keyword).length + (if ([] : List Keyword).isEmpty then 0 else 1) < 30)) = true := by rfl)
    (hline : (apos.endLine == cpos.line) = true := by rfl) (hs : starEach [e] X.env = (false, eval e X.env) :: starEach [] X.env := by rfl) (hplain : (backTo cpos (starEach [] X.env)).any (·.1) = false := by rfl) :
    DE X c W (.Call (.Attribute o "index" apos) [e] [] cpos) (tIxN ta (tCons te tNil)) (mIxN ma me) := by
  refine ⟨pe_ixN ho.p (pa_cons he.p pa_nil hs) hbase hfew hline hs hplain, fun H G σ δ F Y Q cr rs h q x => ?_⟩
  refine ho.w H G σ δ _ _ _ cr rs h (fun v d H1 G1 g1 r1 h1 => ?_) x
  obtain ⟨f, ys, rfl, nf, h1⟩ := h1
  obtain ⟨ob, hd, rfl⟩ := id nf
  obtain ⟨p, rfl, e1, _⟩ := r1.ext_of
  refine ⟨p, ob, ys, rfl, hd, g1.sub _ _ e1, ?_⟩
  refine he.w H1 G1 σ δ _ _ _ (cr.step g1) (rs.step cr g1) h1 (fun u d2 H2 G2 g2 r2 h2 => ?_) (x.step g1)
  obtain ⟨z, j, rfl, h3, h4, f⟩ := h2
  exact ⟨z, j, by rw [r2.str_of], g2.sub _ _ (g2.grow _ _ e1), h3, h4, q _ _ H2 G2 (g1.trans g2) (.int _) f⟩
end
end DL

set_option Elab.async false
set_option linter.all false
set_option maxRecDepth 100000
set_option maxHeartbeats 4000000
namespace K04
open PySem PySem.Spec PyProof.Rows L2 DL XS
def badT (dn dr : D) : Option Str := if namesD dn 1 = true then badR dr ((elD dn).length : Nat) else some "columns"
def gTable (K : Fg) : FI := fun ds F X => ∃ (cs : List Str) (dr : D), ds = [.lst (cs.map D.str), dr] ∧ V2 K (.lst (cs.map D.str)) ∧ V3 K dr ∧ orX K X (∀ (f : Addr → HO) (a o ks : List Rw), NamF f cs → AscR a ((elD dr).map rwOf) → AscR o ks → (∀ r, r ∈ ks ↔ keepR a r) → F [("columns", .ext f []), ("rows", .tup (o.map rowD))]) (badT (.lst (cs.map D.str)) dr)
theorem badR_none {d : D} {n : Int} (h : badR d n = none) : isSeqD d = true ∧ ((elD d).all fun e => wideD e n) = true ∧ ((elD d).all fun e => (elD e).all cellB) = true := by
  unfold badR at h
  split at h
  · rename_i h1
    split at h
    · rename_i h2
      split at h
      · rename_i h3
        exact ⟨h1, h2, h3⟩
      · cases h
    · cases h
  · cases h
theorem tup_of {d : D} {F : D → Prop} (h : isSeqD d = true) (f : F (.tup (elD d))) : gTuple [d] F := by
  cases d with
  | lst l => exact f
  | tup l => exact f
  | _ => cases h
theorem seq_el {d : D} (h : isSeqD d = true) : seqD d = some (elD d) := by
  cases d with
  | lst l => rfl
  | tup l => rfl
  | _ => cases h
theorem good_rows {K : Fg} {dn dr : D} (vn : V2 K dn) (vr : V3 K dr) (h : namesD dn 1 = true) (hr : badR dr ((elD dn).length : Nat) = none) : RowsD (elD dr) ((elD dr).map rwOf) ∧ GoodR ((elD dr).map rwOf) ∧ ∀ r ∈ (elD dr).map rwOf, r.length = (elD dn).length := by
  obtain ⟨h1, h2, h3⟩ := badR_none hr
  have n1 : 1 ≤ (elD dn).length := by
    have := (Bool.and_eq_true_iff.mp (Bool.and_eq_true_iff.mp h).2).1
    simp at this
    omega
  have n2 : (elD dn).length ≤ 200 := by
    have h := vn.1.2
    cases dn with
    | lst _ => exact h
    | tup _ => exact h
    | _ => exact Nat.zero_le _
  obtain ⟨r1, r2⟩ := rows_is (elD dr) (n := ((elD dn).length : Nat)) (by omega) (by omega) h2 h3
  refine ⟨r1, ⟨?_, fun r m e => ?_, fun r m => ?_, fun r m x hx => (r2 r m).2 x hx⟩, fun r m => ?_⟩
  · rw [List.length_map]
    exact Nat.lt_of_le_of_lt vr.2.1 (by decide)
  · have := (r2 r m).1
    rw [e] at this
    simp at this
    omega
  · have := (r2 r m).1
    omega
  · have := (r2 r m).1
    omega
section
variable {P : Program} {w : World} {K : Fg} {mg : Str → Option Value} {base : Heap}
theorem sc_Table_init : FnScope ["self", "columns", "rows"] ["self", "columns", "rows"] (defScope s_Table_init) := ⟨rfl, rfl, rfl, by decide +kernel, rfl, by decide +kernel, by decide +kernel⟩
theorem ok_Table_init (G : Glo K mg) (c : He.SaysD fa fn K) (H_are_names : Fn P w K mg base "are_names" 3 2 false (gNames K)) (H_need_rows : Fn P w K mg base "need_rows" 4 2 false (gNeedR K)) (H_rows_left : Fn P w K mg base "rows_left" 3 1 false gLeft) (ex0 : Exs P w K mg base) : ∃ (fd : FuncData) (ds : List Value), FnOk P w K mg base (L2.CX P w) 6 (He.ma K (He.ga K "Table") "__init__") fd ["self", "columns", "rows"] (spI K 2 (He.ga K "Table") (gTable K)) ∧ Vals [.ref (He.dflAt ("Table", some "__init__") 0 K)] ds ∧ Binds K fd ["self", "columns", "rows"] ds ∧ Binds K fd ["self", "columns", "rows"] [] := by
  obtain ⟨fd, F⟩ := c.defs (d := dfn ("Table", some "__init__") "__init__" "Table.__init__" s_Table_init [.adr (He.dflAt ("Table", some "__init__") 0)]) (by unfold fn; simp)
  replace F : FunD K "__init__" "Table.__init__" (defArgs s_Table_init) (defBody s_Table_init) (defScope s_Table_init) [.ref (He.dflAt ("Table", some "__init__") 0 K)] [] (He.ma K (He.ga K "Table") "__init__") fd := F
  have kC := He.cls_ok (c.facts (f := .cls "Table") (List.mem_append_right _ (List.mem_append_right _ (by simp))))
  have n_columns := He.noat_ok (c.facts (f := .noat "Table" "columns") (List.mem_append_right _ (List.mem_append_right _ (by simp))))
  have n_rows := He.noat_ok (c.facts (f := .noat "Table" "rows") (List.mem_append_right _ (List.mem_append_right _ (by simp))))
  obtain ⟨dv, v1, v2⟩ := F.binds1 (ps := ["self", "columns", "rows"]) 2 0 (by simp) rfl (fun _ _ _ _ _ _ _ us its hu hi => match us, its, hu, hi with | [_, _], [_], _, _ => ⟨_, rfl, rfl⟩)
  obtain ⟨dv2, v3, v4⟩ := F.binds1 (ps := ["self", "columns", "rows"]) 3 1 (by simp) rfl (fun _ _ _ _ _ _ _ us its hu hi => match us, its, hu, hi with | [_, _, _], [_], _, _ => ⟨_, rfl, rfl⟩)
  cases v3
  refine ⟨fd, dv, ?_, v1, v2, v4⟩
  have nd : (["self", "columns", "rows"] : List Str).Nodup := sc_Table_init.nd
  obtain ⟨fI, fdI, psI, oex, iC, tI, FI, bI⟩ := ex0
  apply fn_okIE (k := 5) (N := ["self", "columns", "rows"]) F sc_Table_init rfl (by decide)
  intro c cdv A outer s H E hr
  have hu := hr.units
  have tk := takes_of (X := cxOf (L2.CX P w) P w K mg base ["self", "columns", "rows"] "Table.__init__" (defScope s_Table_init) (He.ma K (He.ga K "Table") "__init__") cdv A outer s H E) rfl rfl rfl rfl
  apply Exists.intro
  apply Exists.intro
  apply And.intro
  · exact (dss_cons (ds_if (dt_not (dt_truth (de_f H_are_names (hr.mono (by decide)) rfl tk (da_cons (de_var 1) (da_cons de_int da_nil))))) (dss_one (ds_raise1 rfl tk oex iC tI FI (hr.mono (by decide)) bI rfl (G.g "InvalidTable" (by decide)) (da_cons de_str da_nil))) dss_nil)
    (dss_cons (ds_expr (de_f H_need_rows (hr.mono (by decide)) rfl tk (da_cons (de_var 2) (da_cons (de_callB call_len cd_len rfl (G.n "len" (by decide)) (by decide +kernel) (da_cons (de_var 1) da_nil)) da_nil))))
    (dss_cons (ds_self (pv 0) (de_callTy call_tupN cd_tupN rfl (G.n "tuple" (by decide)) (by decide +kernel) (da_cons (de_var 1) da_nil)))
    (dss_one (ds_self (pv 0) (de_f H_rows_left (hr.mono (by decide)) rfl tk (da_cons (de_var 2) da_nil)))))))
  · intro ds F1 X1 hn h
    obtain ⟨cs, dr, rfl, vn, vr, f⟩ := h
    generalize hdn : D.lst (cs.map D.str) = dn' at vn f
    refine ms_at (e := [.self (He.ga K "Table") [], .dat dn', .dat dr]) rfl ?_
    unfold badT at f
    refine seq_st fun R hR => ?_
    dsimp only [msRet, msRetN, msSeq, msIf, msNext, msExpr, msSet, mtAnd, mtOr, mtNot, mTru, mB, mCB, mCall, maCons, maNil, mVar, mC, mOp, mChain, mIf, mAndV, mOrV, mNotV, mLst, mTup, mMS, gI0, gLen, gEq, gNe, gEqS, gNeS, gIn, gAll, gStrip, truD, start0, dn, mLc, miS, mgName, wipeD, mYes, lcD, List.map_cons, List.map_nil, List.replicate, List.cons_append, List.nil_append, List.getElem?_cons_zero, List.getElem?_cons_succ, List.getElem?_nil, List.append_nil, gLe, gLt, Bool.not_true, Bool.not_false, Bool.false_eq_true, reduceIte, gIsN, gNotN, miEnumT, miZ, mSl, moNone, moSome, gIx, miR1, gAdd, decide_true, eq_self, gTuple, msRaise1, mLc2, msSelf]
    refine ⟨rfl, dn', 1, rfl, vn, ?_⟩
    cases e1 : namesD dn' 1 with
    | false =>
      rw [if_neg (by rw [e1]; exact Bool.false_ne_true)] at f
      exact f
    | true =>
      rw [if_pos e1] at f
      refine hR _ ?_
      clear hR
      have sq : isSeqD dn' = true := (Bool.and_eq_true_iff.mp e1).1
      refine seq_st fun R hR => ?_
      dsimp only [msRet, msRetN, msSeq, msIf, msNext, msExpr, msSet, mtAnd, mtOr, mtNot, mTru, mB, mCB, mCall, maCons, maNil, mVar, mC, mOp, mChain, mIf, mAndV, mOrV, mNotV, mLst, mTup, mMS, gI0, gEq, gNe, gEqS, gNeS, gIn, gAll, gStrip, truD, start0, dn, mLc, miS, mgName, wipeD, mYes, lcD, List.map_cons, List.map_nil, List.replicate, List.cons_append, List.nil_append, List.getElem?_cons_zero, List.getElem?_cons_succ, List.getElem?_nil, List.append_nil, gLe, gLt, Bool.not_true, Bool.not_false, Bool.false_eq_true, reduceIte, gIsN, gNotN, miEnumT, miZ, mSl, moNone, moSome, gIx, miR1, gAdd, decide_true, eq_self, gTuple, msRaise1, mLc2, msSelf]
      have lens : ∀ F : D → Prop, F (.int ((elD dn').length : Nat)) → gLen [dn'] F := fun F q => by
        cases dn' with
        | lst l => exact q
        | tup l => exact q
        | _ => cases sq
      refine lens _ ?_
      refine ⟨rfl, dr, ((elD dn').length : Nat), rfl, vr, ?_⟩
      cases e2 : badR dr ((elD dn').length : Nat) with
      | some z =>
        rw [e2] at f
        exact f
      | none =>
        rw [e2] at f
        obtain ⟨r1, r2, r3⟩ := good_rows vn vr e1 e2
        refine hR _ ?_
        clear hR
        dsimp only [msRet, msRetN, msSeq, msIf, msNext, msExpr, msSet, mtAnd, mtOr, mtNot, mTru, mB, mCB, mCall, maCons, maNil, mVar, mC, mOp, mChain, mIf, mAndV, mOrV, mNotV, mLst, mTup, mMS, gI0, gLen, gEq, gNe, gEqS, gNeS, gIn, gAll, gStrip, truD, start0, dn, mLc, miS, mgName, wipeD, mYes, lcD, List.map_cons, List.map_nil, List.replicate, List.cons_append, List.nil_append, List.getElem?_cons_zero, List.getElem?_cons_succ, List.getElem?_nil, List.append_nil, gLe, gLt, Bool.not_true, Bool.not_false, Bool.false_eq_true, reduceIte, gIsN, gNotN, miEnumT, miZ, mSl, moNone, moSome, gIx, miR1, gAdd, decide_true, eq_self, msRaise1, mLc2, msSelf]
        subst hdn
        refine .inl ⟨cs, rfl, fun f0 nf => ?_⟩
        refine ⟨kC, n_columns, (show 0 < 800 from by decide), rfl, rfl, dr, _, _, _, rfl, seq_el (badR_none e2).1, r1, r2, r3, fun a o ks z1 z2 z3 => ?_⟩
        exact ⟨kC, n_rows, (show 1 < 800 from by decide), rfl, rfl, f f0 a o ks nf z1 z2 z3⟩
end
end K04


set_option Elab.async false
set_option linter.all false
set_option maxRecDepth 100000
set_option maxHeartbeats 4000000
namespace K04
open PySem PySem.Spec PyProof.Rows L2 DL
section
variable {P : Program} {w : World} {K : Fg} {mg : Str → Option Value} {base : Heap}
theorem sc_law_draw : FnScope ["_law_deal_here", "_law_many", "_law_rest"] ["_law_deal_here", "_law_many"] (defScope s_law_draw) := ⟨rfl, rfl, rfl, by decide +kernel, rfl, by decide +kernel, by decide +kernel⟩
theorem ok_law_draw (G : Glo K mg) (c : He.SaysD fa fn K) : Fn P w K mg base "_law_draw" 1 1 true gDraw := by
  obtain ⟨fd, F⟩ := c.defs (d := dfn ("_law_draw", none) "_law_draw" "_law_draw" s_law_draw) (by unfold fn; simp)
  replace F : FunD K "_law_draw" "_law_draw" (defArgs s_law_draw) (defBody s_law_draw) (defScope s_law_draw) [] [] (He.ga K "_law_draw") fd := F
  refine ⟨_, fd, ["_law_deal_here", "_law_many"], F.ok (k := 0) sc_law_draw (fun vs H Q E h => spD_len h) (fun cdv A outer s H vs Q E hr h => ⟨tDraw K, ?_, draw_reads h⟩), G.g "_law_draw" (by decide), F.kp, F.bindsN fun _ _ _ _ _ _ us hl => match us, hl with | [_, _], _ => rfl⟩
  have nd := sc_law_draw.nd
  have hu := hr.units
  have d0 : ∀ {p q p1 : Pos} {j : Nat}, PE (cxOf (L2.CX P w) P w K mg base ["_law_deal_here", "_law_many", "_law_rest"] "_law_draw" (defScope s_law_draw) (He.ga K "_law_draw") cdv A outer s H E) (.Subscript (.Name "_law_deal_here" p) (.Constant (.int 0) j p1) q) (tD0 K) := fun {_ _ _ _} => pe_ix ix_list (pv 0) pe_int (fun _ _ => rfl)
  have d1 : ∀ {p q p1 : Pos} {j : Nat}, PE (cxOf (L2.CX P w) P w K mg base ["_law_deal_here", "_law_many", "_law_rest"] "_law_draw" (defScope s_law_draw) (He.ga K "_law_draw") cdv A outer s H E) (.Subscript (.Name "_law_deal_here" p) (.Constant (.int 1) j p1) q) (tD1 K) := fun {_ _ _ _} => pe_ix ix_list (pv 0) pe_int (fun _ _ => rfl)
  have hI := G.n "int" (by decide)
  exact pss_cons (ps_while (passes_of rfl) (PW.pt (pw_and (pt_cmpR (op_neD hu) d0 (pe_lst pa_nil) (nomark _)) (pw_and1 (pt_cmpR op_eq (pe_ix ix_list d0 (pe_un un_neg pe_int) (fun _ _ => rfl)) pe_int (nomark _))))) (pss_one (ps_expr (pe_bm0 PySem.F.plainAttrs_list slot_pop type_pop mt_pop d0))))
    (pss_cons (ps_if (pt_cmpR (op_neD hu) d0 (pe_lst pa_nil) (nomark _)) (pss_cons (ps_set nd rfl (.inl rfl) (pe_bm0 PySem.F.plainAttrs_list slot_pop type_pop mt_pop d0))
      (pss_cons (ps_expr (pe_bm PySem.F.plainAttrs_list slot_append type_append mt_append d0 (pa_cons (pe_op op_fdiv (pv 2) (pv 1)) pa_nil))) (pss_one (ps_ret (pe_op op_mod (pe_callTy call_int1 rfl hI (by decide +kernel) (pa_cons (pv 2) pa_nil)) (pv 1)))))) pss_nil)
    (pss_cons (ps_asg (pe_op op_mod (pe_callTy call_int1 rfl hI (by decide +kernel) (pa_cons (pe_op op_add (pe_op op_mul d1 pe_int) pe_int) pa_nil)) pe_int) (pg_sub (pv 0) pe_int set_list))
    (pss_one (ps_ret (pe_op op_mod (pe_callTy call_int1 rfl hI (by decide +kernel) (pa_cons (pe_op op_fdiv d1 pe_int) pa_nil)) (pv 1))))))
end
end K04

set_option Elab.async false
set_option linter.all false
set_option maxRecDepth 100000
set_option maxHeartbeats 4000000
namespace K04
open PySem PySem.Spec PyProof.Rows L2 DL
theorem atI_in {l : List D} {r : Int} (h0 : 0 ≤ r) (h1 : r < l.length) (hl : l.length < 1073741824) : ∃ d, L2.atI l r = some d ∧ d ∈ l := by
  obtain ⟨n, rfl⟩ := Int.eq_ofNat_of_zero_le h0
  have hn : n < l.length := by omega
  refine ⟨l[n], ?_, List.getElem_mem hn⟩
  unfold L2.atI
  rw [show L2.ixN l.length (n : Int) = some n from by
    unfold L2.ixN
    rw [if_pos h0, if_pos h1]
    simp]
  exact List.getElem?_eq_getElem hn
def gOneOf : FF := fun ds F _ => ∃ d l, ds = [d] ∧ seqD d = some l ∧ 0 < l.length ∧ l.length < 1073741824 ∧ ∀ e ∈ l, F e
def intsD (ns : List Int) : List D := ns.map D.int
def gDeal : FF := fun ds F _ => ∃ ns : List Int, ns.length ≤ 63 ∧ ds = [.scr (intsD ns), .int 0] ∧ ∀ (ms : List Int) (m : Int), ms.length ≤ 1000 → (∀ n ∈ ms, 0 ≤ n) → 0 ≤ m → m < 2147483647 → F (.lst [.lst (intsD ms), .int m])
def absI (i : Int) : Int := if i < 0 then -i else i
theorem absI_pos (i : Int) : 0 ≤ absI i := by unfold absI; split <;> omega
def absD : D → D
  | .int i => .int (absI i)
  | d => d
def bigD : D → Bool
  | .int i => decide ((10 : Int) ^ 18 ≤ i)
  | _ => false
theorem abs_ints (ns : List Int) : (intsD ns).map absD = intsD (ns.map absI) := by unfold intsD; rw [List.map_map, List.map_map]; rfl
theorem big_ints (ns : List Int) : (intsD ns).filter bigD = intsD (ns.filter fun i => decide ((10 : Int) ^ 18 ≤ i)) := by
  unfold intsD
  rw [List.filter_map]
  rfl
theorem cut_ints (ns : List Int) (lo hi : Option Int) : DL.cutD (intsD ns) lo hi = intsD (DL.cutD ns lo hi) := by
  unfold DL.cutD intsD
  rw [List.length_map, List.map_take, List.map_drop]
theorem cut_len (ns : List Int) (lo hi : Option Int) : (DL.cutD ns lo hi).length ≤ ns.length := by
  unfold DL.cutD
  rw [List.length_take, List.length_drop]
  omega
theorem of_ints {ns : List Int} {d : D} (h : d ∈ intsD ns) : ∃ i, d = .int i ∧ i ∈ ns := by
  obtain ⟨i, h1, h2⟩ := List.mem_map.mp h
  exact ⟨i, h2.symm, h1⟩
def strsL (xs : List Str) : D := .lst (xs.map .str)
section
variable {P : Program} {w : World} {K : Fg} {mg : Str → Option Value} {base : Heap}
theorem sc_law_pick : FnScope ["_law_deal_here", "_law_some"] ["_law_deal_here", "_law_some"] (defScope s_law_pick) := ⟨rfl, rfl, rfl, by decide +kernel, rfl, by decide +kernel, by decide +kernel⟩
theorem ok_law_pick (G : Glo K mg) (c : He.SaysD fa fn K) (H_law_draw : Fn P w K mg base "_law_draw" 1 1 true gDraw) : Fn P w K mg base "_law_pick" 2 1 true (gOneOf) := by
  obtain ⟨fd, F⟩ := c.defs (d := dfn ("_law_pick", none) "_law_pick" "_law_pick" s_law_pick) (by unfold fn; simp)
  replace F : FunD K "_law_pick" "_law_pick" (defArgs s_law_pick) (defBody s_law_pick) (defScope s_law_pick) [] [] (He.ga K "_law_pick") fd := F
  refine ⟨_, fd, ["_law_deal_here", "_law_some"], ?_, G.g "_law_pick" (by decide), F.kp, F.bindsN fun _ _ _ _ _ _ us hl => match us, hl with | [_, _], _ => rfl⟩
  have nd : (["_law_deal_here", "_law_some"] : List Str).Nodup := sc_law_pick.nd
  obtain ⟨_, h_LETTERS⟩ := G.hL
  obtain ⟨_, h_LAD⟩ := G.hA
  obtain ⟨_, h_LN⟩ := G.hN
  obtain ⟨_, h_LT⟩ := G.hT
  apply fn_okE (k := 1) (N := ["_law_deal_here", "_law_some"]) F sc_law_pick rfl (by decide)
  intro c cdv A outer s H E hr
  have hu := hr.units
  have tk := takes_of (X := cxOf (L2.CX P w) P w K mg base ["_law_deal_here", "_law_some"] "_law_pick" (defScope s_law_pick) (He.ga K "_law_pick") cdv A outer s H E) rfl rfl rfl rfl
  apply Exists.intro
  apply Exists.intro
  apply And.intro
  · exact (dss_one (ds_ret (de_ix (de_var 1) (de_fL 0 H_law_draw (hr.mono (by decide)) rfl tk (pv 0) (da_cons (de_callB call_len cd_len rfl (G.n "len" (by decide)) (by decide +kernel) (da_cons (de_var 1) da_nil)) da_nil)) (fun _ _ => rfl))))
  · intro ds F1 X1 hn h
    obtain ⟨d, l, rfl, hs, h0, h1, f⟩ := h
    refine ms_at (e := [.deal, .dat d]) rfl ?_
    cases d with
    | lst l2 =>
      cases hs
      simp only [msRet, msRetN, msSeq, msIf, msNext, msExpr, msSet, mtAnd, mtOr, mtNot, mTru, mB, mCB, mCall, maCons, maNil, mVar, mC, mOp, mChain, mIf, mAndV, mOrV, mNotV, mLst, mTup, mMS, gI0, gLen, gEq, gNe, gEqS, gNeS, gIn, gAll, gStrip, truD, start0, dn, mLc, miS, mgName, wipeD, mYes, lcD, List.map_cons, List.map_nil, List.replicate, List.cons_append, List.nil_append, List.getElem?_cons_zero, List.getElem?_cons_succ, List.getElem?_nil, List.append_nil, gLe, gLt, Bool.not_true, Bool.not_false, Bool.false_eq_true, reduceIte, mJoined, mJs, mFmt, maStar, gJoin, mFld, moSome, mSl, gIx, z5, mCallL, miZ, gEqL, gNeL, mIsiT, moNone, gSl, miR1, gAdd, List.set_cons_zero, List.set_cons_succ, decide_true, eq_self, mMake, gRep, gInt, msFor, gAbs, mRev, gGe, gMod, gPow, msPub, mLend, msParOO, msAppPop, msAppO]
      refine ⟨trivial, rfl, _, rfl, by omega, by omega, fun r r0 r1 => ?_⟩
      obtain ⟨e, e1, e2⟩ := atI_in r0 r1 h1
      exact ⟨e, e1, f e e2⟩
    | tup l2 =>
      cases hs
      simp only [msRet, msRetN, msSeq, msIf, msNext, msExpr, msSet, mtAnd, mtOr, mtNot, mTru, mB, mCB, mCall, maCons, maNil, mVar, mC, mOp, mChain, mIf, mAndV, mOrV, mNotV, mLst, mTup, mMS, gI0, gLen, gEq, gNe, gEqS, gNeS, gIn, gAll, gStrip, truD, start0, dn, mLc, miS, mgName, wipeD, mYes, lcD, List.map_cons, List.map_nil, List.replicate, List.cons_append, List.nil_append, List.getElem?_cons_zero, List.getElem?_cons_succ, List.getElem?_nil, List.append_nil, gLe, gLt, Bool.not_true, Bool.not_false, Bool.false_eq_true, reduceIte, mJoined, mJs, mFmt, maStar, gJoin, mFld, moSome, mSl, gIx, z5, mCallL, miZ, gEqL, gNeL, mIsiT, moNone, gSl, miR1, gAdd, List.set_cons_zero, List.set_cons_succ, decide_true, eq_self, mMake, gRep, gInt, msFor, gAbs, mRev, gGe, gMod, gPow, msPub, mLend, msParOO, msAppPop, msAppO]
      refine ⟨trivial, rfl, _, rfl, by omega, by omega, fun r r0 r1 => ?_⟩
      obtain ⟨e, e1, e2⟩ := atI_in r0 r1 h1
      exact ⟨e, e1, f e e2⟩
    | _ => cases hs
theorem sc_law_deal : FnScope ["_law_script", "_law_base", "_law_numbers", "_law_mixed", "_law_cell"] ["_law_script", "_law_base"] (defScope s_law_deal) := ⟨rfl, rfl, rfl, by decide +kernel, rfl, by decide +kernel, by decide +kernel⟩
theorem ok_law_deal (G : Glo K mg) (c : He.SaysD fa fn K) : Fn P w K mg base "_law_deal" 1 2 false (gDeal) := by
  obtain ⟨fd, F⟩ := c.defs (d := dfn ("_law_deal", none) "_law_deal" "_law_deal" s_law_deal) (by unfold fn; simp)
  replace F : FunD K "_law_deal" "_law_deal" (defArgs s_law_deal) (defBody s_law_deal) (defScope s_law_deal) [] [] (He.ga K "_law_deal") fd := F
  refine ⟨_, fd, ["_law_script", "_law_base"], ?_, G.g "_law_deal" (by decide), F.kp, F.bindsN fun _ _ _ _ _ _ us hl => match us, hl with | [_, _], _ => rfl⟩
  have nd : (["_law_script", "_law_base", "_law_numbers", "_law_mixed", "_law_cell"] : List Str).Nodup := sc_law_deal.nd
  obtain ⟨_, h_LETTERS⟩ := G.hL
  obtain ⟨_, h_LAD⟩ := G.hA
  obtain ⟨_, h_LN⟩ := G.hN
  obtain ⟨_, h_LT⟩ := G.hT
  apply fn_okE (k := 0) (N := ["_law_script", "_law_base", "_law_numbers", "_law_mixed", "_law_cell"]) F sc_law_deal rfl (by decide)
  intro c cdv A outer s H E hr
  have hu := hr.units
  have tk := takes_of (X := cxOf (L2.CX P w) P w K mg base ["_law_script", "_law_base", "_law_numbers", "_law_mixed", "_law_cell"] "_law_deal" (defScope s_law_deal) (He.ga K "_law_deal") cdv A outer s H E) rfl rfl rfl rfl
  apply Exists.intro
  apply Exists.intro
  apply And.intro
  · exact (dss_cons (ds_setLcF 2 (own := [("_law_cell", 4)]) rfl nd rfl rfl rfl (dic_of (di_seq (de_sl (de_var 0) (do_some (de_var 1)) (do_some de_int)))) (blkOk_by (show blkC ["_law_script", "_law_base", "_law_numbers", "_law_mixed", "_law_cell"] (defScope s_law_deal) _ _ = true from by decide +kernel)) (by decide) (fun s H C cl fp => (dg_name 4 nd rfl (by first | exact .inl rfl | exact .inr rfl))) (fun s H C cl fp => dts_nil) (fun s H C cl fp => (de_callB call_abs cd_abs rfl (G.n "abs" (by decide)) (by decide +kernel) (da_cons (de_var 4) da_nil))))
    (dss_cons (ds_set 3 nd rfl (.inl rfl) (de_op op_addA rd_add de_int (de_op op_mulA rd_mul de_int (de_var 1))))
    (dss_cons (ds_for (passes_of rfl) rfl (di_seq (de_var 2)) (dg_name 4 nd rfl (by first | exact .inl rfl | exact .inr rfl)) (dss_one (ds_set 3 nd rfl (.inl rfl) (de_op op_mod rd_mod (de_callTy call_int1 cd_int rfl (G.n "int" (by decide)) (by decide +kernel) (da_cons (de_op op_addA rd_add (de_op op_mulA rd_mul (de_var 3) de_int) (de_op op_mod rd_mod (de_callTy call_int1 cd_int rfl (G.n "int" (by decide)) (by decide +kernel) (da_cons (de_var 4) da_nil)) de_int)) da_nil)) de_int))))
    (dss_one (ds_ret (de_lst (da_cons (de_rev (de_lcF (own := [("_law_cell", 4)]) rfl nd (dic_of (di_seq (de_var 2))) (blkOk_by (show blkC ["_law_script", "_law_base", "_law_numbers", "_law_mixed", "_law_cell"] (defScope s_law_deal) _ _ = true from by decide +kernel)) (by decide) (fun s H C cl fp => (dg_name 4 nd rfl (by first | exact .inl rfl | exact .inr rfl))) (fun s H C cl fp => (dts_one (dt_cmp op_ge rd_ge (de_var 4) (de_op op_pow rd_pow de_int de_int) (nomark _)))) (fun s H C cl fp => (de_var 4)))) (da_cons (de_var 3) da_nil))))))))
  · intro ds F1 X1 hn h
    obtain ⟨ns, hl, rfl, f⟩ := h
    refine ms_at (e := [.dat (.scr (intsD ns)), .dat (.int 0), .un, .un, .un]) rfl ?_
    dsimp only [msRet, msRetN, msSeq, msIf, msNext, msExpr, msSet, mtAnd, mtOr, mtNot, mTru, mB, mCB, mCall, maCons, maNil, mVar, mC, mOp, mChain, mIf, mAndV, mOrV, mNotV, mLst, mTup, mMS, gI0, gLen, gEq, gNe, gEqS, gNeS, gIn, gAll, gStrip, truD, start0, dn, mLc, miS, mgName, wipeD, mYes, lcD, List.map_cons, List.map_nil, List.replicate, List.cons_append, List.nil_append, List.getElem?_cons_zero, List.getElem?_cons_succ, List.getElem?_nil, List.append_nil, gLe, gLt, Bool.not_true, Bool.not_false, Bool.false_eq_true, reduceIte, mJoined, mJs, mFmt, maStar, gJoin, mFld, moSome, mSl, gIx, z5, mCallL, miZ, gEqL, gNeL, mIsiT, moNone, gSl, miR1, gAdd, List.set_cons_zero, List.set_cons_succ, decide_true, eq_self, mMake, gRep, gInt, msFor, gAbs, mRev, gGe, gMod, gPow, gI, msPub, mLend, msParOO, msAppPop, msAppO, gDraw]
    generalize hx : DL.cutD (intsD ns) (some 0) (some 60) = xd
    rw [cut_ints] at hx
    subst hx
    have l1 := Nat.le_trans (cut_len ns (some 0) (some 60)) hl
    have l2 : ∀ xs : List Int, xs.length ≤ 63 → (intsD xs).length < sizeLine := fun xs h => by
      unfold intsD
      rw [List.length_map]
      exact Nat.lt_of_le_of_lt h (by decide)
    generalize DL.cutD ns (some 0) (some 60) = xs at l1
    refine ⟨_, rfl, l2 _ l1, ?_⟩
    refine lcD_map (i := 4) (f := absD) _ (fun d hd F' q => ?_) ?_
    · obtain ⟨i, rfl, _⟩ := of_ints hd
      exact q
    rw [abs_ints]
    have l3 : (xs.map absI).length ≤ 63 := by rw [List.length_map]; exact l1
    have p3 : ∀ n ∈ xs.map absI, 0 ≤ n := fun n hn => by
      obtain ⟨i, _, rfl⟩ := List.mem_map.mp hn
      exact absI_pos i
    generalize xs.map absI = ms at l3 p3
    refine ⟨.inr (by decide), _, rfl, ?_⟩
    refine forD_inv (fun δ => ∃ (m : Int) (x : Sl), 0 ≤ m ∧ m < 2147483647 ∧ δ = [.dat (.scr (intsD ns)), .dat (.int 0), .dat (.lst (intsD ms)), .dat (.int m), x]) _ _ (fun d hd δ i k' q => ?_) ⟨_, _, by decide, by decide, rfl⟩ (fun δ i => ?_)
    · obtain ⟨m, x, h1, h2, rfl⟩ := i
      obtain ⟨n, rfl, _⟩ := of_ints hd
      exact ⟨.inr (by decide), (show (0 : Int) < 2147483629 from by decide), (show (0 : Int) < 2147483647 from by decide), q _ ⟨_, _, Int.emod_nonneg _ (by decide), Int.emod_lt_of_pos _ (by decide), rfl⟩⟩
    · obtain ⟨m, x, h1, h2, rfl⟩ := i
      refine ⟨_, rfl, l2 _ l3, ?_⟩
      refine lcD_if (i := 4) (p := bigD) (f := id) _ (fun d hd F' q => ?_) (fun d hd _ F' q => q) ?_
      · obtain ⟨i, rfl, _⟩ := of_ints hd
        exact ⟨⟨by decide, by decide, by decide⟩, q⟩
      · rw [List.map_id, big_ints]
        refine ⟨(show 2 ≤ sizeLine from by decide), ?_⟩
        have e : (intsD (ms.filter fun i => decide ((10 : Int) ^ 18 ≤ i))).reverse = intsD (ms.filter fun i => decide ((10 : Int) ^ 18 ≤ i)).reverse := by unfold intsD; rw [List.map_reverse]
        rw [e]
        refine f _ _ ?_ (fun n hn => p3 n (List.mem_filter.mp (List.mem_reverse.mp hn)).1) h1 h2
        rw [List.length_reverse]
        exact Nat.le_trans (List.length_filter_le _ _) (Nat.le_trans l3 (by decide))
end
end K04

set_option Elab.async false
set_option linter.all false
set_option maxRecDepth 100000
set_option maxHeartbeats 4000000
namespace K04
open PySem PySem.Spec PyProof.Rows L2 DL
def LETS : Str := "abcdefghijklmnopqrstuvwxyz"
def letD (j : Int) : Str := ⟨#[97 + j.toNat]⟩
theorem lets_all : ((List.range 26).all fun n => L2.atI LETS.cps.toList (n : Int) == some (97 + n)) = true := by decide +kernel
theorem let_at {j : Int} (h0 : 0 ≤ j) (h1 : j < 26) : L2.atI LETS.cps.toList j = some (97 + j.toNat) := by
  obtain ⟨n, rfl⟩ := Int.eq_ofNat_of_zero_le h0
  have := List.all_eq_true.mp lets_all n (List.mem_range.mpr (by omega))
  exact beq_iff_eq.mp this
def wordsC : List Str := ["id", "n", "v", "put", "has", "is", "melt", "pick", "join", "zzzz"]
def poolC : List Str := (List.range 26).map (fun (n : Nat) => letD (n : Int)) ++ ([("kk" : Str), ("kkk" : Str), ("kkkk" : Str)] ++ wordsC)
def colA (spot : Int) (i : Nat) : Str := letD ((spot + 5 * (0 + (i : Int))) % 26)
def colB (i : Nat) : Str := if 0 + (i : Int) < 4 then cutS "kkkk" none (some (0 + (i : Int) + 1)) else if (0 : Int) + (i : Int) = 4 then "x" else "y"
def colW (spot : Int) (i : Nat) : Str := wordsC.getD ((spot + 3 * (0 + (i : Int))) % 10).toNat ""
def ColsOk (n : Nat) (cs : List Str) : Prop := cs.length = n ∧ cs.Nodup ∧ ∀ x ∈ cs, x ∈ poolC
def colsB (n : Nat) (cs : List Str) : Bool := decide (cs.length = n) && (decide cs.Nodup && cs.all fun x => decide (x ∈ poolC))
theorem colsB_ok {n : Nat} {cs : List Str} (h : colsB n cs = true) : ColsOk n cs := by
  obtain ⟨h1, h2⟩ := b2 h
  obtain ⟨h2, h3⟩ := b2 h2
  exact ⟨of_decide_eq_true h1, of_decide_eq_true h2, fun x hx => of_decide_eq_true (List.all_eq_true.mp h3 x hx)⟩
theorem all_cols : ((List.range 6).all fun m => (List.range 26).all fun s => colsB (m + 1) ((List.range (m + 1)).map (colA (s : Int))) && (colsB (m + 1) ((List.range (m + 1)).map colB) && colsB (m + 1) ((List.range (m + 1)).map (colW (s : Int))))) = true := by decide +kernel
theorem cols_ok {s : Int} {m : Nat} (h0 : 0 ≤ s) (h1 : s < 26) (m0 : 1 ≤ m) (m1 : m ≤ 6) : ColsOk m ((List.range m).map (colA s)) ∧ ColsOk m ((List.range m).map colB) ∧ ColsOk m ((List.range m).map (colW s)) := by
  obtain ⟨n, rfl⟩ := Int.eq_ofNat_of_zero_le h0
  have h := List.all_eq_true.mp (List.all_eq_true.mp all_cols (m - 1) (List.mem_range.mpr (by omega))) n (List.mem_range.mpr (by omega))
  rw [show m - 1 + 1 = m by omega] at h
  obtain ⟨q1, q2⟩ := b2 h
  obtain ⟨q2, q3⟩ := b2 q2
  exact ⟨colsB_ok q1, colsB_ok q2, colsB_ok q3⟩
theorem strs_of_map {α : Type} (g : α → Str) (l : List α) : D.lst (l.map fun i => D.str (g i)) = strsL (l.map g) := by
  unfold strsL
  rw [List.map_map]
  rfl
def gColumns : FF := fun ds F _ => ∃ m : Int, ds = [.int m] ∧ 1 ≤ m ∧ m ≤ 6 ∧ ∀ cs, ColsOk m.toNat cs → F (strsL cs)
theorem mem_rng {m : Int} {s : Nat} (h : s ∈ List.range m.toNat) : (s : Int) < m := by
  have := List.mem_range.mp h
  omega
theorem words_all : ((List.range 10).all fun n => (match L2.atI (wordsC.map D.str) (n : Int) with
  | some (.str z) => decide (z = wordsC.getD n "")
  | _ => false)) = true := by decide +kernel
theorem word_at {j : Int} (h0 : 0 ≤ j) (h1 : j < 10) : L2.atI (wordsC.map D.str) j = some (.str (wordsC.getD j.toNat "")) := by
  obtain ⟨n, rfl⟩ := Int.eq_ofNat_of_zero_le h0
  have := List.all_eq_true.mp words_all n (List.mem_range.mpr (by omega))
  split at this
  · rename_i z e
    rw [e, of_decide_eq_true this]
    rfl
  · cases this
section
variable {P : Program} {w : World} {K : Fg} {mg : Str → Option Value} {base : Heap}
theorem sc_law_columns : FnScope ["_law_deal_here", "_law_many", "_law_form", "_law_spot", "_law_letters", "_law_found", "_law_k", "_law_words"] ["_law_deal_here", "_law_many"] (defScope s_law_columns) := ⟨rfl, rfl, rfl, by decide +kernel, rfl, by decide +kernel, by decide +kernel⟩
theorem ok_law_columns (G : Glo K mg) (c : He.SaysD fa fn K) (H_law_draw : Fn P w K mg base "_law_draw" 1 1 true gDraw) : Fn P w K mg base "_law_columns" 2 1 true (gColumns) := by
  obtain ⟨fd, F⟩ := c.defs (d := dfn ("_law_columns", none) "_law_columns" "_law_columns" s_law_columns) (by unfold fn; simp)
  replace F : FunD K "_law_columns" "_law_columns" (defArgs s_law_columns) (defBody s_law_columns) (defScope s_law_columns) [] [] (He.ga K "_law_columns") fd := F
  refine ⟨_, fd, ["_law_deal_here", "_law_many"], ?_, G.g "_law_columns" (by decide), F.kp, F.bindsN fun _ _ _ _ _ _ us hl => match us, hl with | [_, _], _ => rfl⟩
  have nd : (["_law_deal_here", "_law_many", "_law_form", "_law_spot", "_law_letters", "_law_found", "_law_k", "_law_words"] : List Str).Nodup := sc_law_columns.nd
  obtain ⟨_, h_LETTERS⟩ := G.hL
  obtain ⟨_, h_LAD⟩ := G.hA
  obtain ⟨_, h_LN⟩ := G.hN
  obtain ⟨_, h_LT⟩ := G.hT
  apply fn_okE (k := 1) (N := ["_law_deal_here", "_law_many", "_law_form", "_law_spot", "_law_letters", "_law_found", "_law_k", "_law_words"]) F sc_law_columns rfl (by decide)
  intro c cdv A outer s H E hr
  have hu := hr.units
  have tk := takes_of (X := cxOf (L2.CX P w) P w K mg base ["_law_deal_here", "_law_many", "_law_form", "_law_spot", "_law_letters", "_law_found", "_law_k", "_law_words"] "_law_columns" (defScope s_law_columns) (He.ga K "_law_columns") cdv A outer s H E) rfl rfl rfl rfl
  apply Exists.intro
  apply Exists.intro
  apply And.intro
  · exact (dss_cons (ds_asg (de_tup (da_cons (de_fL 0 H_law_draw (hr.mono (by decide)) rfl tk (pv 0) (da_cons de_int da_nil)) (da_cons (de_fL 0 H_law_draw (hr.mono (by decide)) rfl tk (pv 0) (da_cons de_int da_nil)) da_nil))) (dg_tup rfl (dgs_cons (dg_name 2 nd rfl (by first | exact .inl rfl | exact .inr rfl)) (dgs_cons (dg_name 3 nd rfl (by first | exact .inl rfl | exact .inr rfl)) dgs_nil))))
    (dss_cons (ds_set 4 nd rfl (by first | exact .inl rfl | exact .inr rfl) de_str)
    (dss_cons (ds_setLcF 5 (own := [("_law_k", 6)]) rfl nd rfl rfl rfl (dic_of (di_range1 rfl (G.n "range" (by decide)) (da_cons (de_var 1) da_nil))) (blkOk_by (show blkC ["_law_deal_here", "_law_many", "_law_form", "_law_spot", "_law_letters", "_law_found", "_law_k", "_law_words"] (defScope s_law_columns) _ _ = true from by decide +kernel)) (by decide) (fun s H C cl fp => (dg_name 6 nd rfl (by first | exact .inl rfl | exact .inr rfl))) (fun s H C cl fp => dts_nil) (fun s H C cl fp => (de_ix (de_var 4) (de_op op_mod rd_mod (de_callTy call_int1 cd_int rfl (G.n "int" (by decide)) (by decide +kernel) (da_cons (de_op op_addA rd_add (de_var 3) (de_op op_mulA rd_mul de_int (de_var 6))) da_nil)) de_int) (fun _ _ => rfl))))
    (dss_cons (ds_if (dt_cmp op_eq rd_eqS (de_var 2) de_int (nomark _)) (dss_one (ds_setLcF 5 (own := [("_law_k", 6)]) rfl nd rfl rfl rfl (dic_of (di_range1 rfl (G.n "range" (by decide)) (da_cons (de_var 1) da_nil))) (blkOk_by (show blkC ["_law_deal_here", "_law_many", "_law_form", "_law_spot", "_law_letters", "_law_found", "_law_k", "_law_words"] (defScope s_law_columns) _ _ = true from by decide +kernel)) (by decide) (fun s H C cl fp => (dg_name 6 nd rfl (by first | exact .inl rfl | exact .inr rfl))) (fun s H C cl fp => dts_nil) (fun s H C cl fp => (de_if (dt_cmp op_lt rd_lt (de_var 6) de_int (nomark _)) (de_sl de_str do_none (do_some (de_op op_addA rd_add (de_var 6) de_int))) (de_ix de_str (de_op op_sub rd_sub (de_var 6) de_int) (fun _ _ => rfl)))))) dss_nil)
    (dss_cons (ds_if (dt_cmp op_eq rd_eqS (de_var 2) de_int (nomark _)) (dss_cons (ds_set 7 nd rfl (by first | exact .inl rfl | exact .inr rfl) (de_lst (da_cons de_str (da_cons de_str (da_cons de_str (da_cons de_str (da_cons de_str (da_cons de_str (da_cons de_str (da_cons de_str (da_cons de_str (da_cons de_str da_nil))))))))))))
    (dss_one (ds_setLcF 5 (own := [("_law_k", 6)]) rfl nd rfl rfl rfl (dic_of (di_range1 rfl (G.n "range" (by decide)) (da_cons (de_var 1) da_nil))) (blkOk_by (show blkC ["_law_deal_here", "_law_many", "_law_form", "_law_spot", "_law_letters", "_law_found", "_law_k", "_law_words"] (defScope s_law_columns) _ _ = true from by decide +kernel)) (by decide) (fun s H C cl fp => (dg_name 6 nd rfl (by first | exact .inl rfl | exact .inr rfl))) (fun s H C cl fp => dts_nil) (fun s H C cl fp => (de_ix (de_var 7) (de_op op_mod rd_mod (de_callTy call_int1 cd_int rfl (G.n "int" (by decide)) (by decide +kernel) (da_cons (de_op op_addA rd_add (de_var 3) (de_op op_mulA rd_mul de_int (de_var 6))) da_nil)) de_int) (fun _ _ => rfl)))))) dss_nil)
    (dss_one (ds_ret (de_var 5))))))))
  · intro ds F1 X1 hn h
    obtain ⟨m, rfl, m0, m1, f⟩ := h
    refine ms_at (e := [.deal, .dat (.int m), .un, .un, .un, .un, .un, .un]) rfl ?_
    dsimp only [msRet, msRetN, msSeq, msIf, msNext, msExpr, msSet, mtAnd, mtOr, mtNot, mTru, mB, mCB, mCall, maCons, maNil, mVar, mC, mOp, mChain, mIf, mAndV, mOrV, mNotV, mLst, mTup, mMS, gI0, gLen, gEq, gNe, gEqS, gNeS, gIn, gAll, gStrip, truD, start0, dn, mLc, miS, mgName, wipeD, mYes, lcD, List.map_cons, List.map_nil, List.replicate, List.cons_append, List.nil_append, List.getElem?_cons_zero, List.getElem?_cons_succ, List.getElem?_nil, List.append_nil, gLe, gLt, Bool.not_true, Bool.not_false, Bool.false_eq_true, reduceIte, mJoined, mJs, mFmt, maStar, gJoin, mFld, moSome, mSl, gIx, z5, mCallL, miZ, gEqL, gNeL, mIsiT, moNone, gSl, miR1, gAdd, List.set_cons_zero, List.set_cons_succ, decide_true, eq_self, mMake, gRep, gInt, msFor, gAbs, mRev, gGe, gMod, gPow, gI, msPub, mLend, msParOO, msAppPop, msAppO, gDraw, msPar, msPar3, msAsg, mgTup, mgCons, mgNil, DL.gSub, mNeg, gMin, gSl]
    refine ⟨trivial, rfl, 3, rfl, by decide, by decide, fun r r0 r1 => ⟨trivial, rfl, 26, rfl, by decide, by decide, fun s s0 s1 => ?_⟩⟩
    obtain ⟨k1, k2, k3⟩ := cols_ok (m := m.toNat) s0 s1 (by omega) (by omega)
    have lr : (rngD 0 m.toNat).length < sizeLine := by
      unfold rngD
      rw [List.length_map, List.length_range]
      exact Nat.lt_of_le_of_lt (by omega : m.toNat ≤ 6) (by decide)
    refine ⟨(show 2 ≤ sizeLine from by decide), rfl, by omega, by omega, lr, ?_⟩
    refine lcD_mapA (fun (i : Nat) => D.int (0 + (i : Int))) (fun i => D.str (colA s i)) (List.range m.toNat) [] (fun i hi F' q => ?_) ?_
    · exact ⟨.inl ⟨by decide, by decide⟩, (show (0 : Int) < 26 from by decide), (show 26 ≤ sizeLine from by decide), _, let_at (Int.emod_nonneg _ (by decide)) (Int.emod_lt_of_pos _ (by decide)), q⟩
    by_cases e1 : r = 1
    · rw [decide_eq_true e1]
      refine iteT ⟨by omega, by omega, lr, ?_⟩
      refine lcD_mapA (fun (i : Nat) => D.int (0 + (i : Int))) (fun i => D.str (colB i)) (List.range m.toNat) [] (fun i hi F' q => ?_) ?_
      · have hi := mem_rng hi
        show (if decide ((0 : Int) + (i : Int) < 4) = true then _ else _)
        by_cases h4 : (0 : Int) + (i : Int) < 4
        · have e : colB i = cutS "kkkk" none (some (0 + (i : Int) + 1)) := if_pos h4
          rw [decide_eq_true h4]
          refine iteT ⟨(show 4 ≤ sizeLine from by decide), ?_⟩
          rw [e] at q
          exact q
        · rw [decide_eq_false h4]
          refine iteF ?_
          by_cases h5 : (0 : Int) + (i : Int) = 4
          · have e : colB i = "x" := (if_neg h4).trans (if_pos h5)
            rw [e] at q
            refine ⟨(show 3 ≤ sizeLine from by decide), 120, ?_, q⟩
            rw [show (0 : Int) + (i : Int) - 4 = 0 by omega]
            rfl
          · have e : colB i = "y" := (if_neg h4).trans (if_neg h5)
            rw [e] at q
            refine ⟨(show 3 ≤ sizeLine from by decide), 121, ?_, q⟩
            rw [show (0 : Int) + (i : Int) - 4 = 1 by omega]
            rfl
      · have e2 : ¬ r = 2 := by omega
        rw [decide_eq_false e2]
        refine iteF ?_
        rw [List.nil_append, strs_of_map]
        exact f _ k2
    · rw [decide_eq_false e1]
      refine iteF ?_
      by_cases e2 : r = 2
      · rw [decide_eq_true e2]
        refine iteT ?_
        refine ⟨(show 10 ≤ sizeLine from by decide), by omega, by omega, lr, ?_⟩
        refine lcD_mapA (fun (i : Nat) => D.int (0 + (i : Int))) (fun i => D.str (colW s i)) (List.range m.toNat) [] (fun i hi F' q => ?_) ?_
        · exact ⟨.inl ⟨by decide, by decide⟩, (show (0 : Int) < 10 from by decide), _, word_at (Int.emod_nonneg _ (by decide)) (Int.emod_lt_of_pos _ (by decide)), q⟩
        · rw [List.nil_append, strs_of_map]
          exact f _ k3
      · rw [decide_eq_false e2]
        refine iteF ?_
        rw [List.nil_append, strs_of_map]
        exact f _ k1
end
end K04

set_option Elab.async false
set_option linter.all false
set_option maxRecDepth 100000
set_option maxHeartbeats 4000000
namespace K04
open PySem PySem.Spec PyProof.Rows L2 DL XS
/-! ### texts -/
def poolT : List Str := ["1", "2", "01", "a", "zz9zz9", "id", "n", "10", "x1", "kk"]
theorem strs_at {xs : List Str} {j : Int} (h0 : 0 ≤ j) (h1 : j < xs.length) : L2.atI (xs.map D.str) j = some (.str (xs.getD j.toNat "")) := by
  obtain ⟨n, rfl⟩ := Int.eq_ofNat_of_zero_le h0
  have hn : n < xs.length := by omega
  unfold L2.atI
  rw [List.length_map, show L2.ixN xs.length (n : Int) = some n from by
    unfold L2.ixN
    rw [if_pos h0, if_pos h1]
    simp]
  show (xs.map D.str)[n]? = _
  rw [List.getElem?_map, List.getElem?_eq_getElem hn, List.getD_eq_getElem?_getD, show (n : Int).toNat = n from rfl, List.getElem?_eq_getElem hn]
  rfl
theorem strs_in {xs : List Str} {j : Int} (h0 : 0 ≤ j) (h1 : j < xs.length) : xs.getD j.toNat "" ∈ xs := by
  have hn : j.toNat < xs.length := by omega
  rw [List.getD_eq_getElem?_getD, List.getElem?_eq_getElem hn]
  exact List.getElem_mem hn
def TxsOk (n : Nat) (ts : List Str) : Prop := ts.length = n ∧ ∀ x ∈ ts, x ∈ poolT
def gTexts : FF := fun ds F _ => ∃ m : Nat, ds = [.int m] ∧ m ≤ 6 ∧ ∀ ts, TxsOk m ts → F (strsL ts)
def txA0 (spot : Int) (i : Nat) : Str := poolT.getD ((spot + 3 * (0 + (i : Int))) % 10).toNat ""
section
variable {P : Program} {w : World} {K : Fg} {mg : Str → Option Value} {base : Heap}
theorem sc_law_texts : FnScope ["_law_deal_here", "_law_many", "_law_some", "_law_spot", "_law_k"] ["_law_deal_here", "_law_many"] (defScope s_law_texts) := ⟨rfl, rfl, rfl, by decide +kernel, rfl, by decide +kernel, by decide +kernel⟩
theorem ok_law_texts (G : Glo K mg) (c : He.SaysD fa fn K) (H_law_draw : Fn P w K mg base "_law_draw" 1 1 true gDraw) : Fn P w K mg base "_law_texts" 2 1 true (gTexts) := by
  obtain ⟨fd, F⟩ := c.defs (d := dfn ("_law_texts", none) "_law_texts" "_law_texts" s_law_texts) (by unfold fn; simp)
  replace F : FunD K "_law_texts" "_law_texts" (defArgs s_law_texts) (defBody s_law_texts) (defScope s_law_texts) [] [] (He.ga K "_law_texts") fd := F
  refine ⟨_, fd, ["_law_deal_here", "_law_many"], ?_, G.g "_law_texts" (by decide), F.kp, F.bindsN fun _ _ _ _ _ _ us hl => match us, hl with | [_, _], _ => rfl⟩
  have nd : (["_law_deal_here", "_law_many", "_law_some", "_law_spot", "_law_k"] : List Str).Nodup := sc_law_texts.nd
  obtain ⟨_, h_LETTERS⟩ := G.hL
  obtain ⟨_, h_LAD⟩ := G.hA
  obtain ⟨_, h_LN⟩ := G.hN
  obtain ⟨_, h_LT⟩ := G.hT
  apply fn_okE (k := 1) (N := ["_law_deal_here", "_law_many", "_law_some", "_law_spot", "_law_k"]) F sc_law_texts rfl (by decide)
  intro c cdv A outer s H E hr
  have hu := hr.units
  have tk := takes_of (X := cxOf (L2.CX P w) P w K mg base ["_law_deal_here", "_law_many", "_law_some", "_law_spot", "_law_k"] "_law_texts" (defScope s_law_texts) (He.ga K "_law_texts") cdv A outer s H E) rfl rfl rfl rfl
  apply Exists.intro
  apply Exists.intro
  apply And.intro
  · exact (dss_cons (ds_set 2 nd rfl (by first | exact .inl rfl | exact .inr rfl) (de_lst (da_cons de_str (da_cons de_str (da_cons de_str (da_cons de_str (da_cons de_str (da_cons de_str (da_cons de_str (da_cons de_str (da_cons de_str (da_cons de_str da_nil))))))))))))
    (dss_cons (ds_set 3 nd rfl (by first | exact .inl rfl | exact .inr rfl) (de_fL 0 H_law_draw (hr.mono (by decide)) rfl tk (pv 0) (da_cons de_int da_nil)))
    (dss_one (ds_ret (de_lcF (own := [("_law_k", 4)]) rfl nd (dic_of (di_range1 rfl (G.n "range" (by decide)) (da_cons (de_var 1) da_nil))) (blkOk_by (show blkC ["_law_deal_here", "_law_many", "_law_some", "_law_spot", "_law_k"] (defScope s_law_texts) _ _ = true from by decide +kernel)) (by decide) (fun s H C cl fp => (dg_name 4 nd rfl (by first | exact .inl rfl | exact .inr rfl))) (fun s H C cl fp => dts_nil) (fun s H C cl fp => (de_ix (de_var 2) (de_op op_mod rd_mod (de_callTy call_int1 cd_int rfl (G.n "int" (by decide)) (by decide +kernel) (da_cons (de_op op_addA rd_add (de_var 3) (de_op op_mulA rd_mul de_int (de_var 4))) da_nil)) de_int) (fun _ _ => rfl))))))))
  · intro ds F1 X1 hn h
    obtain ⟨m, rfl, m6, f⟩ := h
    refine ms_at (e := [.deal, .dat (.int m), .un, .un, .un]) rfl ?_
    dsimp only [msRet, msRetN, msSeq, msIf, msNext, msExpr, msSet, mtAnd, mtOr, mtNot, mTru, mB, mCB, mCall, maCons, maNil, mVar, mC, mOp, mChain, mIf, mAndV, mOrV, mNotV, mLst, mTup, mMS, gI0, gLen, gEq, gNe, gEqS, gNeS, gIn, gAll, gStrip, truD, start0, dn, mLc, miS, mgName, wipeD, mYes, lcD, List.map_cons, List.map_nil, List.replicate, List.cons_append, List.nil_append, List.getElem?_cons_zero, List.getElem?_cons_succ, List.getElem?_nil, List.append_nil, gLe, gLt, Bool.not_true, Bool.not_false, Bool.false_eq_true, reduceIte, mJoined, mJs, mFmt, maStar, gJoin, mFld, moSome, mSl, gIx, z5, mCallL, miZ, gEqL, gNeL, mIsiT, moNone, gSl, miR1, gAdd, List.set_cons_zero, List.set_cons_succ, decide_true, eq_self, mMake, gRep, gInt, msFor, gAbs, mRev, gGe, gMod, gPow, gI, msPub, mLend, msParOO, msAppPop, msAppO, gDraw, msPar, msPar3, msAsg, mgTup, mgCons, mgNil, DL.gSub, mNeg, gMin, gSl, miEnum]
    refine ⟨(show 10 ≤ sizeLine from by decide), trivial, rfl, 10, rfl, by decide, by decide, fun s s0 s1 => ?_⟩
    refine ⟨by omega, by omega, (by unfold rngD; rw [List.length_map, List.length_range]; exact Nat.lt_of_le_of_lt m6 (by decide)), ?_⟩
    refine lcD_mapA (fun (i : Nat) => D.int (0 + (i : Int))) (fun i => D.str (txA0 s i)) (List.range m) [] (fun i hi F' q => ?_) ?_
    · exact ⟨.inl ⟨by decide, by decide⟩, (show (0 : Int) < 10 from by decide), _, strs_at (xs := poolT) (Int.emod_nonneg _ (by decide)) (Int.emod_lt_of_pos _ (by decide)), q⟩
    · rw [List.nil_append, strs_of_map]
      refine f _ ⟨(by rw [List.length_map, List.length_range]), fun x hx => ?_⟩
      obtain ⟨i, _, rfl⟩ := List.mem_map.mp hx
      exact strs_in (xs := poolT) (Int.emod_nonneg _ (by decide)) (Int.emod_lt_of_pos _ (by decide))
end
end K04

set_option Elab.async false
set_option linter.all false
set_option maxRecDepth 100000
set_option maxHeartbeats 4000000
namespace K04
open PySem PySem.Spec PyProof.Rows L2 DL XS
theorem lc_any {i : Nat} {me : ME} {δ : List Sl} {S : D → Prop} {F : List D → Prop} : ∀ (ds acc : List D), (∀ d ∈ ds, ∀ F' : D → Prop, (∀ e, S e → F' e) → me (δ.set i (.dat d)) F' fun _ => False) → (∀ e ∈ acc, S e) →
    (∀ es : List D, es.length = acc.length + ds.length → (∀ e ∈ es, S e) → F es) → lcD (mgName i) mYes me δ F ds acc
  | [], acc, _, ha, h => h acc (by simp) ha
  | d :: ds, acc, hs, ha, h => by
    show (if true = true then me (δ.set i (.dat d)) (fun r => lcD (mgName i) mYes me δ F ds (acc ++ [r])) (fun _ => False) else lcD (mgName i) mYes me δ F ds acc)
    rw [if_pos rfl]
    refine hs d (List.mem_cons_self ..) _ fun e he => lc_any ds _ (fun d' m => hs d' (List.mem_cons_of_mem _ m)) (fun x m => ?_) fun es hl => h es ?_
    · rcases List.mem_append.mp m with m | m
      · exact ha x m
      · rw [List.mem_singleton.mp m]; exact he
    · rw [List.length_cons, hl, List.length_append, List.length_singleton]
      omega
/-- a text of a cell -/
structure TxtOk (x : Str) : Prop where
  tx : textD (.str x) = true
  hi : ∀ n ∈ x.cps.toList, 45 < n
  len : x.length ≤ 6
  ok : PyData.strOk x = true
  ne : x ≠ ""
def txtB (x : Str) : Bool := textD (.str x) && ((x.cps.toList.all fun n => decide (45 < n)) && (decide (x.length ≤ 6) && (PyData.strOk x && !decide (x = ""))))
theorem txtB_ok {x : Str} (h : txtB x = true) : TxtOk x := by
  obtain ⟨h1, h⟩ := b2 h
  obtain ⟨h2, h⟩ := b2 h
  obtain ⟨h3, h⟩ := b2 h
  obtain ⟨h4, h5⟩ := b2 h
  exact ⟨h1, fun n m => of_decide_eq_true (List.all_eq_true.mp h2 n m), of_decide_eq_true h3, h4, by simpa using h5⟩
theorem pool_txt {x : Str} (h : x ∈ poolT) : TxtOk x := txtB_ok (List.all_eq_true.mp (show poolT.all txtB = true by decide +kernel) x h)
def RwsOk (n : Nat) (rs : List Rw) : Prop := ∀ r ∈ rs, r.length = n ∧ ∀ x, some x ∈ r → TxtOk x
def gRowsL : FF := fun ds F _ => ∃ (m wd : Nat) (ts : List Str), ds = [.int m, .int wd, strsL ts] ∧ m ≤ 10 ∧ wd ≤ 6 ∧ ts.length ≤ 6 ∧ (∀ x ∈ ts, TxtOk x) ∧ ∀ rs : List Rw, rs.length = m → RwsOk wd rs → F (.lst (rs.map rowD))
theorem rows_cells {n : Nat} : ∀ {es : List D}, es.length = n → (∀ e ∈ es, ∃ c : Option Str, e = cD c ∧ ∀ x, c = some x → TxtOk x) → ∃ r : Rw, es = r.map cD ∧ r.length = n ∧ ∀ x, some x ∈ r → TxtOk x := fun {es} hl h => by
  refine ⟨es.map celOf, ?_, by rw [List.length_map]; exact hl, fun x m => ?_⟩
  · rw [List.map_map]
    conv => lhs; rw [← List.map_id es]
    refine List.map_congr_left fun e m => ?_
    obtain ⟨c, rfl, _⟩ := h e m
    show cD c = cD (celOf (cD c))
    rw [cell_of]
  · obtain ⟨e, m, q⟩ := List.mem_map.mp m
    obtain ⟨c, rfl, hc⟩ := h e m
    rw [cell_of] at q
    exact hc x q
section
variable {P : Program} {w : World} {K : Fg} {mg : Str → Option Value} {base : Heap}
theorem sc_law_rows : FnScope ["_law_deal_here", "_law_many", "_law_wide", "_law_texts_here", "_law_found", "_law_turn", "_law_k"] ["_law_deal_here", "_law_many", "_law_wide", "_law_texts_here"] (defScope s_law_rows) := ⟨rfl, rfl, rfl, by decide +kernel, rfl, by decide +kernel, by decide +kernel⟩
theorem ok_law_rows (G : Glo K mg) (c : He.SaysD fa fn K) (H_law_pick : Fn P w K mg base "_law_pick" 2 1 true gOneOf) : Fn P w K mg base "_law_rows" 3 3 true (gRowsL) := by
  obtain ⟨fd, F⟩ := c.defs (d := dfn ("_law_rows", none) "_law_rows" "_law_rows" s_law_rows) (by unfold fn; simp)
  replace F : FunD K "_law_rows" "_law_rows" (defArgs s_law_rows) (defBody s_law_rows) (defScope s_law_rows) [] [] (He.ga K "_law_rows") fd := F
  refine ⟨_, fd, ["_law_deal_here", "_law_many", "_law_wide", "_law_texts_here"], ?_, G.g "_law_rows" (by decide), F.kp, F.bindsN fun _ _ _ _ _ _ us hl => match us, hl with | [_, _, _, _], _ => rfl⟩
  have nd : (["_law_deal_here", "_law_many", "_law_wide", "_law_texts_here", "_law_found", "_law_turn", "_law_k"] : List Str).Nodup := sc_law_rows.nd
  obtain ⟨_, h_LETTERS⟩ := G.hL
  obtain ⟨_, h_LAD⟩ := G.hA
  obtain ⟨_, h_LN⟩ := G.hN
  obtain ⟨_, h_LT⟩ := G.hT
  apply fn_okE (k := 2) (N := ["_law_deal_here", "_law_many", "_law_wide", "_law_texts_here", "_law_found", "_law_turn", "_law_k"]) F sc_law_rows rfl (by decide)
  intro c cdv A outer s H E hr
  have hu := hr.units
  have tk := takes_of (X := cxOf (L2.CX P w) P w K mg base ["_law_deal_here", "_law_many", "_law_wide", "_law_texts_here", "_law_found", "_law_turn", "_law_k"] "_law_rows" (defScope s_law_rows) (He.ga K "_law_rows") cdv A outer s H E) rfl rfl rfl rfl
  apply Exists.intro
  apply Exists.intro
  apply And.intro
  · exact (dss_cons (ds_own 4 nd rfl (by first | exact .inl rfl | exact .inr rfl) (oe_lst da_nil))
    (dss_cons (ds_for (passes_of rfl) rfl (di_range1 rfl (G.n "range" (by decide)) (da_cons (de_var 1) da_nil)) (dg_name 5 nd rfl (by first | exact .inl rfl | exact .inr rfl)) (dss_one (ds_appO 4 (pv 4) (de_callTy call_tuple_of cd_tuple rfl (G.n "tuple" (by decide)) (by decide +kernel) (da_cons (de_lcF (own := [("_law_k", 6)]) rfl nd (dic_of (di_range1 rfl (G.n "range" (by decide)) (da_cons (de_var 2) da_nil))) (blkOk_by (show blkC ["_law_deal_here", "_law_many", "_law_wide", "_law_texts_here", "_law_found", "_law_turn", "_law_k"] (defScope s_law_rows) _ _ = true from by decide +kernel)) (by decide) (fun s H C cl fp => (dg_name 6 nd rfl (by first | exact .inl rfl | exact .inr rfl))) (fun s H C cl fp => dts_nil) (fun s H C cl fp => (de_fL 0 H_law_pick (hr.mono (by decide)) rfl DL.takes0 (pv 0) (da_cons (de_op op_addA rd_add (de_var 3) (de_lst (da_cons de_non da_nil))) da_nil)))) da_nil)))))
    (dss_one (ds_pub 4 (ds_ret (de_var 4))))))
  · intro ds F1 X1 hn h
    obtain ⟨m, wd, ts, rfl, hm, hw, ht, hx, f⟩ := h
    refine ms_at (e := [.deal, .dat (.int m), .dat (.int wd), .dat (strsL ts), .un, .un, .un]) rfl ?_
    refine seq_st fun R hR => ?_
    dsimp only [msRet, msRetN, msSeq, msIf, msNext, msExpr, msSet, mtAnd, mtOr, mtNot, mTru, mB, mCB, mCall, maCons, maNil, mVar, mC, mOp, mChain, mIf, mAndV, mOrV, mNotV, mLst, mTup, mMS, gI0, gLen, gEq, gNe, gEqS, gNeS, gIn, gAll, gStrip, truD, start0, dn, mLc, miS, mgName, wipeD, mYes, lcD, List.map_cons, List.map_nil, List.replicate, List.cons_append, List.nil_append, List.getElem?_cons_zero, List.getElem?_cons_succ, List.getElem?_nil, List.append_nil, gLe, gLt, Bool.not_true, Bool.not_false, Bool.false_eq_true, reduceIte, mJoined, mJs, mFmt, maStar, gJoin, mFld, moSome, mSl, gIx, z5, mCallL, miZ, gEqL, gNeL, mIsiT, moNone, gSl, miR1, gAdd, List.set_cons_zero, List.set_cons_succ, decide_true, eq_self, mMake, gRep, gInt, msFor, gAbs, mRev, gGe, gMod, gPow, gI, msPub, mLend, msParOO, msAppPop, msAppO, gDraw, msPar, msPar3, msAsg, mgTup, mgCons, mgNil, DL.gSub, mNeg, gMin, gSl, gIsN, gNotN, gTuple, msOwn, mIsiT]
    refine ⟨by decide, ?_⟩
    refine hR _ ?_
    clear hR
    refine seq_st fun R hR => ?_
    dsimp only [msRet, msRetN, msSeq, msIf, msNext, msExpr, msSet, mtAnd, mtOr, mtNot, mTru, mB, mCB, mCall, maCons, maNil, mVar, mC, mOp, mChain, mIf, mAndV, mOrV, mNotV, mLst, mTup, mMS, gI0, gLen, gEq, gNe, gEqS, gNeS, gIn, gAll, gStrip, truD, start0, dn, mLc, miS, mgName, wipeD, mYes, lcD, List.map_cons, List.map_nil, List.replicate, List.cons_append, List.nil_append, List.getElem?_cons_zero, List.getElem?_cons_succ, List.getElem?_nil, List.append_nil, gLe, gLt, Bool.not_true, Bool.not_false, Bool.false_eq_true, reduceIte, mJoined, mJs, mFmt, maStar, gJoin, mFld, moSome, mSl, gIx, z5, mCallL, miZ, gEqL, gNeL, mIsiT, moNone, gSl, miR1, gAdd, List.set_cons_zero, List.set_cons_succ, decide_true, eq_self, mMake, gRep, gInt, msFor, gAbs, mRev, gGe, gMod, gPow, gI, msPub, mLend, msParOO, msAppPop, msAppO, gDraw, msPar, msPar3, msAsg, mgTup, mgCons, mgNil, DL.gSub, mNeg, gMin, gSl, gIsN, gNotN, gTuple, msOwn, mIsiT]
    refine ⟨by omega, by omega, ?_⟩
    rw [show ((m : Int)).toNat = m from rfl]
    refine forD_map (fun i : Nat => D.int (0 + (i : Int))) (fun done δ => ∃ (rs : List Rw) (x5 x6 : Sl), rs.length = done.length ∧ RwsOk wd rs ∧ δ = [.deal, .dat (.int m), .dat (.int wd), .dat (strsL ts), .own (rs.map rowD), x5, x6]) (List.range m) (List.range m) [] _ rfl (fun i pre rest δ eo q k' nx _ _ => ?_) ⟨[], _, _, rfl, (fun _ h => nomatch h), rfl⟩ (fun δ q => ?_)
    · obtain ⟨rs, x5, x6, h1, h2, rfl⟩ := q
      have few : rs.length ≤ 10 := by
        have e := congrArg List.length eo
        rw [List.length_append, List.length_range] at e
        omega
      dsimp only [msRet, msRetN, msSeq, msIf, msNext, msExpr, msSet, mtAnd, mtOr, mtNot, mTru, mB, mCB, mCall, maCons, maNil, mVar, mC, mOp, mChain, mIf, mAndV, mOrV, mNotV, mLst, mTup, mMS, gI0, gLen, gEq, gNe, gEqS, gNeS, gIn, gAll, gStrip, truD, start0, dn, mLc, miS, mgName, wipeD, mYes, lcD, List.map_cons, List.map_nil, List.replicate, List.cons_append, List.nil_append, List.getElem?_cons_zero, List.getElem?_cons_succ, List.getElem?_nil, List.append_nil, gLe, gLt, Bool.not_true, Bool.not_false, Bool.false_eq_true, reduceIte, mJoined, mJs, mFmt, maStar, gJoin, mFld, moSome, mSl, gIx, z5, mCallL, miZ, gEqL, gNeL, mIsiT, moNone, gSl, miR1, gAdd, List.set_cons_zero, List.set_cons_succ, decide_true, eq_self, mMake, gRep, gInt, msFor, gAbs, mRev, gGe, gMod, gPow, gI, msPub, mLend, msParOO, msAppPop, msAppO, gDraw, msPar, msPar3, msAsg, mgTup, mgCons, mgNil, DL.gSub, mNeg, gMin, gSl, gIsN, gNotN, gTuple, msOwn, mIsiT, strsL]
      have wz : (rngD 0 wd).length < sizeLine := by
        unfold rngD
        rw [List.length_map, List.length_range]
        exact Nat.lt_of_le_of_lt hw (by decide)
      refine ⟨by omega, by omega, wz, lc_any (S := fun e => ∃ c : Option Str, e = cD c ∧ ∀ x, c = some x → TxtOk x) _ [] (fun e me F' q => ?_) (fun _ h => nomatch h) fun es hl hes => ?_⟩
      · have tl : (ts.map D.str ++ [D.non]).length = ts.length + 1 := by rw [List.length_append, List.length_map]; rfl
        have t6 : ts.length + 1 ≤ sizeLine := Nat.le_trans (Nat.succ_le_succ ht) (by decide)
        refine ⟨trivial, (show 1 ≤ sizeLine from by decide), (show (ts.map D.str).length + 1 ≤ sizeLine from by rw [List.length_map]; exact t6), rfl, _, _, rfl, rfl, by rw [tl]; omega, by rw [tl]; omega, fun x mx => q x ?_⟩
        rcases List.mem_append.mp mx with mx | mx
        · obtain ⟨z, mz, rfl⟩ := List.mem_map.mp mx
          exact ⟨some z, rfl, fun y ey => by cases ey; exact hx z mz⟩
        · rw [List.mem_singleton.mp mx]
          exact ⟨none, rfl, fun y ey => nomatch ey⟩
      · have hl : es.length = wd := by
          rw [hl]
          unfold rngD
          rw [List.length_map, List.length_range, List.length_nil, Nat.zero_add]
          exact Int.toNat_natCast wd
        obtain ⟨r, rfl, r1, r2⟩ := rows_cells hl hes
        refine ⟨by rw [List.length_map]; exact Nat.lt_of_le_of_lt few (by decide), nx _ ⟨rs ++ [r], .dat (.int (0 + (i : Int))), x6, by rw [List.length_append, List.length_append, h1]; rfl, fun s ms => ?_, ?_⟩⟩
        · rcases List.mem_append.mp ms with ms | ms
          · exact h2 s ms
          · rw [List.mem_singleton.mp ms]
            exact ⟨r1, r2⟩
        · rw [List.map_append]
          rfl
    · obtain ⟨rs, x5, x6, h1, h2, rfl⟩ := q
      refine hR _ ?_
      clear hR
      dsimp only [msRet, msRetN, msSeq, msIf, msNext, msExpr, msSet, mtAnd, mtOr, mtNot, mTru, mB, mCB, mCall, maCons, maNil, mVar, mC, mOp, mChain, mIf, mAndV, mOrV, mNotV, mLst, mTup, mMS, gI0, gLen, gEq, gNe, gEqS, gNeS, gIn, gAll, gStrip, truD, start0, dn, mLc, miS, mgName, wipeD, mYes, lcD, List.map_cons, List.map_nil, List.replicate, List.cons_append, List.nil_append, List.getElem?_cons_zero, List.getElem?_cons_succ, List.getElem?_nil, List.append_nil, gLe, gLt, Bool.not_true, Bool.not_false, Bool.false_eq_true, reduceIte, mJoined, mJs, mFmt, maStar, gJoin, mFld, moSome, mSl, gIx, z5, mCallL, miZ, gEqL, gNeL, mIsiT, moNone, gSl, miR1, gAdd, List.set_cons_zero, List.set_cons_succ, decide_true, eq_self, mMake, gRep, gInt, msFor, gAbs, mRev, gGe, gMod, gPow, gI, msPub, mLend, msParOO, msAppPop, msAppO, gDraw, msPar, msPar3, msAsg, mgTup, mgCons, mgNil, DL.gSub, mNeg, gMin, gSl, gIsN, gNotN, gTuple, msOwn, mIsiT]
      rw [List.length_range] at h1
      exact f rs h1 h2
/-- whether a row is part of another one -/
def gPart : FF := fun ds F _ => ∃ r s : Rw, ds = [rowD r, rowD s] ∧ r.length = s.length ∧ r.length ≤ 1000 ∧ (∀ x, some x ∈ r → TxtOk x) ∧ (∀ x, some x ∈ s → TxtOk x) ∧ ∀ b : Bool, (b = true ↔ partR r s) → F (.bl b)
def outP (r s : Rw) : D → Bool
  | .int i => !isNon (cD (r[i.toNat]?).join) && !eqD (cD (r[i.toNat]?).join) (cD (s[i.toNat]?).join)
  | _ => false
theorem outP_at (r s : Rw) (j : Nat) : outP r s (.int (0 + (j : Int))) = (!isNon (cD (r[j]?).join) && !eqD (cD (r[j]?).join) (cD (s[j]?).join)) := by
  show (!isNon (cD (r[(0 + (j : Int)).toNat]?).join) && !eqD (cD (r[(0 + (j : Int)).toNat]?).join) (cD (s[(0 + (j : Int)).toNat]?).join)) = _
  rw [show (0 + (j : Int)).toNat = j by omega]
theorem eq_cell {x y : Option Str} : eqD (cD x) (cD y) = true ↔ x = y := by
  cases x <;> cases y <;> simp [cD, eqD]
theorem part_out {r s : Rw} (h : r.length = s.length) : ((rngD 0 r.length).filter (outP r s)).isEmpty = true ↔ partR r s := by
  rw [List.isEmpty_iff, List.filter_eq_nil_iff]
  constructor
  · intro q j x e
    have hj : j < r.length := (List.getElem?_eq_some_iff.mp e).1
    have q1 := q (.int (0 + (j : Int))) (by unfold rngD; exact List.mem_map.mpr ⟨j, List.mem_range.mpr (by simpa using hj), rfl⟩)
    rw [outP_at, e] at q1
    have q2 : eqD (cD (some x)) (cD (s[j]?).join) = true := by
      cases z : eqD (cD (some x)) (cD (s[j]?).join) with
      | true => rfl
      | false =>
        exfalso
        apply q1
        show (!isNon (cD (some x)) && !eqD (cD (some x)) (cD (s[j]?).join)) = true
        rw [z]
        rfl
    have q3 := eq_cell.mp q2
    have hj2 : j < s.length := by omega
    rw [List.getElem?_eq_getElem hj2] at q3 ⊢
    rw [show (some s[j]).join = s[j] from rfl] at q3
    rw [← q3]
  · intro q d md
    unfold rngD at md
    obtain ⟨j, mj, rfl⟩ := List.mem_map.mp md
    have hj : j < r.length := by simpa using List.mem_range.mp mj
    rw [outP_at]
    cases e : r[j]? with
    | none =>
      rw [List.getElem?_eq_getElem hj] at e
      cases e
    | some c =>
      cases c with
      | none => exact fun z => Bool.false_ne_true z
      | some x =>
        rw [q j x e]
        have : eqD (cD (some (some x)).join) (cD (some (some x)).join) = true := eq_cell.mpr rfl
        rw [this]
        exact fun z => by simp at z
theorem sz1000' {n : Nat} (h : n ≤ 1000) : n < sizeLine := Nat.lt_of_le_of_lt h (by decide)
theorem plain_cell {r : Rw} (h : ∀ x, some x ∈ r → TxtOk x) (i : Nat) (n : Nat) : plain (n + 1) (cD (r[i]?).join) = true := by
  cases e : r[i]? with
  | none => rfl
  | some c =>
    cases c with
    | none => rfl
    | some x => exact (h x (List.mem_of_getElem? e)).ok
theorem cell_fx {c : Option Str} {v : V} : cD c ≠ .fx v := by
  cases c <;> exact fun z => nomatch z
theorem sc_law_is_part : FnScope ["_law_row", "_law_other", "_law_k"] ["_law_row", "_law_other"] (defScope s_law_is_part) := ⟨rfl, rfl, rfl, by decide +kernel, rfl, by decide +kernel, by decide +kernel⟩
theorem ok_law_is_part (G : Glo K mg) (c : He.SaysD fa fn K) : Fn P w K mg base "_law_is_part" 1 2 false (gPart) := by
  obtain ⟨fd, F⟩ := c.defs (d := dfn ("_law_is_part", none) "_law_is_part" "_law_is_part" s_law_is_part) (by unfold fn; simp)
  replace F : FunD K "_law_is_part" "_law_is_part" (defArgs s_law_is_part) (defBody s_law_is_part) (defScope s_law_is_part) [] [] (He.ga K "_law_is_part") fd := F
  refine ⟨_, fd, ["_law_row", "_law_other"], ?_, G.g "_law_is_part" (by decide), F.kp, F.bindsN fun _ _ _ _ _ _ us hl => match us, hl with | [_, _], _ => rfl⟩
  have nd : (["_law_row", "_law_other", "_law_k"] : List Str).Nodup := sc_law_is_part.nd
  obtain ⟨_, h_LETTERS⟩ := G.hL
  obtain ⟨_, h_LAD⟩ := G.hA
  obtain ⟨_, h_LN⟩ := G.hN
  obtain ⟨_, h_LT⟩ := G.hT
  apply fn_okE (k := 0) (N := ["_law_row", "_law_other", "_law_k"]) F sc_law_is_part rfl (by decide)
  intro c cdv A outer s H E hr
  have hu := hr.units
  have tk := takes_of (X := cxOf (L2.CX P w) P w K mg base ["_law_row", "_law_other", "_law_k"] "_law_is_part" (defScope s_law_is_part) (He.ga K "_law_is_part") cdv A outer s H E) rfl rfl rfl rfl
  apply Exists.intro
  apply Exists.intro
  apply And.intro
  · exact (dss_one (ds_ret (de_cmp (op_eqL hu) rd_eqL (de_lcF (own := [("_law_k", 2)]) rfl nd (dic_of (di_range1 rfl (G.n "range" (by decide)) (da_cons (de_callB call_len cd_len rfl (G.n "len" (by decide)) (by decide +kernel) (da_cons (de_var 0) da_nil)) da_nil))) (blkOk_by (show blkC ["_law_row", "_law_other", "_law_k"] (defScope s_law_is_part) _ _ = true from by decide +kernel)) (by decide) (fun s H C cl fp => (dg_name 2 nd rfl (by first | exact .inl rfl | exact .inr rfl))) (fun s H C cl fp => (dts_one (DW.dt (dw_and (dt_cmp op_notN rd_notN (de_ix (de_var 0) (de_var 2) (fun _ _ => rfl)) de_non (nomark _)) (dw_and1 (dt_cmp (op_neD hu) rd_ne (de_ix (de_var 0) (de_var 2) (fun _ _ => rfl)) (de_ix (de_var 1) (de_var 2) (fun _ _ => rfl)) (nomark _))))))) (fun s H C cl fp => (de_var 2))) (de_lst da_nil) (nomark _))))
  · intro ds F1 X1 hn h
    obtain ⟨r, s, rfl, hl, hz, hr, hs, f⟩ := h
    refine ms_at (e := [.dat (rowD r), .dat (rowD s), .un]) rfl ?_
    dsimp only [msRet, msRetN, msSeq, msIf, msNext, msExpr, msSet, mtAnd, mtOr, mtNot, mTru, mB, mCB, mCall, maCons, maNil, mVar, mC, mOp, mChain, mIf, mAndV, mOrV, mNotV, mLst, mTup, mMS, gI0, gLen, gEq, gNe, gEqS, gNeS, gIn, gAll, gStrip, truD, start0, dn, mLc, miS, mgName, wipeD, mYes, lcD, List.map_cons, List.map_nil, List.replicate, List.cons_append, List.nil_append, List.getElem?_cons_zero, List.getElem?_cons_succ, List.getElem?_nil, List.append_nil, gLe, gLt, Bool.not_true, Bool.not_false, Bool.false_eq_true, reduceIte, mJoined, mJs, mFmt, maStar, gJoin, mFld, moSome, mSl, gIx, z5, mCallL, miZ, gEqL, gNeL, mIsiT, moNone, gSl, miR1, gAdd, List.set_cons_zero, List.set_cons_succ, decide_true, eq_self, mMake, gRep, gInt, msFor, gAbs, mRev, gGe, gMod, gPow, gI, msPub, mLend, msParOO, msAppPop, msAppO, gDraw, msPar, msPar3, msAsg, mgTup, mgCons, mgNil, DL.gSub, mNeg, gMin, gSl, gIsN, gNotN, gTuple, msOwn, mIsiT, rowD]
    rw [List.length_map, show ((r.length : Int)).toNat = r.length from rfl]
    have wz : (rngD 0 r.length).length < sizeLine := by
      unfold rngD
      rw [List.length_map, List.length_range]
      exact sz1000' hz
    refine ⟨by omega, by omega, wz, lcD_if (p := outP r s) (f := id) _ (fun d m F' q => ?_) (fun d m _ F' q => q) ?_⟩
    · unfold rngD at m
      obtain ⟨j, mj, rfl⟩ := List.mem_map.mp m
      have hj : j < r.length := by simpa using List.mem_range.mp mj
      have a1 : L2.atI (r.map cD) (0 + (j : Int)) = some (cD (r[j]?).join) := by
        rw [at_row (by omega) (by omega) (by omega), show (0 + (j : Int)).toNat = j by omega]
      have a2 : L2.atI (s.map cD) (0 + (j : Int)) = some (cD (s[j]?).join) := by
        rw [at_row (by omega) (by omega) (by omega), show (0 + (j : Int)).toNat = j by omega]
      rw [outP_at] at q
      refine ⟨_, a1, fun v e => cell_fx e, ?_⟩
      cases e1 : isNon (cD (r[j]?).join) with
      | true =>
        rw [e1] at q
        exact q
      | false =>
        rw [e1] at q
        exact ⟨_, a1, _, a2, plain_cell hr j 19, plain_cell hs j 19, q⟩
    · rw [List.map_id]
      exact ⟨by decide, f _ (part_out hl)⟩
end
end K04

set_option Elab.async false
set_option linter.all false
set_option maxRecDepth 100000
set_option maxHeartbeats 4000000
namespace K04
open PySem PySem.Spec PyProof.Rows L2 DL XS
def lineS (r : Rw) : Str := Txt.join " " (r.map fun c => c.getD "-")
def gLine : FF := fun ds F _ => ∃ r : Rw, ds = [rowD r] ∧ r.length ≤ 6 ∧ (∀ x, some x ∈ r → TxtOk x) ∧ F (.str (lineS r))
def dashD : D → D
  | .str x => .str x
  | _ => .str "-"
theorem dash_cells (r : Rw) : (r.map cD).map dashD = (r.map fun c => c.getD "-").map D.str := by
  rw [List.map_map, List.map_map]
  refine List.map_congr_left fun c _ => ?_
  cases c <;> rfl
theorem sum_le : ∀ {l : List Str} {k : Nat}, (∀ x ∈ l, x.length ≤ k) → (l.map (·.length)).sum ≤ l.length * k
  | [], _, _ => Nat.zero_le _
  | x :: l, k, h => by
    have h1 := h x (List.mem_cons_self ..)
    have h2 := sum_le (l := l) fun y m => h y (List.mem_cons_of_mem _ m)
    rw [List.map_cons, List.sum_cons, List.length_cons, Nat.add_mul, Nat.one_mul]
    omega
theorem join_ok {l : List Str} {k n m : Nat} (h : ∀ x ∈ l, x.length ≤ k) (hn : l.length ≤ n) (hb : n * k + n * m ≤ 16777216) : (l.map (·.length)).sum + l.length * m ≤ 16777216 := by
  have h1 := sum_le h
  have h2 := Nat.mul_le_mul_right k hn
  have h3 := Nat.mul_le_mul_right m hn
  omega
theorem no_cells (r : Rw) : noLs (r.map cD) = true := by
  induction r with
  | nil => rfl
  | cons c r ih =>
    show (noL (cD c) && noLs (r.map cD)) = true
    rw [ih]
    cases c <;> rfl
theorem tups_rows : ∀ rs : List Rw, tupsB (rs.map rowD) = true
  | [] => rfl
  | r :: rs => by
    show (noLs (r.map cD) && tupsB (rs.map rowD)) = true
    rw [no_cells, tups_rows rs]
    rfl
theorem flat_strs (ts : List Str) : (ts.map D.str).all flatD = true := by
  induction ts with
  | nil => rfl
  | cons t ts ih => rw [List.map_cons, List.all_cons, ih]; rfl
theorem arg_strs {ts : List Str} (h : ts ≠ []) : argOk (strsL ts) = true := by
  cases ts with
  | nil => exact absurd rfl h
  | cons t ts => exact flat_strs (t :: ts)
/-- the rows of a drawn table -/
def gTabL : FF := fun ds F _ => ∃ (cs ts : List Str), ds = [strsL cs, .int 10, strsL ts] ∧ cs.length ≤ 6 ∧ ts ≠ [] ∧ ts.length ≤ 6 ∧ (∀ x ∈ ts, TxtOk x) ∧ ∀ rs : List Rw, rs.length ≤ 10 → RwsOk cs.length rs → F (.lst (rs.map rowD))
section
variable {P : Program} {w : World} {K : Fg} {mg : Str → Option Value} {base : Heap}
theorem sc_law_table : FnScope ["_law_deal_here", "_law_names", "_law_many", "_law_texts_here", "_law_found", "_law_turn", "_law_row", "_law_cell"] ["_law_deal_here", "_law_names", "_law_many", "_law_texts_here"] (defScope s_law_table) := ⟨rfl, rfl, rfl, by decide +kernel, rfl, by decide +kernel, by decide +kernel⟩
theorem ok_law_table (G : Glo K mg) (c : He.SaysD fa fn K) (H_law_draw : Fn P w K mg base "_law_draw" 1 1 true gDraw) (H_law_pick : Fn P w K mg base "_law_pick" 2 1 true gOneOf) (H_law_rows : Fn P w K mg base "_law_rows" 3 3 true gRowsL) : Fn P w K mg base "_law_table" 4 3 true (gTabL) := by
  obtain ⟨fd, F⟩ := c.defs (d := dfn ("_law_table", none) "_law_table" "_law_table" s_law_table) (by unfold fn; simp)
  replace F : FunD K "_law_table" "_law_table" (defArgs s_law_table) (defBody s_law_table) (defScope s_law_table) [] [] (He.ga K "_law_table") fd := F
  refine ⟨_, fd, ["_law_deal_here", "_law_names", "_law_many", "_law_texts_here"], ?_, G.g "_law_table" (by decide), F.kp, F.bindsN fun _ _ _ _ _ _ us hl => match us, hl with | [_, _, _, _], _ => rfl⟩
  have nd : (["_law_deal_here", "_law_names", "_law_many", "_law_texts_here", "_law_found", "_law_turn", "_law_row", "_law_cell"] : List Str).Nodup := sc_law_table.nd
  obtain ⟨_, h_LETTERS⟩ := G.hL
  obtain ⟨_, h_LAD⟩ := G.hA
  obtain ⟨_, h_LN⟩ := G.hN
  obtain ⟨_, h_LT⟩ := G.hT
  apply fn_okE (k := 3) (N := ["_law_deal_here", "_law_names", "_law_many", "_law_texts_here", "_law_found", "_law_turn", "_law_row", "_law_cell"]) F sc_law_table rfl (by decide)
  intro c cdv A outer s H E hr
  have hu := hr.units
  have tk := takes_of (X := cxOf (L2.CX P w) P w K mg base ["_law_deal_here", "_law_names", "_law_many", "_law_texts_here", "_law_found", "_law_turn", "_law_row", "_law_cell"] "_law_table" (defScope s_law_table) (He.ga K "_law_table") cdv A outer s H E) rfl rfl rfl rfl
  apply Exists.intro
  apply Exists.intro
  apply And.intro
  · exact (dss_cons (ds_own 4 nd rfl (by first | exact .inl rfl | exact .inr rfl) (oe_fL 0 H_law_rows (hr.mono (by decide)) rfl tk (pv 0) (da_cons (de_fL 0 H_law_draw (hr.mono (by decide)) rfl tk (pv 0) (da_cons (de_op op_addA rd_add (de_var 2) de_int) da_nil)) (da_cons (de_callB call_len cd_len rfl (G.n "len" (by decide)) (by decide +kernel) (da_cons (de_var 1) da_nil)) (da_cons (de_var 3) da_nil)))))
    (dss_cons (ds_for (passes_of rfl) rfl (di_range1 rfl (G.n "range" (by decide)) (da_cons (de_lend 4 (de_op op_mulA rd_mul (de_fL 0 H_law_draw (hr.mono (by decide)) rfl tk (pv 0) (da_cons de_int da_nil)) (de_callTy call_int1 cd_int rfl (G.n "int" (by decide)) (by decide +kernel) (da_cons (de_and (de_cmp (op_neL hu) rd_neL (de_var 4) (de_lst da_nil) (nomark _)) (de_one (de_cmp op_lt rd_lt (de_callB call_len cd_len rfl (G.n "len" (by decide)) (by decide +kernel) (da_cons (de_var 4) da_nil)) (de_op op_sub rd_sub (de_var 2) de_int) (nomark _)))) da_nil)))) da_nil)) (dg_name 5 nd rfl (by first | exact .inl rfl | exact .inr rfl)) (dss_cons (ds_set 6 nd rfl (by first | exact .inl rfl | exact .inr rfl) (de_lend 4 (de_fL 0 H_law_pick (hr.mono (by decide)) rfl tk (pv 0) (da_cons (de_var 4) da_nil))))
    (dss_one (ds_appO 4 (pv 4) (de_callTy call_tuple_of cd_tuple rfl (G.n "tuple" (by decide)) (by decide +kernel) (da_cons (de_lcF (own := [("_law_cell", 7)]) rfl nd (dic_of (di_seq (de_var 6))) (blkOk_by (show blkC ["_law_deal_here", "_law_names", "_law_many", "_law_texts_here", "_law_found", "_law_turn", "_law_row", "_law_cell"] (defScope s_law_table) _ _ = true from by decide +kernel)) (by decide) (fun s H C cl fp => (dg_name 7 nd rfl (by first | exact .inl rfl | exact .inr rfl))) (fun s H C cl fp => dts_nil) (fun s H C cl fp => (de_fL 0 H_law_pick (hr.mono (by decide)) rfl DL.takes0 (pv 0) (da_cons (de_lst (da_cons (de_var 7) (da_cons (de_var 7) (da_cons de_non da_nil)))) da_nil)))) da_nil))))))
    (dss_one (ds_pub 4 (ds_ret (de_var 4))))))
  · intro ds F1 X1 hn h
    obtain ⟨cs, ts, rfl, hc, tne, ht, hx, f⟩ := h
    refine ms_at (e := [.deal, .dat (strsL cs), .dat (.int 10), .dat (strsL ts), .un, .un, .un, .un]) rfl ?_
    refine seq_st fun R hR => ?_
    dsimp only [msRet, msRetN, msSeq, msIf, msNext, msExpr, msSet, mtAnd, mtOr, mtNot, mTru, mB, mCB, mCall, maCons, maNil, mVar, mC, mOp, mChain, mIf, mAndV, mOrV, mNotV, mLst, mTup, mMS, gI0, gLen, gEq, gNe, gEqS, gNeS, gIn, gAll, gStrip, truD, start0, dn, mLc, miS, mgName, wipeD, mYes, lcD, List.map_cons, List.map_nil, List.replicate, List.cons_append, List.nil_append, List.getElem?_cons_zero, List.getElem?_cons_succ, List.getElem?_nil, List.append_nil, gLe, gLt, Bool.not_true, Bool.not_false, Bool.false_eq_true, reduceIte, mJoined, mJs, mFmt, maStar, gJoin, mFld, moSome, mSl, gIx, z5, mCallL, miZ, gEqL, gNeL, mIsiT, moNone, gSl, miR1, gAdd, List.set_cons_zero, List.set_cons_succ, decide_true, eq_self, mMake, gRep, gInt, msFor, gAbs, mRev, gGe, gMod, gPow, gI, msPub, mLend, msParOO, msAppPop, msAppO, gDraw, msPar, msPar3, msAsg, mgTup, mgCons, mgNil, DL.gSub, mNeg, gMin, gSl, gIsN, gNotN, gTuple, msOwn, mIsiT, moCallL, strsL]
    refine ⟨trivial, trivial, rfl, 11, rfl, by decide, by decide, fun m m0 m1 => ⟨rfl, ?_, ?_⟩⟩
    · have e := arg_strs tne
      unfold strsL at e
      show (true && (true && (argOk (.lst (ts.map D.str)) && true))) = true
      rw [e]
      rfl
    refine ⟨m.toNat, cs.length, ts, by rw [List.length_map, Int.toNat_of_nonneg m0]; rfl, by omega, hc, ht, hx, fun rs hl hrs => ⟨_, rfl, tups_rows rs, ?_⟩⟩
    refine hR _ ?_
    clear hR
    have hl10 : rs.length ≤ 10 := by omega
    refine ms_at (ms := fun δ k => msSeq _ _ δ k) (e := [.deal, .dat (strsL cs), .dat (.int 10), .dat (strsL ts), .own (rs.map rowD), .un, .un, .un]) rfl ?_
    refine seq_st fun R hR => ?_
    dsimp only [msRet, msRetN, msSeq, msIf, msNext, msExpr, msSet, mtAnd, mtOr, mtNot, mTru, mB, mCB, mCall, maCons, maNil, mVar, mC, mOp, mChain, mIf, mAndV, mOrV, mNotV, mLst, mTup, mMS, gI0, gLen, gEq, gNe, gEqS, gNeS, gIn, gAll, gStrip, truD, start0, dn, mLc, miS, mgName, wipeD, mYes, List.map_cons, List.map_nil, List.replicate, List.cons_append, List.nil_append, List.getElem?_cons_zero, List.getElem?_cons_succ, List.getElem?_nil, List.append_nil, gLe, gLt, Bool.not_true, Bool.not_false, Bool.false_eq_true, reduceIte, mJoined, mJs, mFmt, maStar, gJoin, mFld, moSome, mSl, gIx, z5, mCallL, miZ, gEqL, gNeL, mIsiT, moNone, gSl, miR1, gAdd, List.set_cons_zero, List.set_cons_succ, decide_true, eq_self, mMake, gRep, gInt, msFor, gAbs, mRev, gGe, gMod, gPow, gI, msPub, mLend, msParOO, msAppPop, msAppO, gDraw, msPar, msPar3, msAsg, mgTup, mgCons, mgNil, DL.gSub, mNeg, gMin, gSl, gIsN, gNotN, gTuple, msOwn, mIsiT, mLend]
    refine ⟨trivial, rfl, 3, rfl, by decide, by decide, fun r r0 r1 => ⟨by decide, ?_⟩⟩
    have done : ∀ (rs : List Rw) (x5 x6 x7 : Sl), rs.length ≤ 10 → RwsOk cs.length rs → R [.deal, .dat (strsL cs), .dat (.int 10), .dat (strsL ts), .own (rs.map rowD), x5, x6, x7] := fun rs x5 x6 x7 h1 h2 => by
      refine hR _ ?_
      dsimp only [msRet, msRetN, msSeq, msIf, msNext, msExpr, msSet, mtAnd, mtOr, mtNot, mTru, mB, mCB, mCall, maCons, maNil, mVar, mC, mOp, mChain, mIf, mAndV, mOrV, mNotV, mLst, mTup, mMS, gI0, gLen, gEq, gNe, gEqS, gNeS, gIn, gAll, gStrip, truD, start0, dn, mLc, miS, mgName, wipeD, mYes, lcD, List.map_cons, List.map_nil, List.replicate, List.cons_append, List.nil_append, List.getElem?_cons_zero, List.getElem?_cons_succ, List.getElem?_nil, List.append_nil, gLe, gLt, Bool.not_true, Bool.not_false, Bool.false_eq_true, reduceIte, mJoined, mJs, mFmt, maStar, gJoin, mFld, moSome, mSl, gIx, z5, mCallL, miZ, gEqL, gNeL, mIsiT, moNone, gSl, miR1, gAdd, List.set_cons_zero, List.set_cons_succ, decide_true, eq_self, mMake, gRep, gInt, msFor, gAbs, mRev, gGe, gMod, gPow, gI, msPub, mLend, msParOO, msAppPop, msAppO, gDraw, msPar, msPar3, msAsg, mgTup, mgCons, mgNil, DL.gSub, mNeg, gMin, gSl, gIsN, gNotN, gTuple, msOwn, mIsiT]
      exact f rs h1 h2
    clear hR
    have turn : ∀ (v : Int), 0 ≤ v → v ≤ 2 → rs.length + 2 ≤ 10 → rs ≠ [] → forD (mgName 5) (msSeq (msSet 6 (mLend 4 (mCallL 0 gOneOf [] 1 (maCons (mVar 4) maNil)))) (msAppO 4 (mCB gTuple (maCons (mLc (miS (mVar 6)) (mgName 7) mYes (mCallL 0 gOneOf [] 1 (maCons (mLst (maCons (mVar 7) (maCons (mVar 7) (maCons (mC D.non) maNil)))) maNil)) (List.map (fun x => x.snd) [(("_law_cell" : Str), 7)])) maNil)))) (rngD 0 v.toNat) [.deal, .dat (strsL cs), .dat (.int 10), .dat (strsL ts), .own (rs.map rowD), .un, .un, .un] { nx := R, rt := F1, rs := fun x x_1 => X1 x } := fun v v0 v2 few ne => by
      unfold rngD
      refine forD_map (fun i : Nat => D.int (0 + (i : Int))) (fun dn δ => ∃ (ss : List Rw) (x5 x6 x7 : Sl), ss.length = rs.length + dn.length ∧ ss ≠ [] ∧ RwsOk cs.length ss ∧ δ = [.deal, .dat (strsL cs), .dat (.int 10), .dat (strsL ts), .own (ss.map rowD), x5, x6, x7]) (List.range v.toNat) (List.range v.toNat) [] _ rfl (fun i pre rest δ eo q k' nx _ _ => ?_) ⟨rs, _, _, _, rfl, ne, hrs, rfl⟩ (fun δ q => ?_)
      · obtain ⟨ss, x5, x6, x7, h1, h2, h3, rfl⟩ := q
        have fw : ss.length < 10 := by
          have e := congrArg List.length eo
          rw [List.length_append, List.length_range, List.length_cons] at e
          omega
        refine seq_st fun R2 hR2 => ?_
        dsimp only [msRet, msRetN, msSeq, msIf, msNext, msExpr, msSet, mtAnd, mtOr, mtNot, mTru, mB, mCB, mCall, maCons, maNil, mVar, mC, mOp, mChain, mIf, mAndV, mOrV, mNotV, mLst, mTup, mMS, gI0, gLen, gEq, gNe, gEqS, gNeS, gIn, gAll, gStrip, truD, start0, dn, mLc, miS, mgName, wipeD, mYes, List.map_cons, List.map_nil, List.replicate, List.cons_append, List.nil_append, List.getElem?_cons_zero, List.getElem?_cons_succ, List.getElem?_nil, List.append_nil, gLe, gLt, Bool.not_true, Bool.not_false, Bool.false_eq_true, reduceIte, mJoined, mJs, mFmt, maStar, gJoin, mFld, moSome, mSl, gIx, z5, mCallL, miZ, gEqL, gNeL, mIsiT, moNone, gSl, miR1, gAdd, List.set_cons_zero, List.set_cons_succ, decide_true, eq_self, mMake, gRep, gInt, msFor, gAbs, mRev, gGe, gMod, gPow, gI, msPub, mLend, msParOO, msAppPop, msAppO, gDraw, msPar, msPar3, msAsg, mgTup, mgCons, mgNil, DL.gSub, mNeg, gMin, gSl, gIsN, gNotN, gTuple, msOwn, mIsiT, mLend]
        refine ⟨trivial, rfl, _, _, rfl, rfl, by rw [List.length_map]; exact List.length_pos_iff.mpr h2, by rw [List.length_map]; omega, fun e me => ?_⟩
        obtain ⟨r, mr, rfl⟩ := List.mem_map.mp me
        refine ⟨no_cells r, ?_⟩
        refine hR2 _ ?_
        clear hR2
        dsimp only [msRet, msRetN, msSeq, msIf, msNext, msExpr, msSet, mtAnd, mtOr, mtNot, mTru, mB, mCB, mCall, maCons, maNil, mVar, mC, mOp, mChain, mIf, mAndV, mOrV, mNotV, mLst, mTup, mMS, gI0, gLen, gEq, gNe, gEqS, gNeS, gIn, gAll, gStrip, truD, start0, dn, mLc, miS, mgName, wipeD, mYes, lcD, List.map_cons, List.map_nil, List.replicate, List.cons_append, List.nil_append, List.getElem?_cons_zero, List.getElem?_cons_succ, List.getElem?_nil, List.append_nil, gLe, gLt, Bool.not_true, Bool.not_false, Bool.false_eq_true, reduceIte, mJoined, mJs, mFmt, maStar, gJoin, mFld, moSome, mSl, gIx, z5, mCallL, miZ, gEqL, gNeL, mIsiT, moNone, gSl, miR1, gAdd, List.set_cons_zero, List.set_cons_succ, decide_true, eq_self, mMake, gRep, gInt, msFor, gAbs, mRev, gGe, gMod, gPow, gI, msPub, mLend, msParOO, msAppPop, msAppO, gDraw, msPar, msPar3, msAsg, mgTup, mgCons, mgNil, DL.gSub, mNeg, gMin, gSl, gIsN, gNotN, gTuple, msOwn, mIsiT, rowD]
        have hrw := h3 r mr
        refine ⟨_, rfl, by rw [List.length_map, hrw.1]; exact Nat.lt_of_le_of_lt hc (by decide), lc_any (S := fun e => ∃ c : Option Str, e = cD c ∧ ∀ x, c = some x → TxtOk x) _ [] (fun e me F' q => ?_) (fun _ h => nomatch h) fun es hl hes => ?_⟩
        · obtain ⟨c, mc, rfl⟩ := List.mem_map.mp me
          refine ⟨trivial, (show 3 ≤ sizeLine from by decide), rfl, _, _, rfl, rfl, (show 0 < 3 from by decide), (show 3 < 1073741824 from by decide), fun x mx => q x ?_⟩
          have cc : ∃ c' : Option Str, cD c = cD c' ∧ ∀ x, c' = some x → TxtOk x := ⟨c, rfl, fun y ey => hrw.2 y (by rw [← ey]; exact mc)⟩
          rcases List.mem_cons.mp mx with rfl | mx
          · exact cc
          rcases List.mem_cons.mp mx with rfl | mx
          · exact cc
          rw [List.mem_singleton.mp mx]
          exact ⟨none, rfl, fun y ey => nomatch ey⟩
        · have hl : es.length = cs.length := by
            rw [hl, List.length_map, hrw.1]
            exact Nat.zero_add _
          obtain ⟨r', rfl, q1, q2⟩ := rows_cells hl hes
          refine ⟨by rw [List.length_map]; exact Nat.lt_trans fw (by decide), nx _ ⟨ss ++ [r'], _, _, _, by rw [List.length_append, List.length_append, h1]; rfl, by simp, fun s ms => ?_, by rw [List.map_append]; rfl⟩⟩
          rcases List.mem_append.mp ms with ms | ms
          · exact h3 s ms
          · rw [List.mem_singleton.mp ms]
            exact ⟨q1, q2⟩
      · obtain ⟨ss, x5, x6, x7, h1, h2, h3, rfl⟩ := q
        rw [List.length_range] at h1
        exact done ss _ _ _ (by omega) h3
    cases ers : rs with
    | nil =>
      subst ers
      refine ⟨.inr (by decide), rfl, ?_, ?_, ?_⟩
      · show -2 ^ 62 ≤ r * 0
        rw [Int.mul_zero]
        decide
      · show r * 0 < 2 ^ 62
        rw [Int.mul_zero]
        decide
      · show forD _ _ (rngD 0 (r * 0).toNat) _ _
        rw [Int.mul_zero]
        exact done [] _ _ _ (by decide) fun _ m => nomatch m
    | cons r0' rs' =>
      rw [← ers]
      have ne : rs ≠ [] := by rw [ers]; exact fun z => nomatch z
      have emp : (List.map rowD rs).isEmpty = false := by rw [ers]; rfl
      rw [emp]
      rw [List.length_map]
      by_cases h9 : (rs.length : Int) < 10 - 1
      · rw [decide_eq_true h9]
        refine ⟨.inr (by decide), rfl, ?_, ?_, ?_⟩
        · show -2 ^ 62 ≤ r * 1
          omega
        · show r * 1 < 2 ^ 62
          omega
        · show forD _ _ (rngD 0 (r * 1).toNat) _ _
          rw [Int.mul_one]
          exact turn r r0 (by omega) (by omega) ne
      · rw [decide_eq_false h9]
        refine ⟨.inr (by decide), rfl, ?_, ?_, ?_⟩
        · show -2 ^ 62 ≤ r * 0
          rw [Int.mul_zero]
          decide
        · show r * 0 < 2 ^ 62
          rw [Int.mul_zero]
          decide
        · show forD _ _ (rngD 0 (r * 0).toNat) _ _
          rw [Int.mul_zero]
          exact done rs _ _ _ hl10 hrs
end
end K04

set_option Elab.async false
set_option linter.all false
set_option maxRecDepth 100000
set_option maxHeartbeats 4000000
namespace K04
open PySem PySem.Spec PyProof.Rows L2 DL XS
/-! ### the greatest rows, in the order of their lines -/
def keyS (r : Rw) : Str := Txt.join " " (plainR r)
def keyL (r : Rw) : List Nat := (keyS r).cps.toList
def maxR (rs : List Rw) (r : Rw) : Prop := plc r ≠ [] ∧ ∀ s ∈ rs, s ≠ r → ¬ partR r s
structure Canon (rs out : List Rw) : Prop where
  nd : out.Nodup
  mem : ∀ r, r ∈ out ↔ r ∈ rs ∧ maxR rs r
  up : upL (out.map keyL)
theorem hi_plain {r : Rw} (h : ∀ x, some x ∈ r → TxtOk x) : ∀ x ∈ plainR r, ∀ n ∈ x.cps.toList, 32 < n := fun x m n mn => by
  obtain ⟨c, mc, rfl⟩ := List.mem_map.mp m
  cases c with
  | none => cases mn
  | some x =>
    have := (h x mc).hi n mn
    omega
theorem keyL_jn (r : Rw) : keyL r = jn ((plainR r).map fun x => x.cps.toList) := join_jn _
theorem plain_inj {r s : Rw} (hr : ∀ x, some x ∈ r → TxtOk x) (hs : ∀ x, some x ∈ s → TxtOk x) (e : plainR r = plainR s) : r = s := by
  rw [← un_plain (r := r) fun x m => (hr x m).ne, ← un_plain (r := s) fun x m => (hs x m).ne, e]
theorem key_inj {n : Nat} {r s : Rw} (hr : r.length = n ∧ ∀ x, some x ∈ r → TxtOk x) (hs : s.length = n ∧ ∀ x, some x ∈ s → TxtOk x) (e : keyS r = keyS s) : r = s := by
  have e : keyL r = keyL s := by
    unfold keyL
    rw [e]
  rw [keyL_jn, keyL_jn] at e
  have hl : ∀ r : Rw, ((plainR r).map fun x : Str => x.cps.toList).length = r.length := fun r => by
    unfold plainR
    rw [List.length_map, List.length_map]
  have hh : ∀ {r : Rw}, (∀ x, some x ∈ r → TxtOk x) → ∀ x ∈ (plainR r).map fun x : Str => x.cps.toList, ∀ n ∈ x, 32 < n := fun {r} h x m => by
    obtain ⟨y, my, rfl⟩ := List.mem_map.mp m
    exact hi_plain h y my
  exact plain_inj hr.2 hs.2 (map_cps_inj (jn_inj _ _ (by rw [hl, hl, hr.1, hs.1]) (hh hr.2) (hh hs.2) e))
/-- there is but one such list -/
theorem Canon.same {n : Nat} {rs a b : List Rw} (w : RwsOk n rs) (h1 : Canon rs a) (h2 : Canon rs b) : a = b := by
  have p : a.Perm b := (List.perm_ext_iff_of_nodup h1.nd h2.nd).mpr fun r => by rw [h1.mem, h2.mem]
  have e := up_same h1.up h2.up (p.map keyL)
  have go : ∀ {a b : List Rw}, (∀ r ∈ a, r ∈ rs) → (∀ r ∈ b, r ∈ rs) → a.map keyL = b.map keyL → a = b := by
    intro a
    induction a with
    | nil => intro b _ _ e; cases b with
      | nil => rfl
      | cons _ _ => cases e
    | cons x a ih =>
      intro b ha hb e
      cases b with
      | nil => cases e
      | cons y b =>
        rw [List.map_cons, List.map_cons] at e
        obtain ⟨e1, e2⟩ := List.cons.inj e
        have exy : x = y := key_inj (w x (ha x (List.mem_cons_self ..))) (w y (hb y (List.mem_cons_self ..))) (str_cps e1)
        rw [exy, ih (fun r m => ha r (List.mem_cons_of_mem _ m)) (fun r m => hb r (List.mem_cons_of_mem _ m)) e2]
  exact go (fun r m => ((h1.mem r).mp m).1) (fun r m => ((h2.mem r).mp m).1) e
noncomputable def partB (r s : Rw) : Bool := @decide (partR r s) (Classical.propDecidable _)
theorem partB_iff {r s : Rw} : partB r s = true ↔ partR r s := by
  unfold partB
  exact @decide_eq_true_iff _ (Classical.propDecidable _)
theorem bool_of {p : Prop} {a b : Bool} (h1 : a = true ↔ p) (h2 : b = true ↔ p) : a = b := by
  rw [Bool.eq_iff_iff, h1, h2]
noncomputable def othB (r : Rw) (d : D) : Bool := !decide (rwOf d = r) && partB r (rwOf d)
theorem oth_empty {rs : List Rw} {r : Rw} : ((rs.map rowD).filter (othB r)).isEmpty = true ↔ ∀ s ∈ rs, s ≠ r → ¬ partR r s := by
  rw [List.isEmpty_iff, List.filter_eq_nil_iff]
  constructor
  · intro h s m ne p
    apply h (rowD s) (List.mem_map_of_mem m)
    unfold othB
    rw [row_of (d := rowD s) rfl, decide_eq_false ne, partB_iff.mpr p]
    rfl
  · intro h d m z
    obtain ⟨s, ms, rfl⟩ := List.mem_map.mp m
    unfold othB at z
    rw [row_of (d := rowD s) rfl, Bool.and_eq_true] at z
    exact h s ms (by simpa using z.1) (partB_iff.mp z.2)
def gGreat : FF := fun ds F _ => ∃ (rs : List Rw) (n : Nat), ds = [.lst (rs.map rowD)] ∧ rs.length ≤ 12 ∧ n ≤ 200 ∧ RwsOk n rs ∧ ∀ out, Canon rs out → F (.tup (out.map rowD))
/-! the dict of them -/
def entD (r : Rw) : Str × D := (keyS r, rowD r)
theorem ent_any {n : Nat} {ks : List Rw} {r : Rw} (hk : RwsOk n ks) (hr : r.length = n ∧ ∀ x, some x ∈ r → TxtOk x) : ((ks.map entD).any fun kv => decide (kv.1 = keyS r)) = decide (r ∈ ks) := by
  induction ks with
  | nil => rfl
  | cons k ks ih =>
    rw [List.map_cons, List.any_cons, ih fun s m => hk s (List.mem_cons_of_mem _ m)]
    have e : decide ((entD k).1 = keyS r) = decide (r = k) := decide_eq_decide.mpr ⟨fun e => (key_inj (hk k (List.mem_cons_self ..)) hr e).symm, fun e => by rw [e]; rfl⟩
    rw [e]
    by_cases h : r = k
    · subst h
      simp
    · have : (r ∈ k :: ks) ↔ r ∈ ks := by
        rw [List.mem_cons]
        exact ⟨fun z => z.elim (fun y => absurd y h) id, .inr⟩
      rw [decide_eq_false h, Bool.false_or]
      exact (decide_eq_decide.mpr this).symm
theorem put_old {n : Nat} {ks : List Rw} {r : Rw} (hk : RwsOk n ks) (hr : r ∈ ks) : DL.putF (ks.map entD) (keyS r) (rowD r) = ks.map entD := by
  unfold DL.putF
  rw [ent_any hk (hk r hr), if_pos (decide_eq_true hr), List.map_map]
  refine List.map_congr_left fun k m => ?_
  show (if (entD k).1 = keyS r then ((entD k).1, rowD r) else entD k) = entD k
  split
  · rename_i e
    have := key_inj (hk k m) (hk r hr) e
    subst this
    rfl
  · rfl
theorem put_new {n : Nat} {ks : List Rw} {r : Rw} (hk : RwsOk n ks) (hr : r.length = n ∧ ∀ x, some x ∈ r → TxtOk x) (h : r ∉ ks) : DL.putF (ks.map entD) (keyS r) (rowD r) = (ks ++ [r]).map entD := by
  unfold DL.putF
  rw [ent_any hk hr, if_neg (by simp [h]), List.map_append]
  rfl
theorem look_ent {n : Nat} : ∀ {ks : List Rw} {r : Rw}, RwsOk n ks → r ∈ ks → (ks.map entD).lookup (keyS r) = some (rowD r)
  | k :: ks, r, hk, hr => by
    rw [List.map_cons]
    by_cases e : keyS r = keyS k
    · have := key_inj (hk r hr) (hk k (List.mem_cons_self ..)) e
      subst this
      simp [entD, List.lookup]
    · have hb : (keyS r == keyS k) = false := beq_eq_false_iff_ne.mpr e
      have ih := look_ent (ks := ks) (fun s m => hk s (List.mem_cons_of_mem _ m)) (by
        rcases List.mem_cons.mp hr with rfl | m
        · exact absurd rfl e
        · exact m)
      show (match keyS r == keyS k with
        | true => some (rowD k)
        | false => (ks.map entD).lookup (keyS r)) = _
      rw [hb]
      exact ih
def rowAt (ks : List Rw) (y : Str) : Rw := (ks.find? fun k => decide (keyS k = y)).getD []
theorem rowAt_key {n : Nat} : ∀ {ks : List Rw} {r : Rw}, RwsOk n ks → r ∈ ks → rowAt ks (keyS r) = r
  | k :: ks, r, hk, hr => by
    unfold rowAt
    rw [List.find?_cons]
    by_cases e : keyS k = keyS r
    · rw [decide_eq_true e]
      exact key_inj (hk k (List.mem_cons_self ..)) (hk r hr) e
    · rw [decide_eq_false e]
      refine rowAt_key (ks := ks) (fun s m => hk s (List.mem_cons_of_mem _ m)) ?_
      rcases List.mem_cons.mp hr with rfl | m
      · exact absurd rfl e
      · exact m
theorem plain_row {r : Rw} (h : ∀ x, some x ∈ r → TxtOk x) : plain 20 (rowD r) = true := by
  show (r.map cD).all (plain 19) = true
  rw [List.all_eq_true]
  intro d m
  obtain ⟨c, mc, rfl⟩ := List.mem_map.mp m
  cases c with
  | none => rfl
  | some x => exact (h x mc).ok
theorem eqDs_rows : ∀ {r s : Rw}, eqDs (r.map cD) (s.map cD) = true ↔ r = s
  | [], [] => by simp [eqDs]
  | [], _ :: _ => by simp [eqDs]
  | _ :: _, [] => by simp [eqDs]
  | x :: r, y :: s => by
    rw [List.map_cons, List.map_cons]
    show (eqD (cD x) (cD y) && eqDs (r.map cD) (s.map cD)) = true ↔ _
    rw [Bool.and_eq_true, eq_cell, eqDs_rows, List.cons.injEq]
theorem eqD_row {r s : Rw} : eqD (rowD r) (rowD s) = decide (r = s) := by
  rw [Bool.eq_iff_iff, decide_eq_true_eq]
  exact eqDs_rows
theorem some_filter (r : Rw) : ((r.map cD).filter fun d => !DL.isNon d).isEmpty = decide (plc r = []) := by
  have go : ∀ (r : Rw) (k : Nat), ((r.map cD).filter fun d => !DL.isNon d).isEmpty = decide (plcF k r = []) := by
    intro r
    induction r with
    | nil => intro k; rfl
    | cons c r ih =>
      intro k
      cases c with
      | none => exact ih (k + 1)
      | some x => rfl
  exact go r 0
/-- no dict -/
def plS (s : Sl) : Prop := ∀ es, s ≠ .odc es ∧ s ≠ .odl es
theorem plS_dat {d : D} : plS (.dat d) := fun _ => ⟨(fun z => nomatch z), (fun z => nomatch z)⟩
theorem plS_un : plS .un := fun _ => ⟨(fun z => nomatch z), (fun z => nomatch z)⟩
theorem one7 {a c d e f g : Sl} {fs : List (Str × D)} (h0 : plS a) (h2 : plS c) (h3 : plS d) (h4 : plS e) (h5 : plS f) (h6 : plS g) : oneD 1 [a, .odc fs, c, d, e, f, g] := fun i t ne e' es => by
  match i, ne, e' with
  | 0, _, e' => cases e'; exact h0 es
  | 1, ne, _ => exact absurd rfl ne
  | 2, _, e' => cases e'; exact h2 es
  | 3, _, e' => cases e'; exact h3 es
  | 4, _, e' => cases e'; exact h4 es
  | 5, _, e' => cases e'; exact h5 es
  | 6, _, e' => cases e'; exact h6 es
  | i + 7, _, e' => simp at e'
section
variable {P : Program} {w : World} {K : Fg} {mg : Str → Option Value} {base : Heap}
theorem sc_law_greatest : FnScope ["_law_rows_here", "_law_left", "_law_row", "_law_others", "_law_other", "_law_text", "_law_cell"] ["_law_rows_here"] (defScope s_law_greatest) := ⟨rfl, rfl, rfl, by decide +kernel, rfl, by decide +kernel, by decide +kernel⟩
theorem ok_law_greatest (G : Glo K mg) (c : He.SaysD fa fn K) (H_law_is_part : Fn P w K mg base "_law_is_part" 1 2 false gPart) : Fn P w K mg base "_law_greatest" 2 1 false (gGreat) := by
  obtain ⟨fd, F⟩ := c.defs (d := dfn ("_law_greatest", none) "_law_greatest" "_law_greatest" s_law_greatest) (by unfold fn; simp)
  replace F : FunD K "_law_greatest" "_law_greatest" (defArgs s_law_greatest) (defBody s_law_greatest) (defScope s_law_greatest) [] [] (He.ga K "_law_greatest") fd := F
  refine ⟨_, fd, ["_law_rows_here"], ?_, G.g "_law_greatest" (by decide), F.kp, F.bindsN fun _ _ _ _ _ _ us hl => match us, hl with | [_], _ => rfl⟩
  have nd : (["_law_rows_here", "_law_left", "_law_row", "_law_others", "_law_other", "_law_text", "_law_cell"] : List Str).Nodup := sc_law_greatest.nd
  obtain ⟨_, h_LETTERS⟩ := G.hL
  obtain ⟨_, h_LAD⟩ := G.hA
  obtain ⟨_, h_LN⟩ := G.hN
  obtain ⟨_, h_LT⟩ := G.hT
  apply fn_okE (k := 1) (N := ["_law_rows_here", "_law_left", "_law_row", "_law_others", "_law_other", "_law_text", "_law_cell"]) F sc_law_greatest rfl (by decide)
  intro c cdv A outer s H E hr
  have hu := hr.units
  have tk := takes_of (X := cxOf (L2.CX P w) P w K mg base ["_law_rows_here", "_law_left", "_law_row", "_law_others", "_law_other", "_law_text", "_law_cell"] "_law_greatest" (defScope s_law_greatest) (He.ga K "_law_greatest") cdv A outer s H E) rfl rfl rfl rfl
  apply Exists.intro
  apply Exists.intro
  apply And.intro
  · exact (dss_cons (ds_newD 1 nd rfl (by first | exact .inl rfl | exact .inr rfl))
    (dss_cons (ds_for (passes_of rfl) rfl (di_seq (de_var 0)) (dg_name 2 nd rfl (by first | exact .inl rfl | exact .inr rfl)) (dss_cons (ds_setLcF 3 (own := [("_law_other", 4)]) rfl nd rfl rfl rfl (dic_of (di_seq (de_var 0))) (blkOk_by (show blkC ["_law_rows_here", "_law_left", "_law_row", "_law_others", "_law_other", "_law_text", "_law_cell"] (defScope s_law_greatest) _ _ = true from by decide +kernel)) (by decide) (fun s H C cl fp => (dg_name 4 nd rfl (by first | exact .inl rfl | exact .inr rfl))) (fun s H C cl fp => (dts_one (DW.dt (dw_and (dt_cmp (op_neD hu) rd_ne (de_var 4) (de_var 2) (nomark _)) (dw_and1 (dt_truth (de_f H_law_is_part (hr.mono (by decide)) rfl DL.takes0 (da_cons (de_var 2) (da_cons (de_var 4) da_nil))))))))) (fun s H C cl fp => (de_var 4)))
    (dss_one (ds_if (DW.dt (dw_and (dt_cmp (op_eqL hu) rd_eqL (de_var 3) (de_lst da_nil) (nomark _)) (dw_and1 (dt_cmp (op_neL hu) rd_neL (de_lcF (own := [("_law_cell", 6)]) rfl nd (dic_of (di_seq (de_var 2))) (blkOk_by (show blkC ["_law_rows_here", "_law_left", "_law_row", "_law_others", "_law_other", "_law_text", "_law_cell"] (defScope s_law_greatest) _ _ = true from by decide +kernel)) (by decide) (fun s H C cl fp => (dg_name 6 nd rfl (by first | exact .inl rfl | exact .inr rfl))) (fun s H C cl fp => (dts_one (dt_cmp op_notN rd_notN (de_var 6) de_non (nomark _)))) (fun s H C cl fp => (de_var 6))) (de_lst da_nil) (nomark _))))) (dss_one (ds_putD 1 (u1 hu) (pv 1) (de_ms PySem.F.slot_str_join PySem.F.type_str_join mt_join md_join de_str (da_cons (de_lcF (own := [("_law_cell", 6)]) rfl nd (dic_of (di_seq (de_var 2))) (blkOk_by (show blkC ["_law_rows_here", "_law_left", "_law_row", "_law_others", "_law_other", "_law_text", "_law_cell"] (defScope s_law_greatest) _ _ = true from by decide +kernel)) (by decide) (fun s H C cl fp => (dg_name 6 nd rfl (by first | exact .inl rfl | exact .inr rfl))) (fun s H C cl fp => dts_nil) (fun s H C cl fp => (de_if (dt_cmp op_isN rd_isN (de_var 6) de_non (nomark _)) de_str (de_var 6)))) da_nil)) (de_var 2))) dss_nil))))
    (dss_one (ds_ret (de_callTy call_tuple_of cd_tuple rfl (G.n "tuple" (by decide)) (by decide +kernel) (da_cons (de_lcF (own := [("_law_text", 5)]) rfl nd (dic_of (di_seq (de_callB cr_sortedS cd_sortS rfl (G.n "sorted" (by decide)) (by decide +kernel) (da_cons (de_lock 1 (de_lcF (own := [("_law_text", 5)]) rfl nd (di_keys 1 (pv 1)) (blkOk_by (show blkC ["_law_rows_here", "_law_left", "_law_row", "_law_others", "_law_other", "_law_text", "_law_cell"] (defScope s_law_greatest) _ _ = true from by decide +kernel)) (by decide) (fun s H C cl fp => (dg_name 5 nd rfl (by first | exact .inl rfl | exact .inr rfl))) (fun s H C cl fp => dts_nil) (fun s H C cl fp => (de_callTy call_strP cd_strP rfl (G.n "str" (by decide)) (by decide +kernel) (da_cons (de_var 5) da_nil))))) da_nil)))) (blkOk_by (show blkC ["_law_rows_here", "_law_left", "_law_row", "_law_others", "_law_other", "_law_text", "_law_cell"] (defScope s_law_greatest) _ _ = true from by decide +kernel)) (by decide) (fun s H C cl fp => (dg_name 5 nd rfl (by first | exact .inl rfl | exact .inr rfl))) (fun s H C cl fp => dts_nil) (fun s H C cl fp => (de_getD 1 (u1 hu) (pv 1) (de_var 5) (fun _ _ => rfl)))) da_nil))))))
  · intro ds F1 X1 hn h
    obtain ⟨rs, n, rfl, hl, hn6, hrs, f⟩ := h
    refine ms_at (e := [.dat (.lst (rs.map rowD)), .un, .un, .un, .un, .un, .un]) rfl ?_
    refine seq_st fun R hR => ?_
    dsimp only [msRet, msRetN, msSeq, msIf, msNext, msExpr, msSet, mtAnd, mtOr, mtNot, mTru, mB, mCB, mCall, maCons, maNil, mVar, mC, mOp, mChain, mIf, mAndV, mOrV, mNotV, mLst, mTup, mMS, gI0, gLen, gEq, gNe, gEqS, gNeS, gIn, gAll, gStrip, truD, start0, dn, mLc, miS, mgName, wipeD, mYes, lcD, List.map_cons, List.map_nil, List.replicate, List.cons_append, List.nil_append, List.getElem?_cons_zero, List.getElem?_cons_succ, List.getElem?_nil, List.append_nil, gLe, gLt, Bool.not_true, Bool.not_false, Bool.false_eq_true, reduceIte, mJoined, mJs, mFmt, maStar, gJoin, mFld, moSome, mSl, gIx, z5, mCallL, miZ, gEqL, gNeL, mIsiT, moNone, gSl, miR1, gAdd, List.set_cons_zero, List.set_cons_succ, decide_true, eq_self, mMake, gRep, gInt, msFor, gAbs, mRev, gGe, gMod, gPow, gI, msPub, mLend, msParOO, msAppPop, msAppO, gDraw, msPar, msPar3, msAsg, mgTup, mgCons, mgNil, DL.gSub, mNeg, gMin, gSl, gIsN, gNotN, gTuple, msOwn, mIsiT, msNewD]
    refine hR _ ?_
    clear hR
    refine seq_st fun R hR => ?_
    dsimp only [msRet, msRetN, msSeq, msIf, msNext, msExpr, msSet, mtAnd, mtOr, mtNot, mTru, mB, mCB, mCall, maCons, maNil, mVar, mC, mOp, mChain, mIf, mAndV, mOrV, mNotV, mLst, mTup, mMS, gI0, gLen, gEq, gNe, gEqS, gNeS, gIn, gAll, gStrip, truD, start0, dn, mLc, miS, mgName, wipeD, mYes, List.map_cons, List.map_nil, List.replicate, List.cons_append, List.nil_append, List.getElem?_cons_zero, List.getElem?_cons_succ, List.getElem?_nil, List.append_nil, gLe, gLt, Bool.not_true, Bool.not_false, Bool.false_eq_true, reduceIte, mJoined, mJs, mFmt, maStar, gJoin, mFld, moSome, mSl, gIx, z5, mCallL, miZ, gEqL, gNeL, mIsiT, moNone, gSl, miR1, gAdd, List.set_cons_zero, List.set_cons_succ, decide_true, eq_self, mMake, gRep, gInt, msFor, gAbs, mRev, gGe, gMod, gPow, gI, msPub, mLend, msParOO, msAppPop, msAppO, gDraw, msPar, msPar3, msAsg, mgTup, mgCons, mgNil, DL.gSub, mNeg, gMin, gSl, gIsN, gNotN, gTuple, msOwn, mIsiT]
    have sz : ∀ {m : Nat}, m ≤ 12 → m < sizeLine := fun h => Nat.lt_of_le_of_lt h (by decide)
    refine ⟨_, rfl, ?_⟩
    refine forD_map rowD (fun dn δ => ∃ (ks : List Rw) (x2 x3 x4 x5 x6 : Sl), ks.Nodup ∧ (∀ r, r ∈ ks ↔ r ∈ dn ∧ maxR rs r) ∧ plS x2 ∧ plS x3 ∧ plS x4 ∧ plS x5 ∧ plS x6 ∧ δ = [.dat (.lst (rs.map rowD)), .odc (ks.map entD), x2, x3, x4, x5, x6]) rs rs [] _ rfl (fun r pre rest δ eo q k' nx _ _ => ?_) ⟨[], _, _, _, _, _, List.nodup_nil, (fun r => ⟨(fun m => nomatch m), (fun m => nomatch m.1)⟩), plS_un, plS_un, plS_un, plS_un, plS_un, rfl⟩ (fun δ q => ?_)
    · obtain ⟨ks, x2, x3, x4, x5, x6, k1, k2, p2, p3, p4, p5, p6, rfl⟩ := q
      have mr : r ∈ rs := by rw [← eo]; simp
      have hr := hrs r mr
      have keep : ∀ ks' : List Rw, ks'.Nodup → (∀ s, s ∈ ks' ↔ s ∈ pre ++ [r] ∧ maxR rs s) → ∀ y3 : Sl, plS y3 → k'.nx [.dat (.lst (rs.map rowD)), .odc (ks'.map entD), .dat (rowD r), y3, x4, x5, x6] := fun ks' h1 h2 y3 h3 => nx _ ⟨ks', _, _, _, _, _, h1, h2, plS_dat, h3, p4, p5, p6, rfl⟩
      refine ms_at (ms := fun δ k => msSeq _ _ δ k) (e := [.dat (.lst (rs.map rowD)), .odc (ks.map entD), .dat (rowD r), x3, x4, x5, x6]) rfl ?_
      refine seq_st fun R2 hR2 => ?_
      dsimp only [msRet, msRetN, msSeq, msIf, msNext, msExpr, msSet, mtAnd, mtOr, mtNot, mTru, mB, mCB, mCall, maCons, maNil, mVar, mC, mOp, mChain, mIf, mAndV, mOrV, mNotV, mLst, mTup, mMS, gI0, gLen, gEq, gNe, gEqS, gNeS, gIn, gAll, gStrip, truD, start0, dn, mLc, miS, mgName, wipeD, mYes, lcD, List.map_cons, List.map_nil, List.replicate, List.cons_append, List.nil_append, List.getElem?_cons_zero, List.getElem?_cons_succ, List.getElem?_nil, List.append_nil, gLe, gLt, Bool.not_true, Bool.not_false, Bool.false_eq_true, reduceIte, mJoined, mJs, mFmt, maStar, gJoin, mFld, moSome, mSl, gIx, z5, mCallL, miZ, gEqL, gNeL, mIsiT, moNone, gSl, miR1, gAdd, List.set_cons_zero, List.set_cons_succ, decide_true, eq_self, mMake, gRep, gInt, msFor, gAbs, mRev, gGe, gMod, gPow, gI, msPub, mLend, msParOO, msAppPop, msAppO, gDraw, msPar, msPar3, msAsg, mgTup, mgCons, mgNil, DL.gSub, mNeg, gMin, gSl, gIsN, gNotN, gTuple, msOwn, mIsiT]
      have kr : RwsOk n ks := fun s m => hrs s (by
        have := (k2 s).mp m
        rw [← eo]
        exact List.mem_append_left _ this.1)
      refine ⟨_, rfl, by rw [List.length_map]; exact sz hl, lcD_if (p := othB r) (f := id) _ (fun d m F' q => ?_) (fun d m _ F' q => q) ?_⟩
      · obtain ⟨s, ms, rfl⟩ := List.mem_map.mp m
        have hs := hrs s ms
        refine ⟨plain_row hs.2, plain_row hr.2, ?_⟩
        rw [eqD_row]
        unfold othB at q
        rw [row_of (d := rowD s) rfl] at q
        cases e : decide (s = r) with
        | true =>
          rw [e] at q
          exact q
        | false =>
          rw [e] at q
          refine ⟨rfl, r, s, rfl, by rw [hr.1, hs.1], by rw [hr.1]; exact Nat.le_trans hn6 (by decide), hr.2, hs.2, fun b hb => ?_⟩
          have eb : b = partB r s := bool_of hb partB_iff
          subst eb
          exact q
      · rw [List.map_id]
        refine hR2 _ ?_
        clear hR2
        refine ms_at (ms := fun δ k => msIf _ _ _ δ k) (e := [.dat (.lst (rs.map rowD)), .odc (ks.map entD), .dat (rowD r), .dat (.lst ((rs.map rowD).filter (othB r))), x4, x5, x6]) rfl ?_
        have few : r.length < sizeLine := by rw [hr.1]; exact Nat.lt_of_le_of_lt hn6 (by decide)
        have no : ¬ maxR rs r → k'.nx [.dat (.lst (rs.map rowD)), .odc (ks.map entD), .dat (rowD r), .dat (.lst ((rs.map rowD).filter (othB r))), x4, x5, x6] := fun z => keep ks k1 (fun s => by
          rw [k2 s, List.mem_append, List.mem_singleton]
          constructor
          · exact fun ⟨q1, q2⟩ => ⟨.inl q1, q2⟩
          · rintro ⟨q1 | q1, q2⟩
            · exact ⟨q1, q2⟩
            · subst q1
              exact absurd q2 z) _ plS_dat
        dsimp only [msRet, msRetN, msSeq, msIf, msNext, msExpr, msSet, mtAnd, mtOr, mtNot, mTru, mB, mCB, mCall, maCons, maNil, mVar, mC, mOp, mChain, mIf, mAndV, mOrV, mNotV, mLst, mTup, mMS, gI0, gLen, gEq, gNe, gEqS, gNeS, gIn, gAll, gStrip, truD, start0, dn, mLc, miS, mgName, wipeD, mYes, lcD, List.map_cons, List.map_nil, List.replicate, List.cons_append, List.nil_append, List.getElem?_cons_zero, List.getElem?_cons_succ, List.getElem?_nil, List.append_nil, gLe, gLt, Bool.not_true, Bool.not_false, Bool.false_eq_true, reduceIte, mJoined, mJs, mFmt, maStar, gJoin, mFld, moSome, mSl, gIx, z5, mCallL, miZ, gEqL, gNeL, mIsiT, moNone, gSl, miR1, gAdd, List.set_cons_zero, List.set_cons_succ, decide_true, eq_self, mMake, gRep, gInt, msFor, gAbs, mRev, gGe, gMod, gPow, gI, msPub, mLend, msParOO, msAppPop, msAppO, gDraw, msPar, msPar3, msAsg, mgTup, mgCons, mgNil, DL.gSub, mNeg, gMin, gSl, gIsN, gNotN, gTuple, msOwn, mIsiT, rowD]
        refine ⟨by decide, ?_⟩
        cases e1 : ((rs.map rowD).filter (othB r)).isEmpty with
        | false =>
          refine iteF (iteF (no fun z => ?_))
          rw [oth_empty.mpr z.2] at e1
          cases e1
        | true =>
          refine iteT ⟨_, rfl, by rw [List.length_map]; exact few, lcD_if (p := fun d => !DL.isNon d) (f := id) _ (fun d m F' q => ?_) (fun d m _ F' q => q) ?_⟩
          · obtain ⟨c, mc, rfl⟩ := List.mem_map.mp m
            exact ⟨(fun v => cell_fx), q⟩
          · rw [List.map_id, some_filter]
            refine ⟨by decide, ?_⟩
            by_cases e2 : plc r = []
            · rw [decide_eq_true e2]
              exact iteF (no fun z => z.1 e2)
            · rw [decide_eq_false e2]
              have mx : maxR rs r := ⟨e2, oth_empty.mp e1⟩
              refine iteT ?_
              unfold msPutD
              dsimp only [msRet, msRetN, msSeq, msIf, msNext, msExpr, msSet, mtAnd, mtOr, mtNot, mTru, mB, mCB, mCall, maCons, maNil, mVar, mC, mOp, mChain, mIf, mAndV, mOrV, mNotV, mLst, mTup, mMS, gI0, gLen, gEq, gNe, gEqS, gNeS, gIn, gAll, gStrip, truD, start0, dn, mLc, miS, mgName, wipeD, mYes, lcD, List.map_cons, List.map_nil, List.replicate, List.cons_append, List.nil_append, List.getElem?_cons_zero, List.getElem?_cons_succ, List.getElem?_nil, List.append_nil, gLe, gLt, Bool.not_true, Bool.not_false, Bool.false_eq_true, reduceIte, mJoined, mJs, mFmt, maStar, gJoin, mFld, moSome, mSl, gIx, z5, mCallL, miZ, gEqL, gNeL, mIsiT, moNone, gSl, miR1, gAdd, List.set_cons_zero, List.set_cons_succ, decide_true, eq_self, mMake, gRep, gInt, msFor, gAbs, mRev, gGe, gMod, gPow, gI, msPub, mLend, msParOO, msAppPop, msAppO, gDraw, msPar, msPar3, msAsg, mgTup, mgCons, mgNil, DL.gSub, mNeg, gMin, gSl, gIsN, gNotN, gTuple, msOwn, mIsiT]
              refine ⟨_, rfl, by rw [List.length_map]; exact few, lcD_map (f := plainD) _ (fun d m F' q => ?_) ?_⟩
              · obtain ⟨c, mc, rfl⟩ := List.mem_map.mp m
                cases c with
                | none => exact ⟨(fun v => cell_fx), q⟩
                | some x => exact ⟨(fun v => cell_fx), q⟩
              · rw [plain_cells]
                refine ⟨_, plainR r, rfl, strsD_map _, join_ok (k := 6) (n := 200) (m := 1) (fun x m => ?_) (by unfold plainR; rw [List.length_map, hr.1]; exact hn6) (by decide), ?_⟩
                · obtain ⟨c, mc, rfl⟩ := List.mem_map.mp m
                  cases c with
                  | none => exact Nat.zero_le _
                  | some x => exact (hr.2 x mc).len
                · have kl : ks.length ≤ 12 := Nat.le_trans (nodup_len ks rs k1 fun s m => by
                    rw [← eo]
                    exact List.mem_append_left _ ((k2 s).mp m).1) hl
                  refine ⟨one7 plS_dat plS_dat plS_dat p4 p5 p6, by rw [List.length_map]; exact sz kl, ?_⟩
                  show k'.nx [.dat (.lst (rs.map rowD)), .odc (DL.putF (ks.map entD) (keyS r) (rowD r)), .dat (rowD r), .dat (.lst ((rs.map rowD).filter (othB r))), x4, x5, x6]
                  by_cases mk : r ∈ ks
                  · rw [put_old kr mk]
                    refine keep ks k1 (fun s => ?_) _ plS_dat
                    rw [k2 s, List.mem_append, List.mem_singleton]
                    constructor
                    · exact fun ⟨q1, q2⟩ => ⟨.inl q1, q2⟩
                    · rintro ⟨q1 | q1, q2⟩
                      · exact ⟨q1, q2⟩
                      · subst q1
                        exact (k2 _).mp mk
                  · rw [put_new kr hr mk]
                    refine keep (ks ++ [r]) ?_ (fun s => ?_) _ plS_dat
                    · rw [List.nodup_append]
                      refine ⟨k1, by simp, fun x hx y hy e => ?_⟩
                      rw [List.mem_singleton.mp hy] at e
                      exact mk (e ▸ hx)
                    · rw [List.mem_append, List.mem_singleton, k2 s, List.mem_append, List.mem_singleton]
                      constructor
                      · rintro (⟨q1, q2⟩ | q1)
                        · exact ⟨.inl q1, q2⟩
                        · subst q1
                          exact ⟨.inr rfl, mx⟩
                      · rintro ⟨q1 | q1, q2⟩
                        · exact .inl ⟨q1, q2⟩
                        · exact .inr q1
    · obtain ⟨ks, x2, x3, x4, x5, x6, k1, k2, p2, p3, p4, p5, p6, rfl⟩ := q
      refine hR _ ?_
      clear hR
      have kr : RwsOk n ks := fun s m => hrs s ((k2 s).mp m).1
      have kl : ks.length ≤ 12 := Nat.le_trans (nodup_len ks rs k1 fun s m => ((k2 s).mp m).1) hl
      dsimp only [msRet, msRetN, msSeq, msIf, msNext, msExpr, msSet, mtAnd, mtOr, mtNot, mTru, mB, mCB, mCall, maCons, maNil, mVar, mC, mOp, mChain, mIf, mAndV, mOrV, mNotV, mLst, mTup, mMS, gI0, gLen, gEq, gNe, gEqS, gNeS, gIn, gAll, gStrip, truD, start0, dn, mLc, miS, mgName, wipeD, mYes, lcD, List.map_cons, List.map_nil, List.replicate, List.cons_append, List.nil_append, List.getElem?_cons_zero, List.getElem?_cons_succ, List.getElem?_nil, List.append_nil, gLe, gLt, Bool.not_true, Bool.not_false, Bool.false_eq_true, reduceIte, mJoined, mJs, mFmt, maStar, gJoin, mFld, moSome, mSl, gIx, z5, mCallL, miZ, gEqL, gNeL, mIsiT, moNone, gSl, miR1, gAdd, List.set_cons_zero, List.set_cons_succ, decide_true, eq_self, mMake, gRep, gInt, msFor, gAbs, mRev, gGe, gMod, gPow, gI, msPub, mLend, msParOO, msAppPop, msAppO, gDraw, msPar, msPar3, msAsg, mgTup, mgCons, mgNil, DL.gSub, mNeg, gMin, gSl, gIsN, gNotN, gTuple, msOwn, mIsiT, mLock, miKeys]
      refine ⟨one7 plS_dat p2 p3 p4 p5 p6, ?_⟩
      have ek : (ks.map entD).map (fun x => D.str x.1) = (ks.map keyS).map D.str := by
        rw [List.map_map, List.map_map]
        rfl
      rw [ek]
      refine ⟨by rw [List.length_map, List.length_map]; exact sz kl, lcD_map (f := id) _ (fun d m F' q => ?_) ?_⟩
      · obtain ⟨x, mx, rfl⟩ := List.mem_map.mp m
        exact q
      · rw [List.map_id]
        refine ⟨ks.map keyS, rfl, by rw [List.length_map]; exact Nat.lt_of_le_of_lt kl (by decide), fun ys pm so => ?_⟩
        have yl : ys.length ≤ 12 := by rw [pm.length_eq, List.length_map]; exact kl
        have at_ : ∀ y ∈ ys, ∃ r ∈ ks, keyS r = y := fun y m => List.mem_map.mp (pm.mem_iff.mp m)
        refine ⟨_, rfl, by rw [List.length_map]; exact sz yl, lcD_map (f := fun d => match d with
          | .str y => rowD (rowAt ks y)
          | d => d) _ (fun d m F' q => ?_) ?_⟩
        · obtain ⟨y, my, rfl⟩ := List.mem_map.mp m
          obtain ⟨r, mr, rfl⟩ := at_ y my
          have q : F' (rowD (rowAt ks (keyS r))) := q
          rw [rowAt_key kr mr] at q
          exact ⟨rowD r, look_ent kr mr, q⟩
        · have e2 : (ys.map D.str).map (fun d => match d with
            | .str y => rowD (rowAt ks y)
            | d => d) = (ys.map (rowAt ks)).map rowD := by
            rw [List.map_map, List.map_map]
            rfl
          rw [e2]
          have p2 : (ys.map (rowAt ks)).Perm ks := by
            have p := pm.map (rowAt ks)
            rw [List.map_map] at p
            have e3 : ks.map (rowAt ks ∘ keyS) = ks := by
              conv => rhs; rw [← List.map_id ks]
              exact List.map_congr_left fun r m => rowAt_key kr m
            rw [e3] at p
            exact p
          refine f _ ⟨p2.nodup_iff.mpr k1, fun r => by rw [p2.mem_iff, k2 r], ?_⟩
          have e4 : (ys.map (rowAt ks)).map keyL = ys.map fun x => x.cps.toList := by
            rw [List.map_map]
            refine List.map_congr_left fun y m => ?_
            obtain ⟨r, mr, rfl⟩ := at_ y m
            show keyL (rowAt ks (keyS r)) = _
            rw [rowAt_key kr mr]
            rfl
          rw [e4]
          exact sorted_up so
end
end K04

set_option Elab.async false
set_option linter.all false
set_option maxRecDepth 100000
set_option maxHeartbeats 4000000
namespace K04
open PySem PySem.Spec PyProof.Rows L2 DL XS
structure Exf1 (K : Fg) : Prop where
  kls : Kls K
  oex : OexC K (iT K)
  ini : PySem.W.findIn K (.ref (iT K)) "__init__" = some (some (.ref (He.ma K (iT K) "__init__")))
  fun_ : PySem.W.typeIn K (.ref (He.ma K (iT K) "__init__")) = some (.type "function")
  now : PySem.W.findIn K (.ref (iT K)) "word" = some none
  xf : XfC K (iT K)
  exc : ExcC K (iT K)
  self_ : PySem.W.exmOne K (.ref (iT K)) (.ref (iT K)) = some true
  base_ : PySem.W.kitOne K (.ref (iT K)) (.ref (He.ga K "TableError")) = some true
  dfl : ∀ H, SqT K H (He.dflAt ("Table", some "__init__") 0 K) []
theorem get_exf1 {K : Fg} (e : ex1 K = true) : Exf1 K := by
  unfold ex1 at e
  obtain ⟨e1, e⟩ := b2 e
  obtain ⟨e2, e⟩ := b2 e
  obtain ⟨e3, e⟩ := b2 e
  obtain ⟨e4, e⟩ := b2 e
  obtain ⟨e5, e⟩ := b2 e
  obtain ⟨e6, e⟩ := b2 e
  obtain ⟨e7, e⟩ := b2 e
  obtain ⟨e8, e⟩ := b2 e
  obtain ⟨e9, e⟩ := b2 e
  obtain ⟨e10, e11⟩ := b2 e
  obtain ⟨s1, s2⟩ := b2 e10
  obtain ⟨s3, s4⟩ := b2 e11
  obtain ⟨q1, q2⟩ := initB_ok e2
  exact {
    kls := {
      part := fun H => He.tupB_ok (vs := [.str "as", .str "by", .str "to", .str "end"]) e8 H
      seq := fun C z => by subst z; exact kitB_ok s1
      str := fun C z => by subst z; exact kitB_ok s2
      isC := fun C z => by subst z; exact isC_ok e7
      lst := fun C z => by subst z; exact kitB_ok s3
      tup := fun C z => by subst z; exact kitB_ok s4 }
    oex := oexB_ok e1
    ini := q1
    fun_ := q2
    now := nofB_ok e3
    xf := xfB_ok (b2 e4).1
    exc := excC_ok e4
    self_ := of_decide_eq_true e5
    base_ := of_decide_eq_true e6
    dfl := fun H => tupAtB_ok (vs := []) e9 H }

def MethOk (K : Fg) (m : Str) : Prop := PySem.W.findIn K (.ref (cTable K)) m = some (some (.ref (He.ma K (cTable K) m))) ∧ PySem.W.typeIn K (.ref (He.ma K (cTable K) m)) = some (.type "function")

structure Exf (K : Fg) : Prop where
  o : Exf1 K
  con : MethOk K "__contains__"
  und : MethOk K "under"
  undK : PySem.W.keepIn K (.ref (He.ma K (cTable K) "under")) = true
  rok : okA K (txA K) "Table.texts" = true
  prp : PropOf K (cTable K) "texts" (He.ma K (cTable K) "texts") (txA K)
  xo : OexB K (nC K)
  xi : PySem.W.findIn K (.ref (nC K)) "__init__" = some (some (.ref (He.ma K (nC K) "__init__")))
  xt : PySem.W.typeIn K (.ref (He.ma K (nC K) "__init__")) = some (.type "function")
  xn : PySem.W.findIn K (.ref (nC K)) "name" = some none
  xx : XfC K (nC K)
  xc : ExcC K (nC K)
  xs : PySem.W.exmOne K (.ref (nC K)) (.ref (nC K)) = some true
  xb : PySem.W.kitOne K (.ref (nC K)) (.ref (He.ga K "TableError")) = some false
  xk : PySem.W.kitOne K (.ref (nC K)) (.type "KeyError") = some true
theorem prB_ok {K : Fg} {C : Addr} {m : Str} (h : prB K C m = true) : PropOf K C m (He.ma K C m) (prA K C m) := by
  unfold prB at h
  obtain ⟨h1, h⟩ := b2 h
  obtain ⟨h2, h⟩ := b2 h
  obtain ⟨h3, h4⟩ := b2 h
  refine ⟨of_decide_eq_true h1, of_decide_eq_true h2, of_decide_eq_true h3, ?_⟩
  unfold prA
  split at h4
  · rename_i g rest e
    rw [e]
    exact ⟨rest, rfl⟩
  · cases h4
theorem get_exf {K : Fg} (e : ex K = true) : Exf K := by
  unfold ex at e
  obtain ⟨e0, e⟩ := b2 e
  obtain ⟨eN, e⟩ := b2 e
  obtain ⟨e1, e⟩ := b2 e
  obtain ⟨e2, e3⟩ := b2 e
  unfold exN at eN
  obtain ⟨u1, u⟩ := b2 eN
  obtain ⟨u2, u⟩ := b2 u
  obtain ⟨u3, u⟩ := b2 u
  obtain ⟨u4, u⟩ := b2 u
  obtain ⟨u5, u⟩ := b2 u
  obtain ⟨u6, u7⟩ := b2 u
  obtain ⟨q1, q2⟩ := initB_ok u2
  have mb : ∀ {m : Str}, methB K (cTable K) m = true → MethOk K m := fun {m} h => by
    unfold methB eqOV at h
    obtain ⟨q1, q2⟩ := b2 h
    exact ⟨of_decide_eq_true q1, of_decide_eq_true q2⟩
  obtain ⟨m1, m2⟩ := b2 e2
  obtain ⟨p1, p2⟩ := b2 e3
  exact ⟨get_exf1 e0, mb e1, mb m1, m2, p2, prB_ok p1, oexBB_ok XB.over_key u1, q1, q2, nofB_ok u3, xfB_ok (b2 u4).1, excC_ok u4, of_decide_eq_true u5, of_decide_eq_true u6, of_decide_eq_true u7⟩
def RwOk (n : Nat) (r : Rw) : Prop := r.length = n ∧ ∀ x, some x ∈ r → TxtOk x
theorem txt_v {K : Fg} {x : Str} (h : TxtOk x) : V1 K (.str x) := ⟨trivial, Nat.le_trans h.len (by decide), h.ok⟩
theorem cell_v {K : Fg} {c : Option Str} (h : ∀ x, c = some x → TxtOk x) : V1 K (cD c) := by
  cases c with
  | none => exact ⟨trivial, trivial⟩
  | some x => exact txt_v (h x rfl)
theorem cell_b {c : Option Str} (h : ∀ x, c = some x → TxtOk x) : cellB (cD c) = true := by
  cases c with
  | none => rfl
  | some x => exact (h x rfl).tx
theorem row_v {K : Fg} {r : Rw} (h : r.length ≤ 200) : V1 K (rowD r) := ⟨trivial, (show (r.map cD).length ≤ 200 from by rw [List.length_map]; omega)⟩
theorem dds_all : ∀ (xs acc : List Str), (acc ++ xs).Nodup → ddS acc xs = acc ++ xs
  | [], acc, _ => (List.append_nil acc).symm
  | x :: xs, acc, h => by
    have nx : x ∉ acc := fun m => (List.nodup_append.mp h).2.2 x m x (List.mem_cons_self ..) rfl
    show (if x ∈ acc then ddS acc xs else ddS (acc ++ [x]) xs) = _
    rw [if_neg nx, dds_all xs _ (by rw [List.append_assoc]; exact h), List.append_assoc]
    rfl

structure NmOk (cs : List Str) : Prop where
  one : 1 ≤ cs.length
  six : cs.length ≤ 200
  nm : namesD (strsL cs) 1 = true
  hi : ∀ c ∈ cs, ∀ n ∈ c.cps.toList, 45 < n
  len : ∀ c ∈ cs, c.length ≤ 4
  ok : ∀ c ∈ cs, PyData.strOk c = true
def nm1 (c : Str) : Bool := nameD (.str c) && ((c.cps.toList.all fun n => decide (45 < n)) && (decide (c.length ≤ 4) && PyData.strOk c))
theorem nm_of {cs : List Str} (h1 : 1 ≤ cs.length) (h6 : cs.length ≤ 200) (nd : cs.Nodup) (h : ∀ c ∈ cs, nm1 c = true) : NmOk cs := by
  have q : ∀ c ∈ cs, nameD (.str c) = true ∧ (∀ n ∈ c.cps.toList, 45 < n) ∧ c.length ≤ 4 ∧ PyData.strOk c = true := fun c m => by
    obtain ⟨q1, q⟩ := b2 (h c m)
    obtain ⟨q2, q⟩ := b2 q
    obtain ⟨q3, q4⟩ := b2 q
    exact ⟨q1, fun n mn => of_decide_eq_true (List.all_eq_true.mp q2 n mn), of_decide_eq_true q3, q4⟩
  refine ⟨h1, h6, ?_, fun c m => (q c m).2.1, fun c m => (q c m).2.2.1, fun c m => (q c m).2.2.2⟩
  show (true && (!decide (((cs.map D.str).length : Int) < 1) && ((cs.map D.str).all nameD && diffD (cs.map D.str)))) = true
  have e1 : (!decide (((cs.map D.str).length : Int) < 1)) = true := by
    rw [List.length_map, Bool.not_eq_true', decide_eq_false_iff_not]
    omega
  have e2 : (cs.map D.str).all nameD = true := by
    rw [List.all_eq_true]
    intro d m
    obtain ⟨c, mc, rfl⟩ := List.mem_map.mp m
    exact (q c mc).1
  have e3 : diffD (cs.map D.str) = true := by
    unfold diffD
    rw [strsD_map]
    show decide (((ddS [] cs).length : Int) = ((cs.map D.str).length : Int)) = true
    rw [dds_all cs [] (by rw [List.nil_append]; exact nd), List.nil_append, List.length_map]
    exact decide_eq_true rfl
  rw [e1, e2, e3]
  rfl
theorem cols_nm {m : Nat} {cs : List Str} (h : ColsOk m cs) (m1 : 1 ≤ m) (m6 : m ≤ 6) : NmOk cs :=
  nm_of (by rw [h.1]; exact m1) (by rw [h.1]; omega) h.2.1 fun c mc => List.all_eq_true.mp (show poolC.all nm1 = true by decide +kernel) c (h.2.2 c mc)
theorem NmOk.v {K : Fg} {cs : List Str} (h : NmOk cs) {d : D} (hd : seqD d = some (cs.map D.str)) : V2 K d := by
  have el : elD d = cs.map D.str := by
    unfold elD
    rw [hd]
    rfl
  refine ⟨?_, fun e m => ?_⟩
  · cases d with
    | lst l =>
      cases hd
      exact ⟨trivial, (show (cs.map D.str).length ≤ 200 from by rw [List.length_map]; have := h.six; omega)⟩
    | tup l =>
      cases hd
      exact ⟨trivial, (show (cs.map D.str).length ≤ 200 from by rw [List.length_map]; have := h.six; omega)⟩
    | _ => cases hd
  · rw [el] at m
    obtain ⟨c, mc, rfl⟩ := List.mem_map.mp m
    exact ⟨trivial, Nat.le_trans (h.len c mc) (by decide), h.ok c mc⟩
theorem NmOk.is {cs : List Str} (h : NmOk cs) {d : D} (hd : seqD d = some (cs.map D.str)) : namesD d 1 = true := by
  cases d with
  | lst l => cases hd; exact h.nm
  | tup l => cases hd; exact h.nm
  | _ => cases hd
/-! ### the rows of a table are the greatest ones, in their order -/
theorem canon_of {a o ks rs : List Rw} {n : Nat} (n1 : 1 ≤ n) (w : RwsOk n rs) (h1 : AscR a rs) (h2 : AscR o ks) (h3 : ∀ r, r ∈ ks ↔ keepR a r) : Canon rs o := by
  have wa : ∀ r ∈ a, r.length = n := fun r m => (w r ((h1.mem r).mp m)).1
  have mem : ∀ r, r ∈ o ↔ r ∈ rs ∧ maxR rs r := fun r => by
    rw [h2.mem, h3, keep_iff wa]
    unfold maxR
    constructor
    · rintro ⟨q1, q2, q3⟩
      exact ⟨(h1.mem r).mp q1, q2, fun s m => q3 s ((h1.mem s).mpr m)⟩
    · rintro ⟨q1, q2, q3⟩
      exact ⟨(h1.mem r).mpr q1, q2, fun s m => q3 s ((h1.mem s).mp m)⟩
  refine ⟨h2.nd, mem, ?_⟩
  unfold upL
  rw [List.pairwise_map]
  refine List.Pairwise.imp_of_mem ?_ h2.asc
  intro x y mx my h
  have hx := w x ((mem x).mp mx).1
  have hy := w y ((mem y).mp my).1
  have len : ∀ {r : Rw}, (plainR r).length = r.length := fun {r} => by
    unfold plainR
    rw [List.length_map]
  rw [ltT_K, ltK_jn _ _ (by rw [len, len, hx.1, hy.1]) (fun z => by
    have := congrArg List.length z
    rw [len, hy.1] at this
    simp at this
    omega) (hi_plain hy.2) (hi_plain hx.2)] at h
  rw [keyL_jn, keyL_jn]
  exact h
/-- a table that is made -/
theorem mk_tab {K : Fg} {cs : List Str} {rs : List Rw} {F : List (Str × D) → Prop} {X : XC} (hn : NmOk cs) (few : rs.length ≤ 12) (hrs : RwsOk cs.length rs)
    (f : ∀ f0 out, NamF f0 cs → Canon rs out → F [("columns", .ext f0 []), ("rows", .tup (out.map rowD))]) : gTable K [strsL cs, .lst (rs.map rowD)] F X := by
  have hd : seqD (D.lst (cs.map D.str)) = some (cs.map D.str) := rfl
  refine ⟨cs, .lst (rs.map rowD), rfl, hn.v hd, ⟨⟨trivial, (show (rs.map rowD).length ≤ 200 from by rw [List.length_map]; omega)⟩, (show (rs.map rowD).length ≤ 60 by rw [List.length_map]; omega), fun e m => ?_⟩, ?_⟩
  · obtain ⟨r, mr, rfl⟩ := List.mem_map.mp (show e ∈ rs.map rowD from m)
    have h := hrs r mr
    refine ⟨row_v (by rw [h.1]; exact hn.six), fun e m => ?_⟩
    obtain ⟨c, mc, rfl⟩ := List.mem_map.mp m
    exact cell_v fun x e => h.2 x (by rw [← e]; exact mc)
  · have b0 : badT (.lst (cs.map D.str)) (.lst (rs.map rowD)) = none := by
      unfold badT
      rw [if_pos (hn.is hd)]
      unfold badR
      rw [if_pos (show isSeqD (D.lst (List.map rowD rs)) = true from rfl), if_pos, if_pos]
      · rw [List.all_eq_true]
        intro d m
        obtain ⟨r, mr, rfl⟩ := List.mem_map.mp (show d ∈ rs.map rowD from m)
        rw [List.all_eq_true]
        intro d m
        obtain ⟨c, mc, rfl⟩ := List.mem_map.mp m
        exact cell_b fun x e => (hrs r mr).2 x (by rw [← e]; exact mc)
      · rw [List.all_eq_true]
        intro d m
        obtain ⟨r, mr, rfl⟩ := List.mem_map.mp (show d ∈ rs.map rowD from m)
        show (true && decide ((((r.map cD).length : Nat) : Int) = ((cs.map D.str).length : Nat))) = true
        rw [List.length_map, List.length_map, (hrs r mr).1]
        simp
    rw [b0]
    intro f0 a o ks nf h1 h2 h3
    have e : (elD (.lst (rs.map rowD))).map rwOf = rs := by
      show (rs.map rowD).map rwOf = rs
      rw [List.map_map]
      conv => rhs; rw [← List.map_id rs]
      exact List.map_congr_left fun r _ => row_of (d := rowD r) rfl
    rw [e] at h1
    exact f f0 o nf (canon_of hn.one hrs h1 h2 h3)
theorem canon_sub {rs out : List Rw} {n : Nat} (w : RwsOk n rs) (c : Canon rs out) : RwsOk n out := fun r m => w r ((c.mem r).mp m).1
theorem canon_len {rs out : List Rw} (c : Canon rs out) : out.length ≤ rs.length := nodup_len out rs c.nd fun r m => ((c.mem r).mp m).1
theorem plain_rowN (n : Nat) {r : Rw} (h : ∀ x, some x ∈ r → TxtOk x) : plain (n + 2) (rowD r) = true := by
  show (r.map cD).all (plain (n + 1)) = true
  rw [List.all_eq_true]
  intro d m
  obtain ⟨c, mc, rfl⟩ := List.mem_map.mp m
  cases c with
  | none => rfl
  | some x => exact (h x mc).ok
theorem plain_rows (n k : Nat) {rs : List Rw} (h : RwsOk k rs) : plain (n + 3) (.tup (rs.map rowD)) = true := by
  show (rs.map rowD).all (plain (n + 2)) = true
  rw [List.all_eq_true]
  intro d m
  obtain ⟨r, mr, rfl⟩ := List.mem_map.mp m
  exact plain_rowN n (h r mr).2
theorem plain_strs (n : Nat) {cs : List Str} (h : ∀ c ∈ cs, PyData.strOk c = true) : plain (n + 2) (.tup (cs.map D.str)) = true := by
  show (cs.map D.str).all (plain (n + 1)) = true
  rw [List.all_eq_true]
  intro d m
  obtain ⟨c, mc, rfl⟩ := List.mem_map.mp m
  exact h c mc
theorem eqDs_strs : ∀ {a b : List Str}, eqDs (a.map D.str) (b.map D.str) = true ↔ a = b
  | [], [] => by simp [eqDs]
  | [], _ :: _ => by simp [eqDs]
  | _ :: _, [] => by simp [eqDs]
  | x :: a, y :: b => by
    show (eqD (.str x) (.str y) && eqDs (a.map D.str) (b.map D.str)) = true ↔ _
    rw [Bool.and_eq_true, eqDs_strs, List.cons.injEq]
    simp [eqD]
theorem eqDs_rws : ∀ {a b : List Rw}, eqDs (a.map rowD) (b.map rowD) = true ↔ a = b
  | [], [] => by simp [eqDs]
  | [], _ :: _ => by simp [eqDs]
  | _ :: _, [] => by simp [eqDs]
  | x :: a, y :: b => by
    show (eqD (rowD x) (rowD y) && eqDs (a.map rowD) (b.map rowD)) = true ↔ _
    rw [Bool.and_eq_true, eqDs_rws, List.cons.injEq, eqD_row, decide_eq_true_eq]
theorem eqT_strs (a b : List Str) : eqD (.tup (a.map D.str)) (.tup (b.map D.str)) = decide (a = b) := by
  rw [Bool.eq_iff_iff, decide_eq_true_eq]
  exact eqDs_strs
theorem eqT_rows (a b : List Rw) : eqD (.tup (a.map rowD)) (.tup (b.map rowD)) = decide (a = b) := by
  rw [Bool.eq_iff_iff, decide_eq_true_eq]
  exact eqDs_rws
theorem at_zero {d : D} {ds : List D} : L2.atI (d :: ds) 0 = some d := by
  unfold L2.atI
  rw [show L2.ixN (d :: ds).length 0 = some 0 from by
    unfold L2.ixN
    rw [if_pos (by decide), if_pos (by rw [List.length_cons]; omega)]
    rfl]
  rfl
theorem cut_one {α : Type} (x : α) (l : List α) : DL.cutD (x :: l) (some 1) none = l := by
  unfold DL.cutD
  have e1 : HT.sIx (x :: l).length 0 (some 1) = 1 := by
    unfold HT.sIx
    simp
    try omega
  have e2 : HT.sIx (x :: l).length (x :: l).length none = (x :: l).length := rfl
  rw [e1, e2]
  simp

def tabE (K : Fg) (f0 : Addr → HO) (out : List Rw) : D := .obj (cTable K) [("columns", .ext f0 []), ("rows", .tup (out.map rowD))]
/-- what is known of a table -/
structure TbN (f0 : Addr → HO) (cs : List Str) (out : List Rw) : Prop where
  nf : NamF f0 cs
  nm : NmOk cs
  six : cs.length ≤ 6
  few : out.length ≤ 12
  rw_ : RwsOk cs.length out
end K04

set_option Elab.async false
set_option linter.all false
set_option maxRecDepth 100000
set_option maxHeartbeats 4000000
namespace K04
open PySem PySem.Spec PyProof.Rows L2 DL XS
/-! ### any value asked for in a table -/
def rowB (d : D) (n : Int) : Bool := wideD d n && (elD d).all cellB
def gIsRow (K : Fg) : FF := fun ds F _ => ∃ (d : D) (n : Int), ds = [d, .int n] ∧ V2 K d ∧ F (.bl (rowB d n))
def gPlacesA : FF := fun ds F _ => ∃ (d : D) (r : Rw), ds = [d] ∧ seqD d = some (r.map cD) ∧ r.length ≤ 1000 ∧ F (plD (plc r))
def gCellsA : FF := fun ds F _ => ∃ (d : D) (r : Rw) (l : List Int), ds = [d, plD l] ∧ seqD d = some (r.map cD) ∧ r.length ≤ 1000 ∧ l.length ≤ 1000 ∧ (∀ i ∈ l, 0 ≤ i ∧ i < r.length) ∧ F (rowD (cellsR r l))
def gWithA : FF := fun ds F _ => ∃ (d : D) (r : Rw), ds = [.lst [d]] ∧ seqD d = some (r.map cD) ∧ r.length ≤ 1000 ∧ F (.lst [.tup [plD (plc r), d]])
def gUnlikeA : FF := fun ds F _ => ∃ (d : D) (l : List Int), ds = [.lst [.tup [plD l, d]]] ∧ l ≠ [] ∧ F (.lst [plD l])
def gToldA : FF := fun ds F _ => ∃ (d : D) (r : Rw) (os : List Rw) (n : Nat), ds = [.lst [d], .tup (os.map rowD)] ∧ seqD d = some (r.map cD) ∧ plc r ≠ [] ∧ os.length ≤ 12 ∧ n ≤ 200 ∧ r.length = n ∧ (∀ s ∈ os, s.length = n) ∧ ∀ b : Bool, (b = true ↔ ∃ s ∈ os, partR r s) → F (.bl b)
theorem el_len {K : Fg} {d : D} (h : V1 K d) : (elD d).length ≤ 200 := by
  have h := h.2
  cases d with
  | lst _ => exact h
  | tup _ => exact h
  | _ => exact Nat.zero_le _
def keyRow (l : List Int) (d : D) : Kt := toK (cellsR (rwOf d) l)
section
variable {P : Program} {w : World} {K : Fg} {mg : Str → Option Value} {base : Heap}
theorem sc_is_row : FnScope ["value", "width", "cell"] ["value", "width"] (defScope s_is_row) := ⟨rfl, rfl, rfl, by decide +kernel, rfl, by decide +kernel, by decide +kernel⟩
theorem ok_is_row (G : Glo K mg) (c : He.SaysD fa fn K) (H_has_width : Fn P w K mg base "has_width" 2 2 false (gWide K)) (H_is_cell : Fn P w K mg base "is_cell" 3 1 false (gCell K)) : Fn P w K mg base "is_row" 4 2 false (gIsRow K) := by
  obtain ⟨fd, F⟩ := c.defs (d := dfn ("is_row", none) "is_row" "is_row" s_is_row) (by unfold fn; simp)
  replace F : FunD K "is_row" "is_row" (defArgs s_is_row) (defBody s_is_row) (defScope s_is_row) [] [] (He.ga K "is_row") fd := F
  refine ⟨_, fd, ["value", "width"], ?_, G.g "is_row" (by decide), F.kp, F.bindsN fun _ _ _ _ _ _ us hl => match us, hl with | [_, _], _ => rfl⟩
  have nd : (["value", "width", "cell"] : List Str).Nodup := sc_is_row.nd
  obtain ⟨_, h_LETTERS⟩ := G.hL
  obtain ⟨_, h_LAD⟩ := G.hA
  obtain ⟨_, h_LN⟩ := G.hN
  obtain ⟨_, h_LT⟩ := G.hT
  obtain ⟨_, h_LACK⟩ := G.hK
  apply fn_okE (k := 3) (N := ["value", "width", "cell"]) F sc_is_row rfl (by decide)
  intro c cdv A outer s H E hr
  have hu := hr.units
  have tk := takes_of (X := cxOf (L2.CX P w) P w K mg base ["value", "width", "cell"] "is_row" (defScope s_is_row) (He.ga K "is_row") cdv A outer s H E) rfl rfl rfl rfl
  apply Exists.intro
  apply Exists.intro
  apply And.intro
  · exact (dss_one (ds_ret (de_and (de_f H_has_width (hr.mono (by decide)) rfl tk (da_cons (de_var 0) (da_cons (de_var 1) da_nil))) (de_one (de_callB (cr_all rfl) cd_all rfl (G.n "all" (by decide)) (by decide +kernel) (da_cons (de_lcF (own := [("cell", 2)]) rfl nd (dic_of (di_seq (de_var 0))) (blkOk_by (show blkC ["value", "width", "cell"] (defScope s_is_row) _ _ = true from by decide +kernel)) (by decide) (fun s H C cl fp => (dg_name 2 nd rfl (by first | exact .inl rfl | exact .inr rfl))) (fun s H C cl fp => dts_nil) (fun s H C cl fp => (de_f H_is_cell (hr.mono (by decide)) rfl DL.takes0 (da_cons (de_var 2) da_nil)))) da_nil))))))
  · intro ds F1 X1 hn h
    obtain ⟨d, n, rfl, v, f⟩ := h
    refine ms_at (e := [.dat d, .dat (.int n), .un]) rfl ?_
    dsimp only [msRet, msRetN, msSeq, msIf, msNext, msExpr, msSet, mtAnd, mtOr, mtNot, mTru, mB, mCB, mCall, maCons, maNil, mVar, mC, mOp, mChain, mIf, mAndV, mOrV, mNotV, mLst, mTup, mMS, gI0, gLen, gEq, gNe, gEqS, gNeS, gIn, gAll, gStrip, truD, start0, dn, mLc, miS, mgName, wipeD, mYes, lcD, List.map_cons, List.map_nil, List.replicate, List.cons_append, List.nil_append, List.getElem?_cons_zero, List.getElem?_cons_succ, List.getElem?_nil, List.append_nil, gLe, gLt, Bool.not_true, Bool.not_false, Bool.false_eq_true, reduceIte, mJoined, mJs, mFmt, maStar, gJoin, mFld, moSome, mSl, gIx, z5, mCallL, miZ, gEqL, gNeL, mIsiT, moNone, gSl, miR1, gAdd, List.set_cons_zero, List.set_cons_succ, decide_true, eq_self, mMake, gRep, gInt, msFor, gAbs, mRev, gGe, gMod, gPow, gI, msPub, mLend, msParOO, msAppPop, msAppO, gDraw, msPar, msPar3, msAsg, mgTup, mgCons, mgNil, DL.gSub, mNeg, gMin, gSl, gIsN, gNotN, gTuple, msOwn, mIsiT, mDc, miEnumA]
    refine ⟨rfl, d, n, rfl, v.1, ?_⟩
    unfold rowB at f
    cases e : wideD d n with
    | false =>
      rw [e] at f
      exact f
    | true =>
      rw [e, Bool.true_and] at f
      dsimp only [msRet, msRetN, msSeq, msIf, msNext, msExpr, msSet, mtAnd, mtOr, mtNot, mTru, mB, mCB, mCall, maCons, maNil, mVar, mC, mOp, mChain, mIf, mAndV, mOrV, mNotV, mLst, mTup, mMS, gI0, gLen, gEq, gNe, gEqS, gNeS, gIn, gAll, gStrip, truD, start0, dn, mLc, miS, mgName, wipeD, mYes, lcD, List.map_cons, List.map_nil, List.replicate, List.cons_append, List.nil_append, List.getElem?_cons_zero, List.getElem?_cons_succ, List.getElem?_nil, List.append_nil, gLe, gLt, Bool.not_true, Bool.not_false, Bool.false_eq_true, reduceIte, mJoined, mJs, mFmt, maStar, gJoin, mFld, moSome, mSl, gIx, z5, mCallL, miZ, gEqL, gNeL, mIsiT, moNone, gSl, miR1, gAdd, List.set_cons_zero, List.set_cons_succ, decide_true, eq_self, mMake, gRep, gInt, msFor, gAbs, mRev, gGe, gMod, gPow, gI, msPub, mLend, msParOO, msAppPop, msAppO, gDraw, msPar, msPar3, msAsg, mgTup, mgCons, mgNil, DL.gSub, mNeg, gMin, gSl, gIsN, gNotN, gTuple, msOwn, mIsiT, mDc, miEnumA]
      have sq : isSeqD d = true := (Bool.and_eq_true_iff.mp e).1
      refine ⟨_, seq_el sq, Nat.lt_of_le_of_lt (el_len v.1) (by decide), lcD_map (f := fun d => .bl (cellB d)) _ (fun x mx F' q => ⟨rfl, x, rfl, v.2 x mx, q⟩) ?_⟩
      refine ⟨_, bls_map _, ?_⟩
      rw [List.all_map]
      exact f
theorem okA_places_told (G : Glo K mg) (c : He.SaysD fa fn K) : Fn P w K mg base "places_told" 1 1 false (gPlacesA) := by
  obtain ⟨fd, F⟩ := c.defs (d := dfn ("places_told", none) "places_told" "places_told" s_places_told) (by unfold fn; simp)
  replace F : FunD K "places_told" "places_told" (defArgs s_places_told) (defBody s_places_told) (defScope s_places_told) [] [] (He.ga K "places_told") fd := F
  refine ⟨_, fd, ["row"], ?_, G.g "places_told" (by decide), F.kp, F.bindsN fun _ _ _ _ _ _ us hl => match us, hl with | [_], _ => rfl⟩
  have nd : (["row", "at", "cell"] : List Str).Nodup := sc_places_told.nd
  obtain ⟨_, h_LETTERS⟩ := G.hL
  obtain ⟨_, h_LAD⟩ := G.hA
  obtain ⟨_, h_LN⟩ := G.hN
  obtain ⟨_, h_LT⟩ := G.hT
  obtain ⟨_, h_LACK⟩ := G.hK
  apply fn_okE (k := 0) (N := ["row", "at", "cell"]) F sc_places_told rfl (by decide)
  intro c cdv A outer s H E hr
  have hu := hr.units
  have tk := takes_of (X := cxOf (L2.CX P w) P w K mg base ["row", "at", "cell"] "places_told" (defScope s_places_told) (He.ga K "places_told") cdv A outer s H E) rfl rfl rfl rfl
  apply Exists.intro
  apply Exists.intro
  apply And.intro
  · exact (dss_one (ds_ret (de_callTy call_tuple_of cd_tuple rfl (G.n "tuple" (by decide)) (by decide +kernel) (da_cons (de_lcF (own := [("at", 1), ("cell", 2)]) rfl nd (dic_of (di_enumA rfl (G.n "enumerate" (by decide)) (de_var 0))) (blkOk_by (show blkC ["row", "at", "cell"] (defScope s_places_told) _ _ = true from by decide +kernel)) (by decide) (fun s H C cl fp => (dg_tup rfl (dgs_cons (dg_name 1 nd rfl (by first | exact .inl rfl | exact .inr rfl)) (dgs_cons (dg_name 2 nd rfl (by first | exact .inl rfl | exact .inr rfl)) dgs_nil)))) (fun s H C cl fp => (dts_one (dt_cmp op_notN rd_notN (de_var 2) de_non (nomark _)))) (fun s H C cl fp => (de_var 1))) da_nil))))
  · intro ds F1 X1 hn h
    obtain ⟨d, r, rfl, hs, hl, f⟩ := h
    refine ms_at (e := [.dat d, .un, .un]) rfl ?_
    dsimp only [msRet, msRetN, msSeq, msIf, msNext, msExpr, msSet, mtAnd, mtOr, mtNot, mTru, mB, mCB, mCall, maCons, maNil, mVar, mC, mOp, mChain, mIf, mAndV, mOrV, mNotV, mLst, mTup, mMS, gI0, gLen, gEq, gNe, gEqS, gNeS, gIn, gAll, gStrip, truD, start0, dn, mLc, miS, mgName, wipeD, mYes, List.map_cons, List.map_nil, List.replicate, List.cons_append, List.nil_append, List.getElem?_cons_zero, List.getElem?_cons_succ, List.getElem?_nil, List.append_nil, gLe, gLt, Bool.not_true, Bool.not_false, Bool.false_eq_true, reduceIte, mJoined, mJs, mFmt, maStar, gJoin, mFld, moSome, mSl, gIx, z5, mCallL, miZ, gEqL, gNeL, mIsiT, moNone, gSl, miR1, gAdd, List.set_cons_zero, List.set_cons_succ, decide_true, eq_self, mMake, gRep, gInt, msFor, gAbs, mRev, gGe, gMod, gPow, gI, msPub, mLend, msParOO, msAppPop, msAppO, gDraw, msPar, msPar3, msAsg, mgTup, mgCons, mgNil, DL.gSub, mNeg, gMin, gSl, gIsN, gNotN, gTuple, msOwn, mIsiT, mDc, miEnumA]
    have len : (enumD 0 (r.map cD)).length = r.length := by rw [enumD_len, List.length_map]
    refine ⟨_, hs, by rw [len]; exact sz1000 hl, lcD_gen (g := two 1 2 [.dat d, .un, .un]) (p := hasD) (f := fstD) _ _ (fun e m => ?_) ?_⟩
    · obtain ⟨k, c, rfl⟩ := enum_mem m
      refine ⟨fun F' q => ⟨rfl, q⟩, fun F' q => ?_, fun _ F' q => q⟩
      cases c with
      | none => exact ⟨(fun v e => nomatch e), q⟩
      | some x => exact ⟨(fun v e => nomatch e), q⟩
    · rw [List.nil_append, enum_plc]
      exact f
theorem okA_cells_at (G : Glo K mg) (c : He.SaysD fa fn K) : Fn P w K mg base "cells_at" 1 2 false (gCellsA) := by
  obtain ⟨fd, F⟩ := c.defs (d := dfn ("cells_at", none) "cells_at" "cells_at" s_cells_at) (by unfold fn; simp)
  replace F : FunD K "cells_at" "cells_at" (defArgs s_cells_at) (defBody s_cells_at) (defScope s_cells_at) [] [] (He.ga K "cells_at") fd := F
  refine ⟨_, fd, ["row", "places"], ?_, G.g "cells_at" (by decide), F.kp, F.bindsN fun _ _ _ _ _ _ us hl => match us, hl with | [_, _], _ => rfl⟩
  have nd : (["row", "places", "at"] : List Str).Nodup := sc_cells_at.nd
  obtain ⟨_, h_LETTERS⟩ := G.hL
  obtain ⟨_, h_LAD⟩ := G.hA
  obtain ⟨_, h_LN⟩ := G.hN
  obtain ⟨_, h_LT⟩ := G.hT
  obtain ⟨_, h_LACK⟩ := G.hK
  apply fn_okE (k := 0) (N := ["row", "places", "at"]) F sc_cells_at rfl (by decide)
  intro c cdv A outer s H E hr
  have hu := hr.units
  have tk := takes_of (X := cxOf (L2.CX P w) P w K mg base ["row", "places", "at"] "cells_at" (defScope s_cells_at) (He.ga K "cells_at") cdv A outer s H E) rfl rfl rfl rfl
  apply Exists.intro
  apply Exists.intro
  apply And.intro
  · exact (dss_one (ds_ret (de_callTy call_tuple_of cd_tuple rfl (G.n "tuple" (by decide)) (by decide +kernel) (da_cons (de_lcF (own := [("at", 2)]) rfl nd (dic_of (di_seq (de_var 1))) (blkOk_by (show blkC ["row", "places", "at"] (defScope s_cells_at) _ _ = true from by decide +kernel)) (by decide) (fun s H C cl fp => (dg_name 2 nd rfl (by first | exact .inl rfl | exact .inr rfl))) (fun s H C cl fp => dts_nil) (fun s H C cl fp => (de_ix (de_var 0) (de_var 2) (fun _ _ => rfl)))) da_nil))))
  · intro ds F1 X1 hn h
    obtain ⟨d, r, l, rfl, hs, hl, hl2, hb, f⟩ := h
    refine ms_at (e := [.dat d, .dat (plD l), .un]) rfl ?_
    dsimp only [msRet, msRetN, msSeq, msIf, msNext, msExpr, msSet, mtAnd, mtOr, mtNot, mTru, mB, mCB, mCall, maCons, maNil, mVar, mC, mOp, mChain, mIf, mAndV, mOrV, mNotV, mLst, mTup, mMS, gI0, gLen, gEq, gNe, gEqS, gNeS, gIn, gAll, gStrip, truD, start0, dn, mLc, miS, mgName, wipeD, mYes, List.map_cons, List.map_nil, List.replicate, List.cons_append, List.nil_append, List.getElem?_cons_zero, List.getElem?_cons_succ, List.getElem?_nil, List.append_nil, gLe, gLt, Bool.not_true, Bool.not_false, Bool.false_eq_true, reduceIte, mJoined, mJs, mFmt, maStar, gJoin, mFld, moSome, mSl, gIx, z5, mCallL, miZ, gEqL, gNeL, mIsiT, moNone, gSl, miR1, gAdd, List.set_cons_zero, List.set_cons_succ, decide_true, eq_self, mMake, gRep, gInt, msFor, gAbs, mRev, gGe, gMod, gPow, gI, msPub, mLend, msParOO, msAppPop, msAppO, gDraw, msPar, msPar3, msAsg, mgTup, mgCons, mgNil, DL.gSub, mNeg, gMin, gSl, gIsN, gNotN, gTuple, msOwn, mIsiT, mDc, miEnumA, plD]
    refine ⟨_, rfl, by rw [List.length_map]; exact sz1000 hl2, lcD_map (f := fun d => match d with | .int i => cD (r[i.toNat]?).join | d => d) _ (fun x m F' q => ?_) ?_⟩
    · obtain ⟨i, mi, rfl⟩ := List.mem_map.mp m
      have at_ := at_row (hb i mi).1 (hb i mi).2 (by omega)
      cases d with
      | lst ds =>
        cases hs
        exact ⟨_, at_, q⟩
      | tup ds =>
        cases hs
        exact ⟨_, at_, q⟩
      | _ => cases hs
    · rw [List.map_map]
      unfold rowD cellsR at f
      rw [List.map_map] at f
      exact f
theorem okA_with_places (G : Glo K mg) (c : He.SaysD fa fn K) (H_places_told : Fn P w K mg base "places_told" 1 1 false gPlacesA) : Fn P w K mg base "with_places" 2 1 false (gWithA) := by
  obtain ⟨fd, F⟩ := c.defs (d := dfn ("with_places", none) "with_places" "with_places" s_with_places) (by unfold fn; simp)
  replace F : FunD K "with_places" "with_places" (defArgs s_with_places) (defBody s_with_places) (defScope s_with_places) [] [] (He.ga K "with_places") fd := F
  refine ⟨_, fd, ["rows"], ?_, G.g "with_places" (by decide), F.kp, F.bindsN fun _ _ _ _ _ _ us hl => match us, hl with | [_], _ => rfl⟩
  have nd : (["rows", "row"] : List Str).Nodup := sc_with_places.nd
  obtain ⟨_, h_LETTERS⟩ := G.hL
  obtain ⟨_, h_LAD⟩ := G.hA
  obtain ⟨_, h_LN⟩ := G.hN
  obtain ⟨_, h_LT⟩ := G.hT
  obtain ⟨_, h_LACK⟩ := G.hK
  apply fn_okE (k := 1) (N := ["rows", "row"]) F sc_with_places rfl (by decide)
  intro c cdv A outer s H E hr
  have hu := hr.units
  have tk := takes_of (X := cxOf (L2.CX P w) P w K mg base ["rows", "row"] "with_places" (defScope s_with_places) (He.ga K "with_places") cdv A outer s H E) rfl rfl rfl rfl
  apply Exists.intro
  apply Exists.intro
  apply And.intro
  · exact (dss_one (ds_ret (de_lcF (own := [("row", 1)]) rfl nd (dic_of (di_seq (de_var 0))) (blkOk_by (show blkC ["rows", "row"] (defScope s_with_places) _ _ = true from by decide +kernel)) (by decide) (fun s H C cl fp => (dg_name 1 nd rfl (by first | exact .inl rfl | exact .inr rfl))) (fun s H C cl fp => dts_nil) (fun s H C cl fp => (de_tup (da_cons (de_f H_places_told (hr.mono (by decide)) rfl DL.takes0 (da_cons (de_var 1) da_nil)) (da_cons (de_var 1) da_nil)))))))
  · intro ds F1 X1 hn h
    obtain ⟨d, r, rfl, hs, hl, f⟩ := h
    refine ms_at (e := [.dat (.lst [d]), .un]) rfl ?_
    dsimp only [msRet, msRetN, msSeq, msIf, msNext, msExpr, msSet, mtAnd, mtOr, mtNot, mTru, mB, mCB, mCall, maCons, maNil, mVar, mC, mOp, mChain, mIf, mAndV, mOrV, mNotV, mLst, mTup, mMS, gI0, gLen, gEq, gNe, gEqS, gNeS, gIn, gAll, gStrip, truD, start0, dn, mLc, miS, mgName, wipeD, mYes, List.map_cons, List.map_nil, List.replicate, List.cons_append, List.nil_append, List.getElem?_cons_zero, List.getElem?_cons_succ, List.getElem?_nil, List.append_nil, gLe, gLt, Bool.not_true, Bool.not_false, Bool.false_eq_true, reduceIte, mJoined, mJs, mFmt, maStar, gJoin, mFld, moSome, mSl, gIx, z5, mCallL, miZ, gEqL, gNeL, mIsiT, moNone, gSl, miR1, gAdd, List.set_cons_zero, List.set_cons_succ, decide_true, eq_self, mMake, gRep, gInt, msFor, gAbs, mRev, gGe, gMod, gPow, gI, msPub, mLend, msParOO, msAppPop, msAppO, gDraw, msPar, msPar3, msAsg, mgTup, mgCons, mgNil, DL.gSub, mNeg, gMin, gSl, gIsN, gNotN, gTuple, msOwn, mIsiT, mDc, miEnumA]
    refine ⟨_, rfl, (show 1 < sizeLine by decide), lcD_map (f := fun e => .tup [plD (plc r), e]) _ (fun x m F' q => ?_) f⟩
    rw [List.mem_singleton.mp m] at q ⊢
    exact ⟨rfl, d, r, rfl, hs, hl, (show 2 ≤ sizeLine from by decide), q⟩
theorem okA_unlike_places (G : Glo K mg) (c : He.SaysD fa fn K) : Fn P w K mg base "unlike_places" 1 1 false (gUnlikeA) := by
  obtain ⟨fd, F⟩ := c.defs (d := dfn ("unlike_places", none) "unlike_places" "unlike_places" s_unlike_places) (by unfold fn; simp)
  replace F : FunD K "unlike_places" "unlike_places" (defArgs s_unlike_places) (defBody s_unlike_places) (defScope s_unlike_places) [] [] (He.ga K "unlike_places") fd := F
  refine ⟨_, fd, ["marked"], ?_, G.g "unlike_places" (by decide), F.kp, F.bindsN fun _ _ _ _ _ _ us hl => match us, hl with | [_], _ => rfl⟩
  have nd : (["marked", "places", "row"] : List Str).Nodup := sc_unlike_places.nd
  obtain ⟨_, h_LETTERS⟩ := G.hL
  obtain ⟨_, h_LAD⟩ := G.hA
  obtain ⟨_, h_LN⟩ := G.hN
  obtain ⟨_, h_LT⟩ := G.hT
  obtain ⟨_, h_LACK⟩ := G.hK
  apply fn_okE (k := 0) (N := ["marked", "places", "row"]) F sc_unlike_places rfl (by decide)
  intro c cdv A outer s H E hr
  have hu := hr.units
  have tk := takes_of (X := cxOf (L2.CX P w) P w K mg base ["marked", "places", "row"] "unlike_places" (defScope s_unlike_places) (He.ga K "unlike_places") cdv A outer s H E) rfl rfl rfl rfl
  apply Exists.intro
  apply Exists.intro
  apply And.intro
  · exact (dss_one (ds_ret (de_sortSet (intD _) rfl hu rfl (G.n "sorted" (by decide)) rfl (G.n "set" (by decide)) (de_lcF (own := [("places", 1), ("row", 2)]) rfl nd (dic_of (di_seq (de_var 0))) (blkOk_by (show blkC ["marked", "places", "row"] (defScope s_unlike_places) _ _ = true from by decide +kernel)) (by decide) (fun s H C cl fp => (dg_tup rfl (dgs_cons (dg_name 1 nd rfl (by first | exact .inl rfl | exact .inr rfl)) (dgs_cons (dg_name 2 nd rfl (by first | exact .inl rfl | exact .inr rfl)) dgs_nil)))) (fun s H C cl fp => (dts_one (dt_truth (de_var 1)))) (fun s H C cl fp => (de_var 1))))))
  · intro ds F1 X1 hn h
    obtain ⟨d, l, rfl, ne, f⟩ := h
    refine ms_at (e := [.dat (.lst [.tup [plD l, d]]), .un, .un]) rfl ?_
    dsimp only [msRet, msRetN, msSeq, msIf, msNext, msExpr, msSet, mtAnd, mtOr, mtNot, mTru, mB, mCB, mCall, maCons, maNil, mVar, mC, mOp, mChain, mIf, mAndV, mOrV, mNotV, mLst, mTup, mMS, gI0, gLen, gEq, gNe, gEqS, gNeS, gIn, gAll, gStrip, truD, start0, dn, mLc, miS, mgName, wipeD, mYes, List.map_cons, List.map_nil, List.replicate, List.cons_append, List.nil_append, List.getElem?_cons_zero, List.getElem?_cons_succ, List.getElem?_nil, List.append_nil, gLe, gLt, Bool.not_true, Bool.not_false, Bool.false_eq_true, reduceIte, mJoined, mJs, mFmt, maStar, gJoin, mFld, moSome, mSl, gIx, z5, mCallL, miZ, gEqL, gNeL, mIsiT, moNone, gSl, miR1, gAdd, List.set_cons_zero, List.set_cons_succ, decide_true, eq_self, mMake, gRep, gInt, msFor, gAbs, mRev, gGe, gMod, gPow, gI, msPub, mLend, msParOO, msAppPop, msAppO, gDraw, msPar, msPar3, msAsg, mgTup, mgCons, mgNil, DL.gSub, mNeg, gMin, gSl, gIsN, gNotN, gTuple, msOwn, mIsiT, mDc, miEnumA]
    refine ⟨_, rfl, (show 1 < sizeLine by decide), lcD_gen (g := two 1 2 [.dat (.lst [.tup [plD l, d]]), .un, .un]) (p := fun _ => true) (f := fstD) _ _ (fun e m => ?_) ?_⟩
    · rw [List.mem_singleton.mp m]
      refine ⟨fun F' q => ⟨rfl, q⟩, fun F' q => ?_, fun _ F' q => q⟩
      cases l with
      | nil => exact absurd rfl ne
      | cons i l => exact q
    · refine ⟨[l], rfl, (show 1 < 64 by decide), fun x m => by rw [List.mem_singleton.mp m]; exact ne, fun out nd mem _ => ?_⟩
      have e : out = [l] := by
        cases out with
        | nil => exact absurd ((mem l).mpr (List.mem_singleton.mpr rfl)) List.not_mem_nil
        | cons a o =>
          have ea := List.mem_singleton.mp ((mem a).mp (List.mem_cons_self ..))
          subst ea
          cases o with
          | nil => rfl
          | cons b o =>
            have eb := List.mem_singleton.mp ((mem b).mp (List.mem_cons_of_mem _ (List.mem_cons_self ..)))
            subst eb
            exact absurd (List.mem_cons_self ..) (List.nodup_cons.mp nd).1
      rw [e]
      exact f
theorem sc_all_told : FnScope ["rows", "others", "marked", "places", "told", "other", "its", "row"] ["rows", "others"] (defScope s_all_told) := ⟨rfl, rfl, rfl, by decide +kernel, rfl, by decide +kernel, by decide +kernel⟩
theorem ok_all_told (G : Glo K mg) (c : He.SaysD fa fn K) (H_with_places : Fn P w K mg base "with_places" 2 1 false gWithA) (H_unlike_places : Fn P w K mg base "unlike_places" 1 1 false gUnlikeA) (H_cells_at : Fn P w K mg base "cells_at" 1 2 false gCellsA) : Fn P w K mg base "all_told" 3 2 false (gToldA) := by
  obtain ⟨fd, F⟩ := c.defs (d := dfn ("all_told", none) "all_told" "all_told" s_all_told) (by unfold fn; simp)
  replace F : FunD K "all_told" "all_told" (defArgs s_all_told) (defBody s_all_told) (defScope s_all_told) [] [] (He.ga K "all_told") fd := F
  refine ⟨_, fd, ["rows", "others"], ?_, G.g "all_told" (by decide), F.kp, F.bindsN fun _ _ _ _ _ _ us hl => match us, hl with | [_, _], _ => rfl⟩
  have nd : (["rows", "others", "marked", "places", "told", "other", "its", "row"] : List Str).Nodup := sc_all_told.nd
  obtain ⟨_, h_LETTERS⟩ := G.hL
  obtain ⟨_, h_LAD⟩ := G.hA
  obtain ⟨_, h_LN⟩ := G.hN
  obtain ⟨_, h_LT⟩ := G.hT
  obtain ⟨_, h_LACK⟩ := G.hK
  apply fn_okE (k := 2) (N := ["rows", "others", "marked", "places", "told", "other", "its", "row"]) F sc_all_told rfl (by decide)
  intro c cdv A outer s H E hr
  have hu := hr.units
  have tk := takes_of (X := cxOf (L2.CX P w) P w K mg base ["rows", "others", "marked", "places", "told", "other", "its", "row"] "all_told" (defScope s_all_told) (He.ga K "all_told") cdv A outer s H E) rfl rfl rfl rfl
  apply Exists.intro
  apply Exists.intro
  apply And.intro
  · exact (dss_cons (ds_set 2 nd rfl (by first | exact .inl rfl | exact .inr rfl) (de_f H_with_places (hr.mono (by decide)) rfl tk (da_cons (de_var 0) da_nil)))
    (dss_cons (ds_for (passes_of rfl) rfl (di_seq (de_f H_unlike_places (hr.mono (by decide)) rfl tk (da_cons (de_var 2) da_nil))) (dg_name 3 nd rfl (by first | exact .inl rfl | exact .inr rfl)) (dss_cons (ds_set 4 nd rfl (by first | exact .inl rfl | exact .inr rfl) (de_dcF (own := [("other", 5)]) rfl (u0 hu) nd (dic_of (di_seq (de_var 1))) (blkOk_by (show blkC ["rows", "others", "marked", "places", "told", "other", "its", "row"] (defScope s_all_told) _ _ = true from by decide +kernel)) (by decide) (fun s H C cl fp => (dg_name 5 nd rfl (by first | exact .inl rfl | exact .inr rfl))) (fun s H C cl fp => dts_nil) (fun s H C cl fp => (de_f H_cells_at (hr.mono (by decide)) rfl DL.takes0 (da_cons (de_var 5) (da_cons (de_var 3) da_nil)))) (fun s H C cl fp => de_bl)))
    (dss_one (ds_if (dt_not (dt_truth (de_callB (cr_all rfl) cd_all rfl (G.n "all" (by decide)) (by decide +kernel) (da_cons (de_lcF (own := [("its", 6), ("row", 7)]) rfl nd (dic_of (di_seq (de_var 2))) (blkOk_by (show blkC ["rows", "others", "marked", "places", "told", "other", "its", "row"] (defScope s_all_told) _ _ = true from by decide +kernel)) (by decide) (fun s H C cl fp => (dg_tup rfl (dgs_cons (dg_name 6 nd rfl (by first | exact .inl rfl | exact .inr rfl)) (dgs_cons (dg_name 7 nd rfl (by first | exact .inl rfl | exact .inr rfl)) dgs_nil)))) (fun s H C cl fp => (dts_one (dt_cmp (op_eqD hu) rd_eq (de_var 6) (de_var 3) (nomark _)))) (fun s H C cl fp => (de_cmp (op_inX (u1 hu)) rd_inX (de_f H_cells_at (hr.mono (by decide)) rfl DL.takes0 (da_cons (de_var 7) (da_cons (de_var 3) da_nil))) (de_var 4) (by rfl)))) da_nil)))) (dss_one (ds_ret de_bl)) dss_nil))))
    (dss_one (ds_ret de_bl))))
  · intro ds F1 X1 hn h
    obtain ⟨d, r, os, n, rfl, hs, ne, few, n6, hr, ho, f⟩ := h
    refine ms_at (e := [.dat (.lst [d]), .dat (.tup (os.map rowD)), .un, .un, .un, .un, .un, .un]) rfl ?_
    refine seq_st fun R hR => ?_
    dsimp only [msRet, msRetN, msSeq, msIf, msNext, msExpr, msSet, mtAnd, mtOr, mtNot, mTru, mB, mCB, mCall, maCons, maNil, mVar, mC, mOp, mChain, mIf, mAndV, mOrV, mNotV, mLst, mTup, mMS, gI0, gLen, gEq, gNe, gEqS, gNeS, gIn, gAll, gStrip, truD, start0, dn, mLc, miS, mgName, wipeD, mYes, lcD, List.map_cons, List.map_nil, List.replicate, List.cons_append, List.nil_append, List.getElem?_cons_zero, List.getElem?_cons_succ, List.getElem?_nil, List.append_nil, gLe, gLt, Bool.not_true, Bool.not_false, Bool.false_eq_true, reduceIte, mJoined, mJs, mFmt, maStar, gJoin, mFld, moSome, mSl, gIx, z5, mCallL, miZ, gEqL, gNeL, mIsiT, moNone, gSl, miR1, gAdd, List.set_cons_zero, List.set_cons_succ, decide_true, eq_self, mMake, gRep, gInt, msFor, gAbs, mRev, gGe, gMod, gPow, gI, msPub, mLend, msParOO, msAppPop, msAppO, gDraw, msPar, msPar3, msAsg, mgTup, mgCons, mgNil, DL.gSub, mNeg, gMin, gSl, gIsN, gNotN, gTuple, msOwn, mIsiT, mDc, miEnumA]
    refine ⟨rfl, d, r, rfl, hs, by omega, ?_⟩
    refine hR _ ?_
    clear hR
    have hb : ∀ s : Rw, s.length = n → ∀ i ∈ plc r, 0 ≤ i ∧ i < s.length := fun s e i mi => by
      have := plc_lt mi
      rw [hr, ← e] at this
      exact this
    have hl : (plc r).length ≤ 1000 := by
      have h1 := nodup_len (plc r) ((List.range n).map fun (i : Nat) => (i : Int)) (plc_nodup r) fun i mi => by
        obtain ⟨h1, h2⟩ := hb r hr i mi
        exact List.mem_map.mpr ⟨i.toNat, List.mem_range.mpr (by omega), by omega⟩
      rw [List.length_map, List.length_range] at h1
      omega
    refine seq_st fun R hR => ?_
    dsimp only [msRet, msRetN, msSeq, msIf, msNext, msExpr, msSet, mtAnd, mtOr, mtNot, mTru, mB, mCB, mCall, maCons, maNil, mVar, mC, mOp, mChain, mIf, mAndV, mOrV, mNotV, mLst, mTup, mMS, gI0, gLen, gEq, gNe, gEqS, gNeS, gIn, gAll, gStrip, truD, start0, dn, mLc, miS, mgName, wipeD, mYes, lcD, List.map_cons, List.map_nil, List.replicate, List.cons_append, List.nil_append, List.getElem?_cons_zero, List.getElem?_cons_succ, List.getElem?_nil, List.append_nil, gLe, gLt, Bool.not_true, Bool.not_false, Bool.false_eq_true, reduceIte, mJoined, mJs, mFmt, maStar, gJoin, mFld, moSome, mSl, gIx, z5, mCallL, miZ, gEqL, gNeL, mIsiT, moNone, gSl, miR1, gAdd, List.set_cons_zero, List.set_cons_succ, decide_true, eq_self, mMake, gRep, gInt, msFor, gAbs, mRev, gGe, gMod, gPow, gI, msPub, mLend, msParOO, msAppPop, msAppO, gDraw, msPar, msPar3, msAsg, mgTup, mgCons, mgNil, DL.gSub, mNeg, gMin, gSl, gIsN, gNotN, gTuple, msOwn, mIsiT, mDc, miEnumA, msFor]
    refine ⟨rfl, d, plc r, rfl, ne, _, rfl, ?_⟩
    refine forD_map plD (fun done δ => (done ≠ [] → ∃ s ∈ os, partR r s) ∧ ∃ x3 x4 x5 x6 x7, δ = [.dat (.lst [d]), .dat (.tup (os.map rowD)), .dat (.lst [.tup [plD (plc r), d]]), x3, x4, x5, x6, x7]) [plc r] [plc r] [] _ rfl (fun l pre rest δ eo i k' nx hrt _ => ?_) ⟨fun z => absurd rfl z, _, _, _, _, _, rfl⟩ (fun δ i => ?_)
    · obtain ⟨hi, x3, x4, x5, x6, x7, rfl⟩ := i
      have e0 : l = plc r := by
        have : l ∈ [plc r] := by rw [← eo]; simp
        exact List.mem_singleton.mp this
      subst e0
      refine ms_at (ms := fun δ k => msSeq _ _ δ k) (e := [.dat (.lst [d]), .dat (.tup (os.map rowD)), .dat (.lst [.tup [plD (plc r), d]]), .dat (plD (plc r)), x4, x5, x6, x7]) rfl ?_
      refine seq_st fun R2 hR2 => ?_
      dsimp only [msRet, msRetN, msSeq, msIf, msNext, msExpr, msSet, mtAnd, mtOr, mtNot, mTru, mB, mCB, mCall, maCons, maNil, mVar, mC, mOp, mChain, mIf, mAndV, mOrV, mNotV, mLst, mTup, mMS, gI0, gLen, gEq, gNe, gEqS, gNeS, gIn, gAll, gStrip, truD, start0, dn, mLc, miS, mgName, wipeD, mYes, List.map_cons, List.map_nil, List.replicate, List.cons_append, List.nil_append, List.getElem?_cons_zero, List.getElem?_cons_succ, List.getElem?_nil, List.append_nil, gLe, gLt, Bool.not_true, Bool.not_false, Bool.false_eq_true, reduceIte, mJoined, mJs, mFmt, maStar, gJoin, mFld, moSome, mSl, gIx, z5, mCallL, miZ, gEqL, gNeL, mIsiT, moNone, gSl, miR1, gAdd, List.set_cons_zero, List.set_cons_succ, decide_true, eq_self, mMake, gRep, gInt, msFor, gAbs, mRev, gGe, gMod, gPow, gI, msPub, mLend, msParOO, msAppPop, msAppO, gDraw, msPar, msPar3, msAsg, mgTup, mgCons, mgNil, DL.gSub, mNeg, gMin, gSl, gIsN, gNotN, gTuple, msOwn, mIsiT, mDc, miEnumA]
      refine ⟨_, rfl, by rw [List.length_map]; exact Nat.lt_of_le_of_lt few (by decide), dcD_gen (g := fun e => [.dat (.lst [d]), .dat (.tup (os.map rowD)), .dat (.lst [.tup [plD (plc r), d]]), .dat (plD (plc r)), x4, .dat e, x6, x7]) (p := fun _ => true) (kf := keyRow (plc r)) _ _ (fun e m => ?_) ?_⟩
      · obtain ⟨s, ms, rfl⟩ := List.mem_map.mp m
        refine ⟨fun F' q => q, fun F' q => q, fun F' q => ?_, fun F' q => q _⟩
        unfold keyRow at q
        rw [row_of (d := rowD s) rfl, keyD_row] at q
        exact ⟨rfl, rowD s, s, plc r, rfl, rfl, by rw [ho s ms]; omega, hl, hb s (ho s ms), q⟩
      · rw [List.nil_append, List.filter_eq_self.mpr (fun _ _ => rfl)]
        have ek : (os.map rowD).map (keyRow (plc r)) = os.map fun s => toK (cellsR s (plc r)) := by
          rw [List.map_map]
          refine List.map_congr_left fun s _ => ?_
          show toK (cellsR (rwOf (rowD s)) (plc r)) = _
          rw [row_of (d := rowD s) rfl]
        rw [ek]
        intro dd hdd
        refine hR2 _ ?_
        clear hR2
        have iff : toK (cellsR r (plc r)) ∈ (os.map fun s => toK (cellsR s (plc r))) ↔ ∃ s ∈ os, partR r s := by
          rw [List.mem_map]
          exact ⟨fun z => z.elim fun s q => ⟨s, q.1, cells_part.mp (toK_inj q.2)⟩, fun z => z.elim fun s q => ⟨s, q.1, by rw [cells_part.mpr q.2]⟩⟩
        refine ms_at (ms := fun δ k => msIf _ _ _ δ k) (e := [.dat (.lst [d]), .dat (.tup (os.map rowD)), .dat (.lst [.tup [plD (plc r), d]]), .dat (plD (plc r)), .dat dd, x5, x6, x7]) rfl ?_
        dsimp only [msRet, msRetN, msSeq, msIf, msNext, msExpr, msSet, mtAnd, mtOr, mtNot, mTru, mB, mCB, mCall, maCons, maNil, mVar, mC, mOp, mChain, mIf, mAndV, mOrV, mNotV, mLst, mTup, mMS, gI0, gLen, gEq, gNe, gEqS, gNeS, gIn, gAll, gStrip, truD, start0, dn, mLc, miS, mgName, wipeD, mYes, List.map_cons, List.map_nil, List.replicate, List.cons_append, List.nil_append, List.getElem?_cons_zero, List.getElem?_cons_succ, List.getElem?_nil, List.append_nil, gLe, gLt, Bool.not_true, Bool.not_false, Bool.false_eq_true, reduceIte, mJoined, mJs, mFmt, maStar, gJoin, mFld, moSome, mSl, gIx, z5, mCallL, miZ, gEqL, gNeL, mIsiT, moNone, gSl, miR1, gAdd, List.set_cons_zero, List.set_cons_succ, decide_true, eq_self, mMake, gRep, gInt, msFor, gAbs, mRev, gGe, gMod, gPow, gI, msPub, mLend, msParOO, msAppPop, msAppO, gDraw, msPar, msPar3, msAsg, mgTup, mgCons, mgNil, DL.gSub, mNeg, gMin, gSl, gIsN, gNotN, gTuple, msOwn, mIsiT, mDc, miEnumA]
        refine ⟨_, rfl, (show 1 < sizeLine by decide), lcD_gen (g := two 6 7 [.dat (.lst [d]), .dat (.tup (os.map rowD)), .dat (.lst [.tup [plD (plc r), d]]), .dat (plD (plc r)), .dat dd, x5, .un, .un]) (p := fun _ => true) (f := fun _ => .bl (decide (toK (cellsR r (plc r)) ∈ os.map fun s => toK (cellsR s (plc r))))) _ _ (fun e m => ?_) ?_⟩
        · rw [List.mem_singleton.mp m]
          refine ⟨fun F' q => ⟨rfl, q⟩, fun F' q => ⟨plain_pl _, plain_pl _, ?_⟩, fun _ F' q => ?_⟩
          · rw [show eqD (plD (plc r)) (plD (plc r)) = true from (eq_pl _ _).trans (decide_eq_true rfl)]
            exact q
          · refine ⟨rfl, d, r, plc r, rfl, hs, by omega, hl, hb r hr, toK (cellsR r (plc r)), _, (keyD_row _).symm, hdd, ?_⟩
            rw [Bool.false_xor]
            exact q
        · rw [List.nil_append]
          refine ⟨[decide (toK (cellsR r (plc r)) ∈ os.map fun s => toK (cellsR s (plc r)))], rfl, ?_⟩
          by_cases q : toK (cellsR r (plc r)) ∈ os.map fun s => toK (cellsR s (plc r))
          · rw [decide_eq_true q]
            exact iteF (nx _ ⟨fun _ => iff.mp q, _, _, _, _, _, rfl⟩)
          · rw [decide_eq_false q]
            refine iteT ?_
            show k'.rt _
            rw [hrt]
            exact f false ⟨(fun z => nomatch z), fun z => absurd (iff.mpr z) q⟩
    · obtain ⟨hi, x3, x4, x5, x6, x7, rfl⟩ := i
      refine hR _ ?_
      clear hR
      dsimp only [msRet, msRetN, msSeq, msIf, msNext, msExpr, msSet, mtAnd, mtOr, mtNot, mTru, mB, mCB, mCall, maCons, maNil, mVar, mC, mOp, mChain, mIf, mAndV, mOrV, mNotV, mLst, mTup, mMS, gI0, gLen, gEq, gNe, gEqS, gNeS, gIn, gAll, gStrip, truD, start0, dn, mLc, miS, mgName, wipeD, mYes, lcD, List.map_cons, List.map_nil, List.replicate, List.cons_append, List.nil_append, List.getElem?_cons_zero, List.getElem?_cons_succ, List.getElem?_nil, List.append_nil, gLe, gLt, Bool.not_true, Bool.not_false, Bool.false_eq_true, reduceIte, mJoined, mJs, mFmt, maStar, gJoin, mFld, moSome, mSl, gIx, z5, mCallL, miZ, gEqL, gNeL, mIsiT, moNone, gSl, miR1, gAdd, List.set_cons_zero, List.set_cons_succ, decide_true, eq_self, mMake, gRep, gInt, msFor, gAbs, mRev, gGe, gMod, gPow, gI, msPub, mLend, msParOO, msAppPop, msAppO, gDraw, msPar, msPar3, msAsg, mgTup, mgCons, mgNil, DL.gSub, mNeg, gMin, gSl, gIsN, gNotN, gTuple, msOwn, mIsiT, mDc, miEnumA]
      exact f true ⟨fun _ => hi (fun z => nomatch z), fun _ => rfl⟩
end
end K04

set_option Elab.async false
set_option linter.all false
set_option maxRecDepth 100000
set_option maxHeartbeats 4000000
namespace K04
open PySem PySem.Spec PyProof.Rows L2 DL XS
/-- the exception of columns: its class, its __init__ -/
def ExN (P : Program) (w : World) (K : Fg) (mg : Str → Option Value) (base : Heap) : Prop := ∃ (fI : Addr) (fd : FuncData) (ps : List Str), OexB K (nC K) ∧ PySem.W.findIn K (.ref (nC K)) "__init__" = some (some (.ref fI)) ∧ PySem.W.typeIn K (.ref fI) = some (.type "function") ∧
  FnOk P w K mg base (L2.CX P w) 1 fI fd ps (spX1 (nC K) "name") ∧ Binds K fd ps []
theorem ok_exn {P : Program} {w : World} {K : Fg} {mg : Str → Option Value} {base : Heap} (c : He.SaysD fa fn K) (x : Exf K) : ExN P w K mg base := by
  obtain ⟨fd, F⟩ := c.defs (d := dfn ("NoColumn", some "__init__") "__init__" "NoColumn.__init__" s_NoColumn_init) (by unfold fn; simp)
  replace F : FunD K "__init__" "NoColumn.__init__" (defArgs s_NoColumn_init) (defBody s_NoColumn_init) (defScope s_NoColumn_init) [] [] (He.ma K (nC K) "__init__") fd := F
  have sc : FnScope ["self", "name"] ["self", "name"] (defScope s_NoColumn_init) := ⟨rfl, rfl, rfl, by decide +kernel, rfl, by decide +kernel, by decide +kernel⟩
  refine ⟨_, fd, ["self", "name"], x.xo, x.xi, x.xt, fn_x1B F sc rfl rfl x.xo x.xn fun cdv A outer s H E => pss_one (ps_fldB (pv 0) (pv 1)), F.bindsN fun _ _ _ _ _ _ us hl => match us, hl with | [_, _], _ => rfl⟩
def textsL (cells : List (Option Str)) : List Str := cells.filterMap id
theorem mem_texts {cells : List (Option Str)} {x : Str} : x ∈ textsL cells ↔ some x ∈ cells := by
  unfold textsL
  rw [List.mem_filterMap]
  constructor
  · rintro ⟨c, m, e⟩
    have e : c = some x := e
    rw [← e]
    exact m
  · exact fun m => ⟨_, m, rfl⟩
theorem texts_len (cells : List (Option Str)) : (textsL cells).length ≤ cells.length := List.length_filterMap_le ..
theorem texts_cells : ∀ cells : List (Option Str), (cells.map cD).filter (fun d => !DL.isNon d) = (textsL cells).map D.str
  | [] => rfl
  | none :: l => texts_cells l
  | some x :: l => congrArg (D.str x :: ·) (texts_cells l)
/-- the texts of cells, ascending -/
def UpT (cells : List (Option Str)) (ys : List Str) : Prop := ys.Nodup ∧ (∀ x, x ∈ ys ↔ some x ∈ cells) ∧ upL (ys.map fun x => x.cps.toList)
theorem UpT.same {c1 c2 : List (Option Str)} {ys zs : List Str} (h : UpT c1 ys) (g : UpT c2 zs) (e : ∀ x, some x ∈ c1 ↔ some x ∈ c2) : ys = zs := by
  have p : ys.Perm zs := (List.perm_ext_iff_of_nodup h.1 g.1).mpr fun x => by rw [h.2.1, g.2.1, e]
  have q := up_same h.2.2 g.2.2 (p.map _)
  have inj : ∀ {a b : List Str}, a.map (fun x : Str => x.cps.toList) = b.map (fun x : Str => x.cps.toList) → a = b := by
    intro a
    induction a with
    | nil => intro b e; cases b with
      | nil => rfl
      | cons _ _ => cases e
    | cons x a ih =>
      intro b e
      cases b with
      | nil => cases e
      | cons y b =>
        rw [List.map_cons, List.map_cons] at e
        obtain ⟨e1, e2⟩ := List.cons.inj e
        rw [ih e2, str_cps e1]
  exact inj q
def gDiffer : FF := fun ds F _ => ∃ cells : List (Option Str), ds = [.lst (cells.map cD)] ∧ cells.length ≤ 100 ∧ ∀ ys, UpT cells ys → F (.tup (ys.map D.str))
def gTTexts (K : Fg) : FF := fun ds F _ => ∃ (f0 : Addr → HO) (cs : List Str) (out : List Rw), ds = [tabE K f0 out] ∧ TbN f0 cs out ∧ ∀ ys, UpT out.flatten ys → F (.tup (ys.map D.str))
def colL (j : Nat) (out : List Rw) : List (Option Str) := out.map fun r => (r[j]?).join
def gUnder (K : Fg) : FF := fun ds F Y => ∃ (f0 : Addr → HO) (cs : List Str) (out : List Rw) (z : Str), ds = [tabE K f0 out, .str z] ∧ TbN f0 cs out ∧ (∀ j, cs[j]? = some z → ∀ ys, UpT (colL j out) ys → F (.tup (ys.map D.str))) ∧ (z ∉ cs → Y (nC K, [("name", .str z)]))
/-- whether a value is a row with a text that is part of one of the rows -/
def inP (n : Nat) (out : List Rw) (d : D) : Prop := rowB d n = true ∧ ∃ r, seqD d = some (r.map cD) ∧ plc r ≠ [] ∧ ∃ s ∈ out, partR r s
def gTIn (K : Fg) : FF := fun ds F _ => ∃ (f0 : Addr → HO) (cs : List Str) (out : List Rw) (d : D), ds = [tabE K f0 out, d] ∧ TbN f0 cs out ∧ V2 K d ∧ ∀ b : Bool, (b = true ↔ inP cs.length out d) → F (.bl b)
theorem flats (l : List Str) : (l.map D.str).all flatD = true := by
  rw [List.all_map, List.all_eq_true]
  exact fun _ _ => rfl
theorem in_strs (z : Str) (xs : List Str) : inD (.str z) (xs.map D.str) = decide (z ∈ xs) := by
  unfold inD
  rw [List.any_map]
  induction xs with
  | nil => rfl
  | cons x xs ih =>
    rw [List.any_cons, ih]
    show ((x == z) || decide (z ∈ xs)) = decide (z ∈ x :: xs)
    by_cases h : x = z
    · subst h
      simp
    · have h' : ¬ z = x := fun e => h e.symm
      simp [h, h']
theorem first_at : ∀ {cs : List Str} {z : Str}, z ∈ cs → ∃ j : Nat, cs[j]? = some z ∧ ∀ m : Nat, m < j → cs[m]? ≠ some z
  | c :: cs, z, h => by
    by_cases e : c = z
    · exact ⟨0, by rw [e]; rfl, fun m hm => absurd hm (Nat.not_lt_zero m)⟩
    · have h2 : z ∈ cs := by
        rcases List.mem_cons.mp h with q | q
        · exact absurd q.symm e
        · exact q
      obtain ⟨j, h3, h4⟩ := first_at h2
      refine ⟨j + 1, h3, fun m hm => ?_⟩
      cases m with
      | zero => exact fun q => e (Option.some.inj q)
      | succ m => exact h4 m (by omega)
theorem cells_row : ∀ es : List D, es.all cellB = true → ∃ r : Rw, es = r.map cD
  | [], _ => ⟨[], rfl⟩
  | e :: es, h => by
    rw [List.all_cons, Bool.and_eq_true] at h
    obtain ⟨r, rfl⟩ := cells_row es h.2
    have h1 := h.1
    cases e with
    | non => exact ⟨none :: r, rfl⟩
    | str x => exact ⟨some x :: r, rfl⟩
    | _ => cases h1
theorem row_cells_inj {r s : Rw} (h : r.map cD = s.map cD) : r = s := by
  have := congrArg (List.map celOf) h
  rw [List.map_map, List.map_map] at this
  have e : ∀ r : Rw, r.map (celOf ∘ cD) = r := fun r => by
    conv => rhs; rw [← List.map_id r]
    exact List.map_congr_left fun c _ => cell_of c
  rw [e, e] at this
  exact this
section
variable {P : Program} {w : World} {K : Fg} {mg : Str → Option Value} {base : Heap}
theorem sc_different_texts : FnScope ["cells", "cell"] ["cells"] (defScope s_different_texts) := ⟨rfl, rfl, rfl, by decide +kernel, rfl, by decide +kernel, by decide +kernel⟩
theorem ok_different_texts (G : Glo K mg) (c : He.SaysD fa fn K) : Fn P w K mg base "different_texts" 1 1 false (gDiffer) := by
  obtain ⟨fd, F⟩ := c.defs (d := dfn ("different_texts", none) "different_texts" "different_texts" s_different_texts) (by unfold fn; simp)
  replace F : FunD K "different_texts" "different_texts" (defArgs s_different_texts) (defBody s_different_texts) (defScope s_different_texts) [] [] (He.ga K "different_texts") fd := F
  refine ⟨_, fd, ["cells"], ?_, G.g "different_texts" (by decide), F.kp, F.bindsN fun _ _ _ _ _ _ us hl => match us, hl with | [_], _ => rfl⟩
  have nd : (["cells", "cell"] : List Str).Nodup := sc_different_texts.nd
  obtain ⟨_, h_LETTERS⟩ := G.hL
  obtain ⟨_, h_LAD⟩ := G.hA
  obtain ⟨_, h_LN⟩ := G.hN
  obtain ⟨_, h_LT⟩ := G.hT
  obtain ⟨_, h_LACK⟩ := G.hK
  apply fn_okE (k := 0) (N := ["cells", "cell"]) F sc_different_texts rfl (by decide)
  intro c cdv A outer s H E hr
  have hu := hr.units
  have tk := takes_of (X := cxOf (L2.CX P w) P w K mg base ["cells", "cell"] "different_texts" (defScope s_different_texts) (He.ga K "different_texts") cdv A outer s H E) rfl rfl rfl rfl
  apply Exists.intro
  apply Exists.intro
  apply And.intro
  · exact (dss_one (ds_ret (de_callTy call_tuple_of cd_tuple rfl (G.n "tuple" (by decide)) (by decide +kernel) (da_cons (de_sortT rfl hu rfl (G.n "sorted" (by decide)) rfl (G.n "set" (by decide)) (de_lcF (own := [("cell", 1)]) rfl nd (dic_of (di_seq (de_var 0))) (blkOk_by (show blkC ["cells", "cell"] (defScope s_different_texts) _ _ = true from by decide +kernel)) (by decide) (fun s H C cl fp => (dg_name 1 nd rfl (by first | exact .inl rfl | exact .inr rfl))) (fun s H C cl fp => (dts_one (dt_cmp op_notN rd_notN (de_var 1) de_non (nomark _)))) (fun s H C cl fp => (de_var 1)))) da_nil))))
  · intro ds F1 X1 hn h
    obtain ⟨cells, rfl, hl, f⟩ := h
    refine ms_at (e := [.dat (.lst (cells.map cD)), .un]) rfl ?_
    dsimp only [msRet, msRetN, msSeq, msIf, msNext, msExpr, msSet, mtAnd, mtOr, mtNot, mTru, mB, mCB, mCall, maCons, maNil, mVar, mC, mOp, mChain, mIf, mAndV, mOrV, mNotV, mLst, mTup, mMS, gI0, gLen, gEq, gNe, gEqS, gNeS, gIn, gAll, gStrip, truD, start0, dn, mLc, miS, mgName, wipeD, mYes, List.map_cons, List.map_nil, List.replicate, List.cons_append, List.nil_append, List.getElem?_cons_zero, List.getElem?_cons_succ, List.getElem?_nil, List.append_nil, gLe, gLt, Bool.not_true, Bool.not_false, Bool.false_eq_true, reduceIte, mJoined, mJs, mFmt, maStar, gJoin, mFld, moSome, mSl, gIx, z5, mCallL, miZ, gEqL, gNeL, mIsiT, moNone, gSl, miR1, gAdd, List.set_cons_zero, List.set_cons_succ, decide_true, eq_self, mMake, gRep, gInt, msFor, gAbs, mRev, gGe, gMod, gPow, gI, msPub, mLend, msParOO, msAppPop, msAppO, gDraw, msPar, msPar3, msAsg, mgTup, mgCons, mgNil, DL.gSub, mNeg, gMin, gSl, gIsN, gNotN, gTuple, msOwn, mIsiT, mDc, miEnumA, mSortT]
    refine ⟨_, rfl, by rw [List.length_map]; exact sz1000 (by omega), lcD_if (p := fun d => !DL.isNon d) (f := fun d => d) _ (fun d m F' q => ?_) (fun d m _ F' q => q) ?_⟩
    · obtain ⟨c, mc, rfl⟩ := List.mem_map.mp m
      cases c with
      | none => exact ⟨(fun v e => nomatch e), q⟩
      | some x => exact ⟨(fun v e => nomatch e), q⟩
    · rw [List.map_id', texts_cells]
      have := texts_len cells
      exact ⟨_, textsL cells, rfl, rfl, Nat.lt_of_le_of_lt (show _ ≤ 101 by omega) (by decide), fun ys nd mem up => f ys ⟨nd, fun x => (mem x).trans mem_texts, up⟩⟩
theorem sc_Table_texts : FnScope ["self", "row", "cell"] ["self"] (defScope s_Table_texts) := ⟨rfl, rfl, rfl, by decide +kernel, rfl, by decide +kernel, by decide +kernel⟩
theorem ok_Table_texts (G : Glo K mg) (c : He.SaysD fa fn K) (x : Exf K) (H_different_texts : Fn P w K mg base "different_texts" 1 1 false gDiffer) (sy : SaysC fc K) : Prp1 P w K mg base (cTable K) "texts" 2 (gTTexts K) := by
  obtain ⟨fd, F⟩ : ∃ fd, FunD K "texts" "Table.texts" (defArgs s_Table_texts) (defBody s_Table_texts) (defScope s_Table_texts) [] [] (txA K) fd := fun_ofA sy.one x.rok
  have kC := He.cls_ok (c.facts (f := .cls "Table") (List.mem_append_right _ (List.mem_append_right _ (by simp))))
  have n_columns := He.noat_ok (c.facts (f := .noat "Table" "columns") (List.mem_append_right _ (List.mem_append_right _ (by simp))))
  have n_rows := He.noat_ok (c.facts (f := .noat "Table" "rows") (List.mem_append_right _ (List.mem_append_right _ (by simp))))
  refine ⟨kC, He.ma K (cTable K) "texts", txA K, fd, ["self"], x.prp, F.bindsN fun _ _ _ _ _ _ us hl => match us, hl with | [_], _ => rfl, ?_⟩
  have nd : (["self", "row", "cell"] : List Str).Nodup := sc_Table_texts.nd
  apply fn_okE (k := 1) (N := ["self", "row", "cell"]) F sc_Table_texts rfl (by decide)
  intro c cdv A outer s H E hr
  have hu := hr.units
  have tk := takes_of (X := cxOf (L2.CX P w) P w K mg base ["self", "row", "cell"] "Table.texts" (defScope s_Table_texts) (txA K) cdv A outer s H E) rfl rfl rfl rfl
  apply Exists.intro
  apply Exists.intro
  apply And.intro
  · exact (dss_one (ds_ret (de_f H_different_texts (hr.mono (by decide)) rfl tk (da_cons (de_lc2F (own := [("row", 1), ("cell", 2)]) 1 2 rfl nd (dic_of (di_seq (de_fld (de_var 0)))) (blkOk_by (show blkC ["self", "row", "cell"] (defScope s_Table_texts) _ _ = true from by decide +kernel)) (by decide) (by decide) (fun s H C cl fp => (dg_name 1 nd rfl (by first | exact .inl rfl | exact .inr rfl))) (fun s H C cl fp => (dg_name 2 nd rfl (by first | exact .inl rfl | exact .inr rfl))) (fun s H C cl fp => (di_seq (de_var 1))) (fun s H C cl fp => (de_var 2))) da_nil))))
  · intro ds F1 X1 hn h
    obtain ⟨f0, cs, out, rfl, tb, f⟩ := h
    refine ms_at (e := [.dat (tabE K f0 out), .un, .un]) rfl ?_
    dsimp only [msRet, msRetN, msSeq, msIf, msNext, msExpr, msSet, mtAnd, mtOr, mtNot, mTru, mB, mCB, mCall, maCons, maNil, mVar, mC, mOp, mChain, mIf, mAndV, mOrV, mNotV, mLst, mTup, mMS, gI0, gLen, gEq, gNe, gEqS, gNeS, gIn, gAll, gStrip, truD, start0, dn, mLc, miS, mgName, wipeD, mYes, List.map_cons, List.map_nil, List.replicate, List.cons_append, List.nil_append, List.getElem?_cons_zero, List.getElem?_cons_succ, List.getElem?_nil, List.append_nil, gLe, gLt, Bool.not_true, Bool.not_false, Bool.false_eq_true, reduceIte, mJoined, mJs, mFmt, maStar, gJoin, mFld, moSome, mSl, gIx, z5, mCallL, miZ, gEqL, gNeL, mIsiT, moNone, gSl, miR1, gAdd, List.set_cons_zero, List.set_cons_succ, decide_true, eq_self, mMake, gRep, gInt, msFor, gAbs, mRev, gGe, gMod, gPow, gI, msPub, mLend, msParOO, msAppPop, msAppO, gDraw, msPar, msPar3, msAsg, mgTup, mgCons, mgNil, DL.gSub, mNeg, gMin, gSl, gIsN, gNotN, gTuple, msOwn, mIsiT, mDc, miEnumA, tabE]
    refine ⟨kC, n_rows, _, rfl, _, rfl, lc2_map (el := elD) (f := fun e => e) (N := 6) _ [] ?_ (fun e m => ⟨?_, fun F' q => ?_, fun x mx F' q => q⟩) ?_⟩
    · show 0 + (out.map rowD).length * 6 ≤ sizeLine
      rw [List.length_map, Nat.zero_add]
      exact Nat.le_trans (Nat.mul_le_mul_right 6 tb.few) (by decide)
    · obtain ⟨r, mr, rfl⟩ := List.mem_map.mp m
      show (r.map cD).length ≤ 6
      rw [List.length_map, (tb.rw_ r mr).1]
      exact tb.six
    · obtain ⟨r, mr, rfl⟩ := List.mem_map.mp m
      exact ⟨_, rfl, q⟩
    · rw [List.nil_append, List.map_id']
      have ef : (out.map rowD).flatMap elD = out.flatten.map cD := by
        rw [List.flatMap_map, List.map_flatten]
        rfl
      rw [ef]
      refine ⟨rfl, out.flatten, rfl, ?_, f⟩
      rw [List.length_flatten]
      have h1 : ∀ {l : List Rw} {k : Nat}, (∀ r ∈ l, r.length ≤ k) → (l.map List.length).sum ≤ l.length * k := by
        intro l
        induction l with
        | nil => intro k _; exact Nat.zero_le _
        | cons r l ih =>
          intro k h
          rw [List.map_cons, List.sum_cons, List.length_cons, Nat.add_mul, Nat.one_mul]
          have := h r (List.mem_cons_self ..)
          have := ih fun s m => h s (List.mem_cons_of_mem _ m)
          omega
      have h2 := h1 (l := out) (k := 6) fun r mr => by rw [(tb.rw_ r mr).1]; exact tb.six
      have h3 := Nat.mul_le_mul_right 6 tb.few
      omega
theorem sc_Table_under : FnScope ["self", "name", "at", "row"] ["self", "name"] (defScope s_Table_under) := ⟨rfl, rfl, rfl, by decide +kernel, rfl, by decide +kernel, by decide +kernel⟩
theorem ok_Table_under (G : Glo K mg) (c : He.SaysD fa fn K) (x : Exf K) (H_different_texts : Fn P w K mg base "different_texts" 1 1 false gDiffer) (exn : ExN P w K mg base) : Met1 P w K mg base (cTable K) "under" 3 1 (gUnder K) := by
  obtain ⟨fd, F⟩ := c.defs (d := dfn ("Table", some "under") "under" "Table.under" s_Table_under) (by unfold fn; simp)
  replace F : FunD K "under" "Table.under" (defArgs s_Table_under) (defBody s_Table_under) (defScope s_Table_under) [] [] (He.ma K (He.ga K "Table") "under") fd := F
  have kC := He.cls_ok (c.facts (f := .cls "Table") (List.mem_append_right _ (List.mem_append_right _ (by simp))))
  have n_columns := He.noat_ok (c.facts (f := .noat "Table" "columns") (List.mem_append_right _ (List.mem_append_right _ (by simp))))
  have n_rows := He.noat_ok (c.facts (f := .noat "Table" "rows") (List.mem_append_right _ (List.mem_append_right _ (by simp))))
  obtain ⟨fN, fdN, psN, oexN, iN, tN, FN, bN⟩ := exn
  refine ⟨kC, _, fd, ["self", "name"], ⟨x.und.1, typeIn_isFn x.und.2, x.undK⟩, F.bindsN fun _ _ _ _ _ _ us hl => match us, hl with | [_, _], _ => rfl, ?_⟩
  have nd : (["self", "name", "at", "row"] : List Str).Nodup := sc_Table_under.nd
  apply fn_okE (k := 2) (N := ["self", "name", "at", "row"]) F sc_Table_under rfl (by decide)
  intro c cdv A outer s H E hr
  have hu := hr.units
  have tk := takes_of (X := cxOf (L2.CX P w) P w K mg base ["self", "name", "at", "row"] "Table.under" (defScope s_Table_under) (He.ma K (He.ga K "Table") "under") cdv A outer s H E) rfl rfl rfl rfl
  apply Exists.intro
  apply Exists.intro
  apply And.intro
  · exact (dss_cons (ds_if (dt_cmp op_notInA rd_in (de_var 1) (de_asT (de_fld (de_var 0))) (by rfl)) (dss_one (ds_raise1B rfl tk oexN iN tN FN (hr.mono (by decide)) bN rfl (G.g "NoColumn" (by decide)) (da_cons (de_var 1) da_nil))) dss_nil)
    (dss_cons (ds_set 2 nd rfl (by first | exact .inl rfl | exact .inr rfl) (de_ixN (de_fld (de_var 0)) (de_var 1)))
    (dss_one (ds_ret (de_f H_different_texts (hr.mono (by decide)) rfl tk (da_cons (de_lcF (own := [("row", 3)]) rfl nd (dic_of (di_seq (de_fld (de_var 0)))) (blkOk_by (show blkC ["self", "name", "at", "row"] (defScope s_Table_under) _ _ = true from by decide +kernel)) (by decide) (fun s H C cl fp => (dg_name 3 nd rfl (by first | exact .inl rfl | exact .inr rfl))) (fun s H C cl fp => dts_nil) (fun s H C cl fp => (de_ix (de_var 3) (de_var 2) (fun _ _ => rfl)))) da_nil))))))
  · intro ds F1 X1 hn h
    obtain ⟨f0, cs, out, z, rfl, tb, f1, f2⟩ := h
    refine ms_at (e := [.dat (tabE K f0 out), .dat (.str z), .un, .un]) rfl ?_
    refine seq_st fun R hR => ?_
    dsimp only [msRet, msRetN, msSeq, msIf, msNext, msExpr, msSet, mtAnd, mtOr, mtNot, mTru, mB, mCB, mCall, maCons, maNil, mVar, mC, mOp, mChain, mIf, mAndV, mOrV, mNotV, mLst, mTup, mMS, gI0, gLen, gEq, gNe, gEqS, gNeS, gIn, gAll, gStrip, truD, start0, dn, mLc, miS, mgName, wipeD, mYes, lcD, List.map_cons, List.map_nil, List.replicate, List.cons_append, List.nil_append, List.getElem?_cons_zero, List.getElem?_cons_succ, List.getElem?_nil, List.append_nil, gLe, gLt, Bool.not_true, Bool.not_false, Bool.false_eq_true, reduceIte, mJoined, mJs, mFmt, maStar, gJoin, mFld, moSome, mSl, gIx, z5, mCallL, miZ, gEqL, gNeL, mIsiT, moNone, gSl, miR1, gAdd, List.set_cons_zero, List.set_cons_succ, decide_true, eq_self, mMake, gRep, gInt, msFor, gAbs, mRev, gGe, gMod, gPow, gI, msPub, mLend, msParOO, msAppPop, msAppO, gDraw, msPar, msPar3, msAsg, mgTup, mgCons, mgNil, DL.gSub, mNeg, gMin, gSl, gIsN, gNotN, gTuple, msOwn, mIsiT, mDc, miEnumA, tabE, mAsT]
    refine ⟨kC, n_columns, _, rfl, f0, cs, rfl, tb.nf, rfl, flats _, ?_⟩
    rw [in_strs]
    by_cases hz : z ∈ cs
    · rw [decide_eq_true hz]
      refine iteF (hR _ ?_)
      clear hR
      refine seq_st fun R hR => ?_
      dsimp only [msRet, msRetN, msSeq, msIf, msNext, msExpr, msSet, mtAnd, mtOr, mtNot, mTru, mB, mCB, mCall, maCons, maNil, mVar, mC, mOp, mChain, mIf, mAndV, mOrV, mNotV, mLst, mTup, mMS, gI0, gLen, gEq, gNe, gEqS, gNeS, gIn, gAll, gStrip, truD, start0, dn, mLc, miS, mgName, wipeD, mYes, lcD, List.map_cons, List.map_nil, List.replicate, List.cons_append, List.nil_append, List.getElem?_cons_zero, List.getElem?_cons_succ, List.getElem?_nil, List.append_nil, gLe, gLt, Bool.not_true, Bool.not_false, Bool.false_eq_true, reduceIte, mJoined, mJs, mFmt, maStar, gJoin, mFld, moSome, mSl, gIx, z5, mCallL, miZ, gEqL, gNeL, mIsiT, moNone, gSl, miR1, gAdd, List.set_cons_zero, List.set_cons_succ, decide_true, eq_self, mMake, gRep, gInt, msFor, gAbs, mRev, gGe, gMod, gPow, gI, msPub, mLend, msParOO, msAppPop, msAppO, gDraw, msPar, msPar3, msAsg, mgTup, mgCons, mgNil, DL.gSub, mNeg, gMin, gSl, gIsN, gNotN, gTuple, msOwn, mIsiT, mDc, miEnumA, mIxN]
      obtain ⟨j, ej, before⟩ := first_at hz
      refine ⟨kC, n_columns, _, rfl, f0, cs, rfl, tb.nf, z, j, rfl, ej, before, ?_⟩
      refine hR _ ?_
      clear hR
      have hj : j < cs.length := (List.getElem?_eq_some_iff.mp ej).1
      have six := tb.six
      dsimp only [msRet, msRetN, msSeq, msIf, msNext, msExpr, msSet, mtAnd, mtOr, mtNot, mTru, mB, mCB, mCall, maCons, maNil, mVar, mC, mOp, mChain, mIf, mAndV, mOrV, mNotV, mLst, mTup, mMS, gI0, gLen, gEq, gNe, gEqS, gNeS, gIn, gAll, gStrip, truD, start0, dn, mLc, miS, mgName, wipeD, mYes, List.map_cons, List.map_nil, List.replicate, List.cons_append, List.nil_append, List.getElem?_cons_zero, List.getElem?_cons_succ, List.getElem?_nil, List.append_nil, gLe, gLt, Bool.not_true, Bool.not_false, Bool.false_eq_true, reduceIte, mJoined, mJs, mFmt, maStar, gJoin, mFld, moSome, mSl, gIx, z5, mCallL, miZ, gEqL, gNeL, mIsiT, moNone, gSl, miR1, gAdd, List.set_cons_zero, List.set_cons_succ, decide_true, eq_self, mMake, gRep, gInt, msFor, gAbs, mRev, gGe, gMod, gPow, gI, msPub, mLend, msParOO, msAppPop, msAppO, gDraw, msPar, msPar3, msAsg, mgTup, mgCons, mgNil, DL.gSub, mNeg, gMin, gSl, gIsN, gNotN, gTuple, msOwn, mIsiT, mDc, miEnumA]
      refine ⟨kC, n_rows, _, rfl, _, rfl, by rw [List.length_map]; exact Nat.lt_of_le_of_lt tb.few (by decide), lcD_map (f := fun d => cD (((rwOf d)[j]?).join)) _ (fun d m F' q => ?_) ?_⟩
      · obtain ⟨r, mr, rfl⟩ := List.mem_map.mp m
        rw [row_of (d := rowD r) rfl] at q
        have hr := (tb.rw_ r mr).1
        have at_ := at_row (r := r) (i := (j : Int)) (by omega) (by omega) (by omega)
        rw [show ((j : Int)).toNat = j from rfl] at at_
        exact ⟨_, at_, q⟩
      · have e : (out.map rowD).map (fun d => cD (((rwOf d)[j]?).join)) = (colL j out).map cD := by
          unfold colL
          rw [List.map_map, List.map_map]
          refine List.map_congr_left fun r _ => ?_
          show cD (((rwOf (rowD r))[j]?).join) = _
          rw [row_of (d := rowD r) rfl]
          rfl
        rw [e]
        exact ⟨rfl, colL j out, rfl, (by unfold colL; rw [List.length_map]; have := tb.few; omega), f1 j ej⟩
    · rw [decide_eq_false hz]
      exact iteT (f2 hz)
theorem sc_Table_contains : FnScope ["self", "row"] ["self", "row"] (defScope s_Table_contains) := ⟨rfl, rfl, rfl, by decide +kernel, rfl, by decide +kernel, by decide +kernel⟩
theorem ok_Table_contains (G : Glo K mg) (c : He.SaysD fa fn K) (x : Exf K) (H_is_row : Fn P w K mg base "is_row" 4 2 false (gIsRow K)) (H_places_told : Fn P w K mg base "places_told" 1 1 false gPlacesA) (H_all_told : Fn P w K mg base "all_told" 3 2 false gToldA) : Own1 P w K mg base (cTable K) "__contains__" 5 2 (gTIn K) := by
  obtain ⟨fd, F⟩ := c.defs (d := dfn ("Table", some "__contains__") "__contains__" "Table.__contains__" s_Table_contains) (by unfold fn; simp)
  replace F : FunD K "__contains__" "Table.__contains__" (defArgs s_Table_contains) (defBody s_Table_contains) (defScope s_Table_contains) [] [] (He.ma K (He.ga K "Table") "__contains__") fd := F
  have kC := He.cls_ok (c.facts (f := .cls "Table") (List.mem_append_right _ (List.mem_append_right _ (by simp))))
  have n_columns := He.noat_ok (c.facts (f := .noat "Table" "columns") (List.mem_append_right _ (List.mem_append_right _ (by simp))))
  have n_rows := He.noat_ok (c.facts (f := .noat "Table" "rows") (List.mem_append_right _ (List.mem_append_right _ (by simp))))
  refine ⟨_, fd, ["self", "row"], x.con.1, x.con.2, F.bindsN fun _ _ _ _ _ _ us hl => match us, hl with | [_, _], _ => rfl, ?_⟩
  have nd : (["self", "row"] : List Str).Nodup := sc_Table_contains.nd
  apply fn_okE (k := 4) (N := ["self", "row"]) F sc_Table_contains rfl (by decide)
  intro c cdv A outer s H E hr
  have hu := hr.units
  have tk := takes_of (X := cxOf (L2.CX P w) P w K mg base ["self", "row"] "Table.__contains__" (defScope s_Table_contains) (He.ma K (He.ga K "Table") "__contains__") cdv A outer s H E) rfl rfl rfl rfl
  apply Exists.intro
  apply Exists.intro
  apply And.intro
  · exact (dss_cons (ds_if (dt_not (dt_truth (de_f H_is_row (hr.mono (by decide)) rfl tk (da_cons (de_var 1) (da_cons (de_callB call_len cd_len rfl (G.n "len" (by decide)) (by decide +kernel) (da_cons (de_asT (de_fld (de_var 0))) da_nil)) da_nil))))) (dss_one (ds_ret de_bl)) dss_nil)
    (dss_one (ds_ret (de_and (de_cmp (op_neD hu) rd_ne (de_f H_places_told (hr.mono (by decide)) rfl tk (da_cons (de_var 1) da_nil)) (de_tup da_nil) (nomark _)) (de_one (de_f H_all_told (hr.mono (by decide)) rfl tk (da_cons (de_lst (da_cons (de_var 1) da_nil)) (da_cons (de_fld (de_var 0)) da_nil))))))))
  · intro ds F1 X1 hn h
    obtain ⟨f0, cs, out, d, rfl, tb, v, f⟩ := h
    refine ms_at (e := [.dat (tabE K f0 out), .dat d]) rfl ?_
    refine seq_st fun R hR => ?_
    dsimp only [msRet, msRetN, msSeq, msIf, msNext, msExpr, msSet, mtAnd, mtOr, mtNot, mTru, mB, mCB, mCall, maCons, maNil, mVar, mC, mOp, mChain, mIf, mAndV, mOrV, mNotV, mLst, mTup, mMS, gI0, gLen, gEq, gNe, gEqS, gNeS, gIn, gAll, gStrip, truD, start0, dn, mLc, miS, mgName, wipeD, mYes, lcD, List.map_cons, List.map_nil, List.replicate, List.cons_append, List.nil_append, List.getElem?_cons_zero, List.getElem?_cons_succ, List.getElem?_nil, List.append_nil, gLe, gLt, Bool.not_true, Bool.not_false, Bool.false_eq_true, reduceIte, mJoined, mJs, mFmt, maStar, gJoin, mFld, moSome, mSl, gIx, z5, mCallL, miZ, gEqL, gNeL, mIsiT, moNone, gSl, miR1, gAdd, List.set_cons_zero, List.set_cons_succ, decide_true, eq_self, mMake, gRep, gInt, msFor, gAbs, mRev, gGe, gMod, gPow, gI, msPub, mLend, msParOO, msAppPop, msAppO, gDraw, msPar, msPar3, msAsg, mgTup, mgCons, mgNil, DL.gSub, mNeg, gMin, gSl, gIsN, gNotN, gTuple, msOwn, mIsiT, mDc, miEnumA, tabE, mAsT]
    refine ⟨kC, n_columns, _, rfl, f0, cs, rfl, tb.nf, rfl, d, _, rfl, v, ?_⟩
    have len : ((cs.map D.str).length : Int) = (cs.length : Nat) := by rw [List.length_map]
    rw [len]
    cases e : rowB d (cs.length : Nat) with
    | false =>
      refine iteT (f false ⟨(fun z => nomatch z), fun z => ?_⟩)
      have z1 := z.1
      rw [e] at z1
      cases z1
    | true =>
      refine iteF ?_
      unfold rowB at e
      obtain ⟨e1, e2⟩ := b2 e
      have sq : isSeqD d = true := (b2 e1).1
      obtain ⟨r, hr⟩ := cells_row _ e2
      have sd : seqD d = some (r.map cD) := by rw [seq_el sq, hr]
      have rl : r.length = cs.length := by
        have := (b2 e1).2
        rw [decide_eq_true_eq, hr, List.length_map] at this
        omega
      have six := tb.six
      refine hR _ ?_
      clear hR
      dsimp only [msRet, msRetN, msSeq, msIf, msNext, msExpr, msSet, mtAnd, mtOr, mtNot, mTru, mB, mCB, mCall, maCons, maNil, mVar, mC, mOp, mChain, mIf, mAndV, mOrV, mNotV, mLst, mTup, mMS, gI0, gLen, gEq, gNe, gEqS, gNeS, gIn, gAll, gStrip, truD, start0, dn, mLc, miS, mgName, wipeD, mYes, lcD, List.map_cons, List.map_nil, List.replicate, List.cons_append, List.nil_append, List.getElem?_cons_zero, List.getElem?_cons_succ, List.getElem?_nil, List.append_nil, gLe, gLt, Bool.not_true, Bool.not_false, Bool.false_eq_true, reduceIte, mJoined, mJs, mFmt, maStar, gJoin, mFld, moSome, mSl, gIx, z5, mCallL, miZ, gEqL, gNeL, mIsiT, moNone, gSl, miR1, gAdd, List.set_cons_zero, List.set_cons_succ, decide_true, eq_self, mMake, gRep, gInt, msFor, gAbs, mRev, gGe, gMod, gPow, gI, msPub, mLend, msParOO, msAppPop, msAppO, gDraw, msPar, msPar3, msAsg, mgTup, mgCons, mgNil, DL.gSub, mNeg, gMin, gSl, gIsN, gNotN, gTuple, msOwn, mIsiT, mDc, miEnumA]
      refine ⟨rfl, d, r, rfl, sd, by omega, ?_⟩
      have iff : inP cs.length out d ↔ plc r ≠ [] ∧ ∃ s ∈ out, partR r s := by
        constructor
        · rintro ⟨_, r2, h1, h2, h3⟩
          rw [sd] at h1
          rw [row_cells_inj (Option.some.inj h1)]
          exact ⟨h2, h3⟩
        · rintro ⟨h1, h2⟩
          refine ⟨?_, r, sd, h1, h2⟩
          unfold rowB
          rw [e1, e2]
          rfl
      refine ⟨(show 0 ≤ sizeLine from Nat.zero_le _), plain_pl _, rfl, ?_⟩
      by_cases e0 : plc r = []
      · rw [show eqD (plD (plc r)) (D.tup []) = true by rw [e0]; rfl]
        refine f false ⟨(fun z => nomatch z), fun z => absurd e0 (iff.mp z).1⟩
      · have e1' : eqD (plD (plc r)) (D.tup []) = false := (eq_pl _ []).trans (decide_eq_false e0)
        rw [e1']
        refine ⟨(show 1 ≤ sizeLine by decide), kC, n_rows, _, rfl, rfl, d, r, out, cs.length, rfl, sd, e0, tb.few, by omega, rl, fun s ms => (tb.rw_ s ms).1, fun b hb => ?_⟩
        exact f b (hb.trans ⟨fun z => iff.mpr ⟨e0, z⟩, fun z => (iff.mp z).2⟩)
end
end K04

set_option Elab.async false
set_option linter.all false
set_option maxRecDepth 100000
set_option maxHeartbeats 4000000
namespace K04
open PySem PySem.Spec PyProof.Rows L2 DL XS
def gUnderL (K : Fg) : FF := fun ds F _ => ∃ (f0 : Addr → HO) (cs : List Str) (out : List Rw) (z : Str), ds = [tabE K f0 out, .str z] ∧ TbN f0 cs out ∧ (∀ j, cs[j]? = some z → ∀ ys, UpT (colL j out) ys → F (.tup (ys.map D.str))) ∧ (z ∉ cs → F (.tup [.str "none", .str z, .bl true, .bl false]))
/-- a row, a cell of which lacks now and then -/
def bareR (k n : Nat) (r : Rw) : Rw := if k < n then r.take k ++ [none] ++ r.drop (k + 1) else r
theorem bare_len {k n : Nat} {r : Rw} (h : r.length = n) : (bareR k n r).length = n := by
  unfold bareR
  split
  · rw [List.length_append, List.length_append, List.length_take, List.length_drop, List.length_singleton]
    omega
  · exact h
theorem bare_mem {k n : Nat} {r : Rw} {x : Str} (m : some x ∈ bareR k n r) : some x ∈ r := by
  unfold bareR at m
  split at m
  · rcases List.mem_append.mp m with m | m
    · rcases List.mem_append.mp m with m | m
      · exact List.mem_of_mem_take m
      · exact nomatch List.mem_singleton.mp m
    · exact List.mem_of_mem_drop m
  · exact m
theorem bare_ok {k n : Nat} {rs : List Rw} (h : RwsOk n rs) : RwsOk n (rs.map (bareR k n)) := fun s m => by
  obtain ⟨r, mr, rfl⟩ := List.mem_map.mp m
  exact ⟨bare_len (h r mr).1, fun x mx => (h r mr).2 x (bare_mem mx)⟩
def gBare : FF := fun ds F _ => ∃ (rs : List Rw) (n : Nat), ds = [.lst (rs.map rowD), .int n] ∧ 1 ≤ n ∧ n ≤ 6 ∧ rs.length ≤ 12 ∧ RwsOk n rs ∧ ∀ ss, ss.length = rs.length → RwsOk n ss → F (.lst (ss.map rowD))
section
variable {P : Program} {w : World} {K : Fg} {mg : Str → Option Value} {base : Heap}
theorem sc_law_under : FnScope ["_law_table_here", "_law_column", "_law_found", "e"] ["_law_table_here", "_law_column"] (defScope s_law_under) := ⟨rfl, rfl, rfl, by decide +kernel, rfl, by decide +kernel, by decide +kernel⟩
theorem ok_law_under (G : Glo K mg) (c : He.SaysD fa fn K) (x : Exf K) (M_under : Met1 P w K mg base (cTable K) "under" 3 1 (gUnder K)) : Fn P w K mg base "_law_under" 4 2 false (gUnderL K) := by
  obtain ⟨fd, F⟩ := c.defs (d := dfn ("_law_under", none) "_law_under" "_law_under" s_law_under) (by unfold fn; simp)
  replace F : FunD K "_law_under" "_law_under" (defArgs s_law_under) (defBody s_law_under) (defScope s_law_under) [] [] (He.ga K "_law_under") fd := F
  refine ⟨_, fd, ["_law_table_here", "_law_column"], ?_, G.g "_law_under" (by decide), F.kp, F.bindsN fun _ _ _ _ _ _ us hl => match us, hl with | [_, _], _ => rfl⟩
  have nd : (["_law_table_here", "_law_column", "_law_found", "e"] : List Str).Nodup := sc_law_under.nd
  apply fn_okE (k := 3) (N := ["_law_table_here", "_law_column", "_law_found", "e"]) F sc_law_under rfl (by decide)
  intro c cdv A outer s H E hr
  have hu := hr.units
  have tk := takes_of (X := cxOf (L2.CX P w) P w K mg base ["_law_table_here", "_law_column", "_law_found", "e"] "_law_under" (defScope s_law_under) (He.ga K "_law_under") cdv A outer s H E) rfl rfl rfl rfl
  apply Exists.intro
  apply Exists.intro
  apply And.intro
  · refine (dss_cons (ds_set 2 nd rfl (.inl rfl) de_non) (dss_cons (ds_tryF 3 (C := nC K) (cv := .ref (nC K)) rfl rfl nd rfl rfl ?n tk x.xs (fun W2 pn xe t2 => dss_one (ds_set 2 nd rfl (.inl rfl) (de_meth M_under (hr.mono (by decide)) t2 (de_var 0) (da_cons (de_var 1) da_nil))))
      (fun a oe d pn hz hf => dss_one (ds_set 2 nd rfl (.inl rfl) (de_tup (da_cons de_str (da_cons (de_exf 3 x.xx x.xn hz hf (pv 3)) (da_cons (de_isX 3 x.xc hz hf rfl (G.n "isinstance" (by decide)) (pv 3) (de_ty "KeyError" rfl (G.n "KeyError" (by decide)) (by decide +kernel)))
        (da_cons (de_isX 3 x.xc hz hf rfl (G.n "isinstance" (by decide)) (pv 3) (de_glob (v := .ref (He.ga K "TableError")) rfl (G.g "TableError" (by decide)) rfl (fun _ => .fx _))) da_nil)))))))) (dss_one (ds_ret (de_var 2)))))
    exact ⟨rfl, by decide, .inl (G.g "NoColumn" (by decide))⟩
  · intro ds F1 X1 hn h
    obtain ⟨f0, cs, out, z, rfl, tb, f1, f2⟩ := h
    refine ms_at (e := [.dat (tabE K f0 out), .dat (.str z), .un, .un]) rfl ?_
    dsimp only [msRet, msRetN, msSeq, msIf, msNext, msExpr, msSet, mtAnd, mtOr, mtNot, mTru, mB, mCB, mCall, maCons, maNil, mVar, mC, mOp, mChain, mIf, mAndV, mOrV, mNotV, mLst, mTup, mMS, gI0, gLen, gEq, gNe, gEqS, gNeS, gIn, gAll, gStrip, truD, start0, dn, mLc, miS, mgName, wipeD, mYes, lcD, List.map_cons, List.map_nil, List.replicate, List.cons_append, List.nil_append, List.getElem?_cons_zero, List.getElem?_cons_succ, List.getElem?_nil, List.append_nil, gLe, gLt, Bool.not_true, Bool.not_false, Bool.false_eq_true, reduceIte, mJoined, mJs, mFmt, maStar, gJoin, mFld, moSome, mSl, gIx, z5, mCallL, miZ, gEqL, gNeL, mIsiT, moNone, gSl, miR1, gAdd, List.set_cons_zero, List.set_cons_succ, decide_true, eq_self, mMake, gRep, gInt, msFor, gAbs, mRev, gGe, gMod, gPow, gI, msPub, mLend, msParOO, msAppPop, msAppO, gDraw, msPar, msPar3, msAsg, mgTup, mgCons, mgNil, DL.gSub, mNeg, gMin, gSl, gIsN, gNotN, gTuple, msOwn, mIsiT, mDc, miEnumA, msTry, mExf, mIsX, mMeth, tabE]
    refine ⟨rfl, rfl, rfl, f0, cs, out, z, rfl, tb, f1, fun hz => ?_⟩
    exact .inl ⟨rfl, fun a d => ⟨rfl, rfl, .str z, by simp [List.lookup], ⟨rfl, rfl⟩, .type "KeyError", true, .ty _, x.xk, ⟨rfl, rfl⟩, .ref (He.ga K "TableError"), false, .own _, x.xb, (show 4 ≤ sizeLine by decide), f2 hz⟩⟩
theorem sc_law_bare : FnScope ["_law_deal_here", "_law_rows_here", "_law_wide", "_law_spot", "_law_row"] ["_law_deal_here", "_law_rows_here", "_law_wide"] (defScope s_law_bare) := ⟨rfl, rfl, rfl, by decide +kernel, rfl, by decide +kernel, by decide +kernel⟩
theorem ok_law_bare (G : Glo K mg) (c : He.SaysD fa fn K) (H_law_draw : Fn P w K mg base "_law_draw" 1 1 true gDraw) : Fn P w K mg base "_law_bare" 2 2 true (gBare) := by
  obtain ⟨fd, F⟩ := c.defs (d := dfn ("_law_bare", none) "_law_bare" "_law_bare" s_law_bare) (by unfold fn; simp)
  replace F : FunD K "_law_bare" "_law_bare" (defArgs s_law_bare) (defBody s_law_bare) (defScope s_law_bare) [] [] (He.ga K "_law_bare") fd := F
  refine ⟨_, fd, ["_law_deal_here", "_law_rows_here", "_law_wide"], ?_, G.g "_law_bare" (by decide), F.kp, F.bindsN fun _ _ _ _ _ _ us hl => match us, hl with | [_, _, _], _ => rfl⟩
  have nd : (["_law_deal_here", "_law_rows_here", "_law_wide", "_law_spot", "_law_row"] : List Str).Nodup := sc_law_bare.nd
  obtain ⟨_, h_LETTERS⟩ := G.hL
  obtain ⟨_, h_LAD⟩ := G.hA
  obtain ⟨_, h_LN⟩ := G.hN
  obtain ⟨_, h_LT⟩ := G.hT
  obtain ⟨_, h_LACK⟩ := G.hK
  apply fn_okE (k := 1) (N := ["_law_deal_here", "_law_rows_here", "_law_wide", "_law_spot", "_law_row"]) F sc_law_bare rfl (by decide)
  intro c cdv A outer s H E hr
  have hu := hr.units
  have tk := takes_of (X := cxOf (L2.CX P w) P w K mg base ["_law_deal_here", "_law_rows_here", "_law_wide", "_law_spot", "_law_row"] "_law_bare" (defScope s_law_bare) (He.ga K "_law_bare") cdv A outer s H E) rfl rfl rfl rfl
  apply Exists.intro
  apply Exists.intro
  apply And.intro
  · exact (dss_cons (ds_set 3 nd rfl (by first | exact .inl rfl | exact .inr rfl) (de_fL 0 H_law_draw (hr.mono (by decide)) rfl tk (pv 0) (da_cons (de_op op_mulA rd_mul de_int (de_var 2)) da_nil)))
    (dss_one (ds_ret (de_lcF (own := [("_law_row", 4)]) rfl nd (dic_of (di_seq (de_var 1))) (blkOk_by (show blkC ["_law_deal_here", "_law_rows_here", "_law_wide", "_law_spot", "_law_row"] (defScope s_law_bare) _ _ = true from by decide +kernel)) (by decide) (fun s H C cl fp => (dg_name 4 nd rfl (by first | exact .inl rfl | exact .inr rfl))) (fun s H C cl fp => dts_nil) (fun s H C cl fp => (de_op op_catA rd_catA (de_op op_catA rd_catA (de_slT (de_var 4) do_none (do_some (de_var 3))) (de_op op_repA rd_repA (de_tup (da_cons de_non da_nil)) (de_callTy call_int1 cd_int rfl (G.n "int" (by decide)) (by decide +kernel) (da_cons (de_cmp op_lt rd_lt (de_var 3) (de_var 2) (nomark _)) da_nil)))) (de_slT (de_var 4) (do_some (de_op op_addA rd_add (de_var 3) de_int)) do_none)))))))
  · intro ds F1 X1 hn h
    obtain ⟨rs, n, rfl, n1, n6, few, hrs, f⟩ := h
    refine ms_at (e := [.deal, .dat (.lst (rs.map rowD)), .dat (.int n), .un, .un]) rfl ?_
    refine seq_st fun R hR => ?_
    dsimp only [msRet, msRetN, msSeq, msIf, msNext, msExpr, msSet, mtAnd, mtOr, mtNot, mTru, mB, mCB, mCall, maCons, maNil, mVar, mC, mOp, mChain, mIf, mAndV, mOrV, mNotV, mLst, mTup, mMS, gI0, gLen, gEq, gNe, gEqS, gNeS, gIn, gAll, gStrip, truD, start0, dn, mLc, miS, mgName, wipeD, mYes, lcD, List.map_cons, List.map_nil, List.replicate, List.cons_append, List.nil_append, List.getElem?_cons_zero, List.getElem?_cons_succ, List.getElem?_nil, List.append_nil, gLe, gLt, Bool.not_true, Bool.not_false, Bool.false_eq_true, reduceIte, mJoined, mJs, mFmt, maStar, gJoin, mFld, moSome, mSl, gIx, z5, mCallL, miZ, gEqL, gNeL, mIsiT, moNone, gSl, miR1, gAdd, List.set_cons_zero, List.set_cons_succ, decide_true, eq_self, mMake, gRep, gInt, msFor, gAbs, mRev, gGe, gMod, gPow, gI, msPub, mLend, msParOO, msAppPop, msAppO, gDraw, msPar, msPar3, msAsg, mgTup, mgCons, mgNil, DL.gSub, mNeg, gMin, gSl, gIsN, gNotN, gTuple, msOwn, mIsiT, mDc, miEnumA]
    refine ⟨trivial, .inl ⟨by decide, by decide⟩, rfl, _, rfl, by omega, by omega, fun k k0 k1 => ?_⟩
    refine hR _ ?_
    clear hR
    dsimp only [msRet, msRetN, msSeq, msIf, msNext, msExpr, msSet, mtAnd, mtOr, mtNot, mTru, mB, mCB, mCall, maCons, maNil, mVar, mC, mOp, mChain, mIf, mAndV, mOrV, mNotV, mLst, mTup, mMS, gI0, gLen, gEq, gNe, gEqS, gNeS, gIn, gAll, gStrip, truD, start0, dn, mLc, miS, mgName, wipeD, mYes, List.map_cons, List.map_nil, List.replicate, List.cons_append, List.nil_append, List.getElem?_cons_zero, List.getElem?_cons_succ, List.getElem?_nil, List.append_nil, gLe, gLt, Bool.not_true, Bool.not_false, Bool.false_eq_true, reduceIte, mJoined, mJs, mFmt, maStar, gJoin, mFld, moSome, mSl, gIx, z5, mCallL, miZ, gEqL, gNeL, mIsiT, moNone, gSl, miR1, gAdd, List.set_cons_zero, List.set_cons_succ, decide_true, eq_self, mMake, gRep, gInt, msFor, gAbs, mRev, gGe, gMod, gPow, gI, msPub, mLend, msParOO, msAppPop, msAppO, gDraw, msPar, msPar3, msAsg, mgTup, mgCons, mgNil, DL.gSub, mNeg, gMin, gSl, gIsN, gNotN, gTuple, msOwn, mIsiT, mDc, miEnumA, mSlT]
    refine ⟨_, rfl, by rw [List.length_map]; exact Nat.lt_of_le_of_lt few (by decide), lcD_map (f := fun d => rowD (bareR k.toNat n (rwOf d))) _ (fun d m F' q => ?_) ?_⟩
    · obtain ⟨r, mr, rfl⟩ := List.mem_map.mp m
      rw [row_of (d := rowD r) rfl] at q
      have hr := (hrs r mr).1
      show mOp gCatA _ _ [.deal, .dat (.lst (rs.map rowD)), .dat (.int n), .dat (.int k), .dat (rowD r)] F' _
      dsimp only [msRet, msRetN, msSeq, msIf, msNext, msExpr, msSet, mtAnd, mtOr, mtNot, mTru, mB, mCB, mCall, maCons, maNil, mVar, mC, mOp, mChain, mIf, mAndV, mOrV, mNotV, mLst, mTup, mMS, gI0, gLen, gEq, gNe, gEqS, gNeS, gIn, gAll, gStrip, truD, start0, dn, mLc, miS, mgName, wipeD, mYes, lcD, List.map_cons, List.map_nil, List.replicate, List.cons_append, List.nil_append, List.getElem?_cons_zero, List.getElem?_cons_succ, List.getElem?_nil, List.append_nil, gLe, gLt, Bool.not_true, Bool.not_false, Bool.false_eq_true, reduceIte, mJoined, mJs, mFmt, maStar, gJoin, mFld, moSome, mSl, gIx, z5, mCallL, miZ, gEqL, gNeL, mIsiT, moNone, gSl, miR1, gAdd, List.set_cons_zero, List.set_cons_succ, decide_true, eq_self, mMake, gRep, gInt, msFor, gAbs, mRev, gGe, gMod, gPow, gI, msPub, mLend, msParOO, msAppPop, msAppO, gDraw, msPar, msPar3, msAsg, mgTup, mgCons, mgNil, DL.gSub, mNeg, gMin, gSl, gIsN, gNotN, gTuple, msOwn, mIsiT, mDc, miEnumA, mSlT, gCatA, gRepA, rowD]
      obtain ⟨k, rfl⟩ := Int.eq_ofNat_of_zero_le k0
      have c1 : DL.cutD (r.map cD) none (some (k : Int)) = (r.take k).map cD := by rw [cut_take (Int.natCast_nonneg k), List.map_take, Int.toNat_natCast]
      have c2 : DL.cutD (r.map cD) (some ((k : Int) + 1)) none = (r.drop (k + 1)).map cD := by
        rw [cut_drop (by omega), List.map_drop]
        rw [show ((k : Int) + 1).toNat = k + 1 by omega]
      have q : F' (rowD (bareR k n r)) := q
      by_cases hk : (k : Int) < n
      · have e : rowD (bareR k n r) = .tup ((r.take k).map cD ++ [D.non] ++ (r.drop (k + 1)).map cD) := by
          unfold bareR
          rw [if_pos (by omega)]
          unfold rowD
          rw [List.map_append, List.map_append]
          rfl
        rw [e] at q
        refine ⟨_, rfl, (show 1 ≤ sizeLine by decide), [.non], 1, rfl, by rw [decide_eq_true hk]; rfl, (fun z => nomatch z), by decide, by decide, by decide, _, _, rfl, rfl, ?_, _, rfl, _, _, rfl, rfl, ?_, ?_⟩
        · rw [c1]
          exact Nat.le_trans (show ((r.take k).map cD).length + 1 ≤ 7 by rw [List.length_map, List.length_take]; omega) (by decide)
        · rw [c1, c2]
          exact Nat.le_trans (show ((r.take k).map cD ++ [D.non]).length + ((r.drop (k + 1)).map cD).length ≤ 20 by rw [List.length_append, List.length_map, List.length_map, List.length_take, List.length_drop, List.length_singleton]; omega) (by decide)
        · rw [c1, c2]
          exact q
      · have e : rowD (bareR k n r) = .tup ((r.take k).map cD ++ [] ++ (r.drop (k + 1)).map cD) := by
          unfold bareR
          rw [if_neg (by omega), List.append_nil, List.take_of_length_le (by omega), List.drop_of_length_le (by omega), List.map_nil, List.append_nil]
          rfl
        rw [e] at q
        refine ⟨_, rfl, (show 1 ≤ sizeLine by decide), [.non], 0, rfl, by rw [decide_eq_false hk]; rfl, (fun z => nomatch z), by decide, by decide, by decide, _, _, rfl, rfl, ?_, _, rfl, _, _, rfl, rfl, ?_, ?_⟩
        · rw [c1]
          exact Nat.le_trans (show ((r.take k).map cD).length + 0 ≤ 7 by rw [List.length_map, List.length_take]; omega) (by decide)
        · rw [c1, c2]
          exact Nat.le_trans (show ((r.take k).map cD ++ []).length + ((r.drop (k + 1)).map cD).length ≤ 20 by rw [List.append_nil, List.length_map, List.length_map, List.length_take, List.length_drop]; omega) (by decide)
        · rw [c1, c2]
          exact q
    · have e : (rs.map rowD).map (fun d => rowD (bareR k.toNat n (rwOf d))) = (rs.map (bareR k.toNat n)).map rowD := by
        rw [List.map_map, List.map_map]
        refine List.map_congr_left fun r _ => ?_
        show rowD (bareR k.toNat n (rwOf (rowD r))) = _
        rw [row_of (d := rowD r) rfl]
        rfl
      rw [e]
      exact f _ (by rw [List.length_map]) (bare_ok hrs)
end
end K04

set_option Elab.async false
set_option linter.all false
set_option maxRecDepth 100000
set_option maxHeartbeats 4000000
namespace K04
open PySem PySem.Spec PyProof.Rows L2 DL XS
/-! ### what is shown of texts -/
theorem weight_strs : ∀ ys : List Str, PyData.weightAll (toPys (ys.map D.str)) = (ys.map fun y => y.length + 1).sum
  | [] => rfl
  | y :: ys => by
    show y.cps.size + 1 + PyData.weightAll (toPys (ys.map D.str)) = _
    rw [weight_strs ys]
    rfl
theorem sum_le1 {ys : List Str} {k : Nat} (h : ∀ y ∈ ys, y.length ≤ k) : (ys.map fun y => y.length + 1).sum ≤ ys.length * (k + 1) := by
  induction ys with
  | nil => exact Nat.zero_le _
  | cons y ys ih =>
    rw [List.map_cons, List.sum_cons, List.length_cons, Nat.add_mul, Nat.one_mul]
    have := h y (List.mem_cons_self ..)
    have := ih fun z m => h z (List.mem_cons_of_mem _ m)
    omega
theorem show_strs : ∀ ys : List Str, PyData.showableAll (toPys (ys.map D.str)) = true ∧ PyData.intsShortAll 13 (toPys (ys.map D.str)) = true
  | [] => ⟨rfl, rfl⟩
  | y :: ys => by
    obtain ⟨h1, h2⟩ := show_strs ys
    refine ⟨?_, ?_⟩
    · show (true && PyData.showableAll (toPys (ys.map D.str))) = true
      rw [h1]
      rfl
    · show (true && PyData.intsShortAll 13 (toPys (ys.map D.str))) = true
      rw [h2]
      rfl
theorem shown_strs {ys : List Str} (ok : ∀ y ∈ ys, PyData.strOk y = true) (few : ys.length ≤ 100) (len : ∀ y ∈ ys, y.length ≤ 10) :
    DL.plain 20 (.tup (ys.map D.str)) = true ∧ (toPy (.tup (ys.map D.str))).showable = true ∧ (toPy (.tup (ys.map D.str))).shown.length ≤ sizeLine := by
  have p := plain_strs 18 ok
  obtain ⟨s1, s2⟩ := show_strs ys
  refine ⟨p, s1, Nat.le_trans (PyProof.Rows.shown_le13 (d := toPy (.tup (ys.map D.str))) ?_ s2) (by decide)⟩
  obtain ⟨l1, l2⟩ := lay_of 20 _ p
  unfold PyData.layable0
  rw [l1, decide_eq_true (show (toPy (.tup (ys.map D.str))).depth ≤ 64 by omega)]
  refine decide_eq_true ?_
  show PyData.weightAll (toPys (ys.map D.str)) ≤ 2 ^ 20
  rw [weight_strs]
  have h1 := sum_le1 len
  have h2 := Nat.mul_le_mul_right (10 + 1) few
  exact Nat.le_trans (Nat.le_trans h1 h2) (by decide)

theorem row_due (r : Rw) (out : List Rw) : ((out.map rowD).filter fun d => partB r (rwOf d)).isEmpty = true ↔ ∀ s ∈ out, ¬ partR r s := by
  rw [List.isEmpty_iff, List.filter_eq_nil_iff]
  constructor
  · intro h s m q
    have := h (rowD s) (List.mem_map_of_mem m)
    rw [row_of (d := rowD s) rfl, partB_iff] at this
    exact this q
  · intro h d m
    obtain ⟨s, ms, rfl⟩ := List.mem_map.mp m
    rw [row_of (d := rowD s) rfl, partB_iff]
    exact h s ms
theorem row_cellsB {r : Rw} (h : ∀ x, some x ∈ r → TxtOk x) : (r.map cD).all cellB = true := by
  rw [List.all_map, List.all_eq_true]
  exact fun c m => cell_b fun x e => h x (e ▸ m)
theorem in_row {n : Nat} {out : List Rw} {r : Rw} {d : D} (sd : seqD d = some (r.map cD)) (hr : RwOk n r) : inP n out d ↔ (plc r ≠ [] ∧ ∃ s ∈ out, partR r s) := by
  have el : elD d = r.map cD := by
    unfold elD
    rw [sd]
    rfl
  have sq : isSeqD d = true := by
    cases d with
    | lst _ => rfl
    | tup _ => rfl
    | _ => cases sd
  constructor
  · rintro ⟨_, r2, h1, h2⟩
    rw [sd] at h1
    rw [row_cells_inj (Option.some.inj h1)]
    exact h2
  · intro h
    refine ⟨?_, r, sd, h⟩
    unfold rowB wideD
    rw [sq, el, row_cellsB hr.2, List.length_map, hr.1]
    simp
theorem row_v2 {K : Fg} {n : Nat} {r : Rw} {d : D} (sd : seqD d = some (r.map cD)) (hr : RwOk n r) (h6 : n ≤ 6) : V2 K d := by
  have el : elD d = r.map cD := by
    unfold elD
    rw [sd]
    rfl
  refine ⟨?_, fun e m => ?_⟩
  · cases d with
    | lst l => cases sd; exact ⟨trivial, (show (r.map cD).length ≤ 200 by rw [List.length_map, hr.1]; omega)⟩
    | tup l => cases sd; exact ⟨trivial, (show (r.map cD).length ≤ 200 by rw [List.length_map, hr.1]; omega)⟩
    | _ => cases sd
  · rw [el] at m
    obtain ⟨c, mc, rfl⟩ := List.mem_map.mp m
    exact cell_v fun x e => hr.2 x (e ▸ mc)

theorem bl_shown (b : Bool) : (toPy (.bl b)).shown.length ≤ sizeLine := by cases b <;> decide +kernel
noncomputable def dueB (r : Rw) (out : List Rw) : Bool := !decide (plc r = []) && !((out.map rowD).filter fun d => partB r (rwOf d)).isEmpty
theorem due_iff {r : Rw} {out : List Rw} : dueB r out = true ↔ plc r ≠ [] ∧ ∃ s ∈ out, partR r s := by
  unfold dueB
  rw [Bool.and_eq_true, Bool.not_eq_true', decide_eq_false_iff_not, Bool.not_eq_true', Bool.eq_false_iff, Ne, row_due]
  refine and_congr Iff.rfl ⟨fun h => ?_, fun ⟨s, m, q⟩ z => z s m q⟩
  apply Classical.byContradiction
  intro z
  exact h fun s m q => z ⟨s, m, q⟩

/-! ### values that are no rows -/
theorem no_seq {n : Nat} {out : List Rw} {d : D} (h : isSeqD d = false) : ¬ inP n out d := fun ⟨z, _⟩ => by
  unfold rowB wideD at z
  rw [h] at z
  cases z
theorem no_len {n : Nat} {out : List Rw} {d : D} (h : (elD d).length ≠ n) : ¬ inP n out d := fun ⟨z, _⟩ => by
  have := of_decide_eq_true (b2 (b2 z).1).2
  omega
theorem no_cell {n : Nat} {out : List Rw} {d e : D} (m : e ∈ elD d) (h : cellB e = false) : ¬ inP n out d := fun ⟨z, _⟩ => by
  have := List.all_eq_true.mp (b2 z).2 e m
  rw [h] at this
  cases this
theorem plc_none : ∀ (n k : Nat), plcF k (List.replicate n none) = []
  | 0, _ => rfl
  | n + 1, k => plc_none n (k + 1)
theorem no_text {n m : Nat} {out : List Rw} : ¬ inP n out (.tup (List.replicate m .non)) := fun ⟨_, r, h, ne, _⟩ => by
  have e : r = List.replicate m none := by
    refine row_cells_inj ?_
    rw [← Option.some.inj h, List.map_replicate]
    rfl
  rw [e] at ne
  exact ne (plc_none m 0)
theorem tup_v2 {K : Fg} {es : List D} (few : es.length ≤ 200) (h : ∀ e ∈ es, V1 K e) : V2 K (.tup es) := ⟨⟨trivial, few⟩, h⟩
theorem rep_v2 {K : Fg} {m : Nat} {e : D} (hm : m ≤ 200) (h : V1 K e) : V2 K (.tup (List.replicate m e)) := tup_v2 (by rw [List.length_replicate]; exact hm) fun x mx => by rw [(List.mem_replicate.mp mx).2]; exact h
theorem one_v2 {K : Fg} {d : D} (h : V1 K d) (e : elD d = []) : V2 K d := ⟨h, fun x m => by rw [e] at m; cases m⟩
theorem mulx : ∀ n : Nat, n ≤ 5 → (Txt.mul "x" (n : Int)).length ≤ 200 ∧ PyData.strOk (Txt.mul "x" (n : Int)) = true := fun n h => by
  have := List.all_eq_true.mp (show (List.range 6).all (fun n => decide ((Txt.mul "x" ((n : Nat) : Int)).length ≤ 200) && PyData.strOk (Txt.mul "x" ((n : Nat) : Int))) = true by decide +kernel) n (List.mem_range.mpr (by omega))
  obtain ⟨h1, h2⟩ := b2 this
  exact ⟨of_decide_eq_true h1, h2⟩
def oddsA (T : D) (n : Nat) (t0 : Str) : List D := [.non, .int 3, .str "", .str "x", .tup [], .lst [], .tup (List.replicate (n : Int).toNat [D.non]).flatten, .tup (List.replicate ((n : Int) + 1).toNat [D.str t0]).flatten, T, .bl true]
def oddsB (n : Nat) : List D := [.tup ([.str "A"] ++ (List.replicate ((n : Int) - 1).toNat [D.non]).flatten), .tup (List.replicate (n : Int).toNat [D.int 3]).flatten, .tup (List.replicate (n : Int).toNat [D.lst []]).flatten, .str (Txt.mul "x" (n : Int))]
theorem odd_ok {K : Fg} {f0 : Addr → HO} {out : List Rw} {n : Nat} {t0 : Str} (n1 : 1 ≤ n) (n5 : n ≤ 5) (ht : TxtOk t0) : ∀ d ∈ oddsA (tabE K f0 out) n t0 ++ oddsB n, V2 K d ∧ ¬ inP n out d := by
  have vt : V1 K (.str t0) := txt_v ht
  have vn : V1 K .non := ⟨trivial, trivial⟩
  intro d m
  unfold oddsA oddsB at m
  simp only [List.flatten_replicate_singleton, List.cons_append, List.nil_append, List.mem_cons, List.not_mem_nil, or_false] at m
  rcases m with rfl | rfl | rfl | rfl | rfl | rfl | rfl | rfl | rfl | rfl | rfl | rfl | rfl | rfl
  · exact ⟨one_v2 vn rfl, no_seq rfl⟩
  · exact ⟨one_v2 ⟨trivial, trivial⟩ rfl, no_seq rfl⟩
  · exact ⟨one_v2 ⟨trivial, by decide, by decide +kernel⟩ rfl, no_seq rfl⟩
  · exact ⟨one_v2 ⟨trivial, by decide, by decide +kernel⟩ rfl, no_seq rfl⟩
  · exact ⟨one_v2 ⟨trivial, Nat.zero_le _⟩ rfl, no_len (show 0 ≠ n by omega)⟩
  · exact ⟨one_v2 ⟨trivial, Nat.zero_le _⟩ rfl, no_len (show 0 ≠ n by omega)⟩
  · exact ⟨rep_v2 (by omega) vn, no_text⟩
  · refine ⟨rep_v2 (by omega) vt, no_len ?_⟩
    show (List.replicate _ _).length ≠ n
    rw [List.length_replicate]
    omega
  · exact ⟨one_v2 ⟨rfl, trivial⟩ rfl, no_seq rfl⟩
  · exact ⟨one_v2 ⟨trivial, trivial⟩ rfl, no_seq rfl⟩
  · refine ⟨tup_v2 ?_ fun e m => ?_, no_cell (e := .str "A") (List.mem_cons_self ..) (by decide +kernel)⟩
    · rw [List.length_cons, List.length_replicate]
      omega
    · rcases List.mem_cons.mp m with rfl | m
      · exact ⟨trivial, by decide, by decide +kernel⟩
      · rw [(List.mem_replicate.mp m).2]
        exact vn
  · exact ⟨rep_v2 (by omega) ⟨trivial, trivial⟩, no_cell (e := .int 3) (List.mem_replicate.mpr ⟨by omega, rfl⟩) rfl⟩
  · exact ⟨rep_v2 (by omega) ⟨trivial, Nat.zero_le _⟩, no_cell (e := .lst []) (List.mem_replicate.mpr ⟨by omega, rfl⟩) rfl⟩
  · exact ⟨one_v2 ⟨trivial, mulx n n5⟩ rfl, no_seq rfl⟩

theorem mulok (n : Nat) (h : n ≤ 5) : MulOk "x" (n : Int) := mulOk_of 1 5 (by decide) (by omega) (by omega) (by decide) (by decide)
theorem forD_at {α : Type} {mg : MG} {mb : MS} {k : MK} (g : Nat → α → D) (I : List α → List Sl → Prop) (all : List α) (dd : Nat → List α → List D) (e0 : ∀ j, dd j [] = []) (e1 : ∀ j s ss, dd j (s :: ss) = g j s :: dd (j + 1) ss) :
    ∀ (ss dn : List α) (δ : List Sl), dn ++ ss = all → (∀ s dn rest δ, dn ++ s :: rest = all → I dn δ → ∀ k' : MK, (∀ δ2, I (dn ++ [s]) δ2 → k'.nx δ2) → k'.rt = k.rt → k'.rs = k.rs → mg (g dn.length s) δ fun δ' => mb δ' k') → I dn δ → (∀ δ, I all δ → k.nx δ) → forD mg mb (dd dn.length ss) δ k
  | [], dn, δ, e, _, i, f => by
    rw [e0]
    exact f δ (by rw [List.append_nil] at e; rw [← e]; exact i)
  | s :: ss, dn, δ, e, h, i, f => by
    rw [e1]
    refine h s dn ss δ e i _ (fun δ2 i2 => ?_) rfl rfl
    have := forD_at g I all dd e0 e1 ss (dn ++ [s]) δ2 (by rw [List.append_assoc]; exact e) h i2 f
    rw [List.length_append] at this
    exact this

theorem flat_len : ∀ {l : List Rw} {k : Nat}, (∀ r ∈ l, r.length ≤ k) → (l.flatMap textsL).length ≤ l.length * k
  | [], _, _ => Nat.zero_le _
  | r :: l, k, h => by
    rw [List.flatMap_cons, List.length_append, List.length_cons, Nat.add_mul, Nat.one_mul]
    have h1 := texts_len r
    have h2 := h r (List.mem_cons_self ..)
    have h3 := flat_len (l := l) (k := k) fun s m => h s (List.mem_cons_of_mem _ m)
    omega
theorem mem_flat {l : List Rw} {x : Str} : x ∈ l.flatMap textsL ↔ some x ∈ l.flatten := by
  rw [List.mem_flatMap, List.mem_flatten]
  exact ⟨fun ⟨r, m, h⟩ => ⟨r, m, mem_texts.mp h⟩, fun ⟨r, m, h⟩ => ⟨r, m, mem_texts.mpr h⟩⟩
/-- the texts under a column, as the law finds them -/
theorem col_cells (j : Nat) : ∀ out : List Rw, ((out.map rowD).filter fun d => !DL.isNon (cD (((rwOf d)[j]?).join))).map (fun d => cD (((rwOf d)[j]?).join)) = (textsL (colL j out)).map D.str
  | [] => rfl
  | r :: out => by
    have ih := col_cells j out
    rw [List.map_cons]
    cases e : (r[j]?).join with
    | none =>
      rw [List.filter_cons_of_neg (by rw [row_of (d := rowD r) rfl, e]; exact Bool.false_ne_true), ih]
      show _ = (textsL ((r[j]?).join :: colL j out)).map D.str
      rw [e]
      rfl
    | some x =>
      rw [List.filter_cons_of_pos (by rw [row_of (d := rowD r) rfl, e]; rfl), List.map_cons, ih, row_of (d := rowD r) rfl, e]
      show _ = (textsL ((r[j]?).join :: colL j out)).map D.str
      rw [e]
      rfl
theorem col_mem {j : Nat} {out : List Rw} {x : Str} (h : some x ∈ colL j out) : ∃ r ∈ out, some x ∈ r := by
  obtain ⟨r, m, e⟩ := List.mem_map.mp h
  refine ⟨r, m, ?_⟩
  cases q : r[j]? with
  | none => rw [q] at e; cases e
  | some c =>
    rw [q] at e
    have e : c = some x := e
    rw [← e]
    exact List.mem_of_getElem? q
theorem ok_app {x y : Str} (h : PyData.strOk x = true) (g : PyData.strOk y = true) : PyData.strOk (x ++ y) = true := by
  unfold PyData.strOk at h g ⊢
  rw [← Array.all_toList] at h g ⊢
  show ((x.cps ++ y.cps).toList.all _) = true
  rw [Array.toList_append, List.all_append, h, g]
  rfl
/-- what is shown of texts of rows -/
theorem shown_rows {n : Nat} {out : List Rw} {ys l : List Str} (w : RwsOk n out) (nd : ys.Nodup) (sub : ∀ y ∈ ys, y ∈ l) (few : l.length ≤ 100) (from_ : ∀ y ∈ ys, ∃ r ∈ out, some y ∈ r) :
    DL.plain 20 (.tup (ys.map D.str)) = true ∧ (toPy (.tup (ys.map D.str))).showable = true ∧ (toPy (.tup (ys.map D.str))).shown.length ≤ sizeLine :=
  shown_strs (fun y m => by obtain ⟨r, mr, q⟩ := from_ y m; exact ((w r mr).2 y q).ok) (Nat.le_trans (nodup_len ys l nd sub) few) fun y m => by
    obtain ⟨r, mr, q⟩ := from_ y m
    exact Nat.le_trans ((w r mr).2 y q).len (by decide)

section
variable {P : Program} {w : World} {K : Fg} {mg : Str → Option Value} {base : Heap}
theorem sc_law : FnScope ["_law_script", "_law_deal_here", "_law_turn", "_law_names", "_law_some", "_law_rows_here", "_law_table_here", "_law_all_rows", "_law_again", "_law_odd", "_law_told", "_law_row", "_law_k", "_law_column", "_law_other", "_law_due", "_law_thing", "_law_cell", "_law_one"] ["_law_script"] (defScope s_law) := ⟨rfl, rfl, rfl, by decide +kernel, rfl, by decide +kernel, by decide +kernel⟩
theorem ok_law (G : Glo K mg) (c : He.SaysD fa fn K) (x : Exf K) (H_law_deal : Fn P w K mg base "_law_deal" 1 2 false gDeal) (H_law_draw : Fn P w K mg base "_law_draw" 1 1 true gDraw) (H_law_pick : Fn P w K mg base "_law_pick" 2 1 true gOneOf) (H_law_columns : Fn P w K mg base "_law_columns" 2 1 true gColumns) (H_law_texts : Fn P w K mg base "_law_texts" 2 1 true gTexts) (H_law_rows : Fn P w K mg base "_law_rows" 3 3 true gRowsL) (H_law_table : Fn P w K mg base "_law_table" 4 3 true gTabL) (H_law_bare : Fn P w K mg base "_law_bare" 2 2 true gBare) (H_law_greatest : Fn P w K mg base "_law_greatest" 2 1 false gGreat) (H_law_is_part : Fn P w K mg base "_law_is_part" 1 2 false gPart) (H_law_under : Fn P w K mg base "_law_under" 4 2 false (gUnderL K)) (H_Table : Mkr P w K mg base "Table" (cTable K) 6 2 (gTable K)) (M_con : OwnM P w K mg base (fun C => C = cTable K) "__contains__" 5 2 (fun _ => gTIn K)) (P_texts : Prp1 P w K mg base (cTable K) "texts" 2 (gTTexts K)) {f : Addr} {fd : FuncData} (F : FunD K "law" "law" (defArgs s_law) (defBody s_law) (defScope s_law) [] [] f fd) : FnOkG P w K mg base (L2.CX P w) 10 f fd ["_law_script"] (spLawD K) := by
  have nd : (["_law_script", "_law_deal_here", "_law_turn", "_law_names", "_law_some", "_law_rows_here", "_law_table_here", "_law_all_rows", "_law_again", "_law_odd", "_law_told", "_law_row", "_law_k", "_law_column", "_law_other", "_law_due", "_law_thing", "_law_cell", "_law_one"] : List Str).Nodup := sc_law.nd
  apply fn_lawG (k := 9) (N := ["_law_script", "_law_deal_here", "_law_turn", "_law_names", "_law_some", "_law_rows_here", "_law_table_here", "_law_all_rows", "_law_again", "_law_odd", "_law_told", "_law_row", "_law_k", "_law_column", "_law_other", "_law_due", "_law_thing", "_law_cell", "_law_one"]) F sc_law (by decide)
  intro cdv A outer s H E hgd hr
  have hu := hr.units
  have tk := takes_of (X := cxOf (L2.CX P w) P w K mg base ["_law_script", "_law_deal_here", "_law_turn", "_law_names", "_law_some", "_law_rows_here", "_law_table_here", "_law_all_rows", "_law_again", "_law_odd", "_law_told", "_law_row", "_law_k", "_law_column", "_law_other", "_law_due", "_law_thing", "_law_cell", "_law_one"] "law" (defScope s_law) f cdv A outer s H E) rfl rfl rfl rfl
  refine ⟨_, _, _, _, fun c => dsw (ds_set 1 nd rfl (by first | exact .inl rfl | exact .inr rfl) (de_f H_law_deal (hr.mono (by decide)) rfl tk (da_cons (de_var 0) (da_cons de_int da_nil)))) fun c => (dss_cons (ds_for (passes_of rfl) rfl (di_range1 rfl (G.n "range" (by decide)) (da_cons de_int da_nil)) (dg_name 2 nd rfl (by first | exact .inl rfl | exact .inr rfl)) (dss_cons (ds_asg (de_tup (da_cons (de_fL 1 H_law_columns (hr.mono (by decide)) rfl tk (pv 1) (da_cons (de_op op_addA rd_add de_int (de_fL 1 H_law_draw (hr.mono (by decide)) rfl tk (pv 1) (da_cons de_int da_nil))) da_nil)) (da_cons (de_fL 1 H_law_texts (hr.mono (by decide)) rfl tk (pv 1) (da_cons (de_op op_addA rd_add de_int (de_fL 1 H_law_draw (hr.mono (by decide)) rfl tk (pv 1) (da_cons de_int da_nil))) da_nil)) da_nil))) (dg_tup rfl (dgs_cons (dg_name 3 nd rfl (by first | exact .inl rfl | exact .inr rfl)) (dgs_cons (dg_name 4 nd rfl (by first | exact .inl rfl | exact .inr rfl)) dgs_nil))))
    (dss_cons (ds_set 5 nd rfl (by first | exact .inl rfl | exact .inr rfl) (de_fL 1 H_law_table (hr.mono (by decide)) rfl tk (pv 1) (da_cons (de_var 3) (da_cons de_int (da_cons (de_var 4) da_nil)))))
    (dss_cons (ds_set 5 nd rfl (by first | exact .inl rfl | exact .inr rfl) (de_fL 1 H_law_bare (hr.mono (by decide)) rfl tk (pv 1) (da_cons (de_var 5) (da_cons (de_callB call_len cd_len rfl (G.n "len" (by decide)) (by decide +kernel) (da_cons (de_var 3) da_nil)) da_nil))))
    (dss_cons (ds_asg (de_tup (da_cons (de_mkS H_Table (hr.mono (by decide)) rfl tk (da_cons (de_var 3) (da_cons (de_var 5) da_nil))) (da_cons (de_f H_law_greatest (hr.mono (by decide)) rfl tk (da_cons (de_var 5) da_nil)) da_nil))) (dg_tup rfl (dgs_cons (dg_name 6 nd rfl (by first | exact .inl rfl | exact .inr rfl)) (dgs_cons (dg_name 7 nd rfl (by first | exact .inl rfl | exact .inr rfl)) dgs_nil))))
    (dss_cons (ds_for (passes_of rfl) rfl (di_range1 rfl (G.n "range" (by decide)) (da_cons de_int da_nil)) (dg_name 8 nd rfl (by first | exact .inl rfl | exact .inr rfl)) (dss_cons (ds_set 11 nd rfl (by first | exact .inl rfl | exact .inr rfl) (de_fL 1 H_law_pick (hr.mono (by decide)) rfl tk (pv 1) (da_cons (de_op op_addA rd_add (de_fL 1 H_law_rows (hr.mono (by decide)) rfl tk (pv 1) (da_cons de_int (da_cons (de_callB call_len cd_len rfl (G.n "len" (by decide)) (by decide +kernel) (da_cons (de_var 3) da_nil)) (da_cons (de_var 4) da_nil)))) (de_var 5)) da_nil)))
    (dss_cons (ds_set 11 nd rfl (by first | exact .inl rfl | exact .inr rfl) (de_callTy call_tuple_of cd_tuple rfl (G.n "tuple" (by decide)) (by decide +kernel) (da_cons (de_lcF (own := [("_law_cell", 17)]) rfl nd (dic_of (di_seq (de_var 11))) (blkOk_by (show blkC ["_law_script", "_law_deal_here", "_law_turn", "_law_names", "_law_some", "_law_rows_here", "_law_table_here", "_law_all_rows", "_law_again", "_law_odd", "_law_told", "_law_row", "_law_k", "_law_column", "_law_other", "_law_due", "_law_thing", "_law_cell", "_law_one"] (defScope s_law) _ _ = true from by decide +kernel)) (by decide) (fun s H C cl fp => (dg_name 17 nd rfl (by first | exact .inl rfl | exact .inr rfl))) (fun s H C cl fp => dts_nil) (fun s H C cl fp => (de_fL 1 H_law_pick (hr.mono (by decide)) rfl DL.takes0 (pv 1) (da_cons (de_lst (da_cons (de_var 17) (da_cons (de_var 17) (da_cons (de_var 17) (da_cons de_non (da_cons (de_ix (de_var 4) de_int (fun _ _ => rfl)) da_nil)))))) da_nil)))) da_nil)))
    (dss_cons (ds_set 15 nd rfl (by first | exact .inl rfl | exact .inr rfl) (de_cmp (op_neL hu) rd_neL (de_lcF (own := [("_law_cell", 17)]) rfl nd (dic_of (di_seq (de_var 11))) (blkOk_by (show blkC ["_law_script", "_law_deal_here", "_law_turn", "_law_names", "_law_some", "_law_rows_here", "_law_table_here", "_law_all_rows", "_law_again", "_law_odd", "_law_told", "_law_row", "_law_k", "_law_column", "_law_other", "_law_due", "_law_thing", "_law_cell", "_law_one"] (defScope s_law) _ _ = true from by decide +kernel)) (by decide) (fun s H C cl fp => (dg_name 17 nd rfl (by first | exact .inl rfl | exact .inr rfl))) (fun s H C cl fp => (dts_one (dt_cmp op_notN rd_notN (de_var 17) de_non (nomark _)))) (fun s H C cl fp => (de_var 17))) (de_lst da_nil) (nomark _)))
    (dss_cons (ds_set 15 nd rfl (by first | exact .inl rfl | exact .inr rfl) (de_and (de_var 15) (de_one (de_cmp (op_neL hu) rd_neL (de_lcF (own := [("_law_one", 18)]) rfl nd (dic_of (di_seq (de_var 7))) (blkOk_by (show blkC ["_law_script", "_law_deal_here", "_law_turn", "_law_names", "_law_some", "_law_rows_here", "_law_table_here", "_law_all_rows", "_law_again", "_law_odd", "_law_told", "_law_row", "_law_k", "_law_column", "_law_other", "_law_due", "_law_thing", "_law_cell", "_law_one"] (defScope s_law) _ _ = true from by decide +kernel)) (by decide) (fun s H C cl fp => (dg_name 18 nd rfl (by first | exact .inl rfl | exact .inr rfl))) (fun s H C cl fp => (dts_one (dt_truth (de_f H_law_is_part (hr.mono (by decide)) rfl DL.takes0 (da_cons (de_var 11) (da_cons (de_var 18) da_nil)))))) (fun s H C cl fp => (de_var 18))) (de_lst da_nil) (nomark _)))))
    (dss_one (ds_if (DW.dt (dw_or (dt_cmp op_ne rd_neS (de_callB (call_reprD hgd hu) cd_repr rfl (G.n "repr" (by decide)) (by decide +kernel) (da_cons (de_cmp (op_inO (k := 5) (hr.mono (by decide))) (rd_inO M_con) (de_var 11) (de_var 6) (by rfl)) da_nil)) (de_callB (call_reprD hgd hu) cd_repr rfl (G.n "repr" (by decide)) (by decide +kernel) (da_cons (de_var 15) da_nil)) (nomark _)) (dw_or1 (dt_cmp op_ne rd_neS (de_callB (call_reprD hgd hu) cd_repr rfl (G.n "repr" (by decide)) (by decide +kernel) (da_cons (de_cmp (op_inO (k := 5) (hr.mono (by decide))) (rd_inO M_con) (de_callTy call_list_of cd_list rfl (G.n "list" (by decide)) (by decide +kernel) (da_cons (de_var 11) da_nil)) (de_var 6) (by rfl)) da_nil)) (de_callB (call_reprD hgd hu) cd_repr rfl (G.n "repr" (by decide)) (by decide +kernel) (da_cons (de_var 15) da_nil)) (nomark _))))) (dss_one ds_never) dss_nil)))))))
    (dss_cons (ds_set 9 nd rfl (by first | exact .inl rfl | exact .inr rfl) (de_lst (da_cons de_non (da_cons de_int (da_cons de_str (da_cons de_str (da_cons (de_tup da_nil) (da_cons (de_lst da_nil) (da_cons (de_op op_repA rd_repA (de_tup (da_cons de_non da_nil)) (de_callB call_len cd_len rfl (G.n "len" (by decide)) (by decide +kernel) (da_cons (de_var 3) da_nil))) (da_cons (de_op op_repA rd_repA (de_tup (da_cons (de_ix (de_var 4) de_int (fun _ _ => rfl)) da_nil)) (de_op op_addA rd_add (de_callB call_len cd_len rfl (G.n "len" (by decide)) (by decide +kernel) (da_cons (de_var 3) da_nil)) de_int)) (da_cons (de_var 6) (da_cons de_bl da_nil))))))))))))
    (dss_cons (ds_set 9 nd rfl (by first | exact .inl rfl | exact .inr rfl) (de_op op_addA rd_add (de_var 9) (de_lst (da_cons (de_op op_catA rd_catA (de_tup (da_cons de_str da_nil)) (de_op op_repA rd_repA (de_tup (da_cons de_non da_nil)) (de_op op_sub rd_sub (de_callB call_len cd_len rfl (G.n "len" (by decide)) (by decide +kernel) (da_cons (de_var 3) da_nil)) de_int))) (da_cons (de_op op_repA rd_repA (de_tup (da_cons de_int da_nil)) (de_callB call_len cd_len rfl (G.n "len" (by decide)) (by decide +kernel) (da_cons (de_var 3) da_nil))) (da_cons (de_op op_repA rd_repA (de_tup (da_cons (de_lst da_nil) da_nil)) (de_callB call_len cd_len rfl (G.n "len" (by decide)) (by decide +kernel) (da_cons (de_var 3) da_nil))) (da_cons (de_op op_mulS rd_mulS de_str (de_callB call_len cd_len rfl (G.n "len" (by decide)) (by decide +kernel) (da_cons (de_var 3) da_nil))) da_nil)))))))
    (dss_cons (ds_if (dt_cmp (op_neL hu) rd_neL (de_lcF (own := [("_law_thing", 16)]) rfl nd (dic_of (di_seq (de_var 9))) (blkOk_by (show blkC ["_law_script", "_law_deal_here", "_law_turn", "_law_names", "_law_some", "_law_rows_here", "_law_table_here", "_law_all_rows", "_law_again", "_law_odd", "_law_told", "_law_row", "_law_k", "_law_column", "_law_other", "_law_due", "_law_thing", "_law_cell", "_law_one"] (defScope s_law) _ _ = true from by decide +kernel)) (by decide) (fun s H C cl fp => (dg_name 16 nd rfl (by first | exact .inl rfl | exact .inr rfl))) (fun s H C cl fp => (dts_one (dt_cmp (op_inO (k := 5) (hr.mono (by decide))) (rd_inO M_con) (de_var 16) (de_var 6) (by rfl)))) (fun s H C cl fp => (de_var 16))) (de_lst da_nil) (nomark _)) (dss_one ds_never) dss_nil)
    (dss_cons (ds_own 10 nd rfl (by first | exact .inl rfl | exact .inr rfl) (oe_lst da_nil))
    (dss_cons (ds_for (passes_of rfl) rfl (di_seq (de_var 7)) (dg_name 11 nd rfl (by first | exact .inl rfl | exact .inr rfl)) (dss_one (ds_extO 10 (pv 10) (de_lcF (own := [("_law_cell", 17)]) rfl nd (dic_of (di_seq (de_var 11))) (blkOk_by (show blkC ["_law_script", "_law_deal_here", "_law_turn", "_law_names", "_law_some", "_law_rows_here", "_law_table_here", "_law_all_rows", "_law_again", "_law_odd", "_law_told", "_law_row", "_law_k", "_law_column", "_law_other", "_law_due", "_law_thing", "_law_cell", "_law_one"] (defScope s_law) _ _ = true from by decide +kernel)) (by decide) (fun s H C cl fp => (dg_name 17 nd rfl (by first | exact .inl rfl | exact .inr rfl))) (fun s H C cl fp => (dts_one (dt_cmp op_notN rd_notN (de_var 17) de_non (nomark _)))) (fun s H C cl fp => (de_callTy call_strP cd_strP rfl (G.n "str" (by decide)) (by decide +kernel) (da_cons (de_var 17) da_nil)))))))
    (dss_cons (ds_pub 10 (ds_set 10 nd rfl (by first | exact .inl rfl | exact .inr rfl) (de_sortT rfl hu rfl (G.n "sorted" (by decide)) rfl (G.n "set" (by decide)) (de_var 10))))
    (dss_cons (ds_if (dt_cmp op_ne rd_neS (de_callB (call_reprD hgd hu) cd_repr rfl (G.n "repr" (by decide)) (by decide +kernel) (da_cons (de_prop P_texts (hr.mono (by decide)) (de_var 6)) da_nil)) (de_callB (call_reprD hgd hu) cd_repr rfl (G.n "repr" (by decide)) (by decide +kernel) (da_cons (de_callTy call_tuple_of cd_tuple rfl (G.n "tuple" (by decide)) (by decide +kernel) (da_cons (de_var 10) da_nil)) da_nil)) (nomark _)) (dss_one ds_never) dss_nil)
    (dss_cons (ds_for (passes_of rfl) rfl (di_enumA rfl (G.n "enumerate" (by decide)) (de_var 3)) (dg_tup rfl (dgs_cons (dg_name 12 nd rfl (by first | exact .inl rfl | exact .inr rfl)) (dgs_cons (dg_name 13 nd rfl (by first | exact .inl rfl | exact .inr rfl)) dgs_nil))) (dss_cons (ds_set 10 nd rfl (by first | exact .inl rfl | exact .inr rfl) (de_sortT rfl hu rfl (G.n "sorted" (by decide)) rfl (G.n "set" (by decide)) (de_lcF (own := [("_law_row", 11)]) rfl nd (dic_of (di_seq (de_var 7))) (blkOk_by (show blkC ["_law_script", "_law_deal_here", "_law_turn", "_law_names", "_law_some", "_law_rows_here", "_law_table_here", "_law_all_rows", "_law_again", "_law_odd", "_law_told", "_law_row", "_law_k", "_law_column", "_law_other", "_law_due", "_law_thing", "_law_cell", "_law_one"] (defScope s_law) _ _ = true from by decide +kernel)) (by decide) (fun s H C cl fp => (dg_name 11 nd rfl (by first | exact .inl rfl | exact .inr rfl))) (fun s H C cl fp => (dts_one (dt_cmp op_notN rd_notN (de_ix (de_var 11) (de_var 12) (fun _ _ => rfl)) de_non (nomark _)))) (fun s H C cl fp => (de_callTy call_strP cd_strP rfl (G.n "str" (by decide)) (by decide +kernel) (da_cons (de_ix (de_var 11) (de_var 12) (fun _ _ => rfl)) da_nil))))))
    (dss_one (ds_if (dt_cmp op_ne rd_neS (de_callB (call_reprD hgd hu) cd_repr rfl (G.n "repr" (by decide)) (by decide +kernel) (da_cons (de_f H_law_under (hr.mono (by decide)) rfl tk (da_cons (de_var 6) (da_cons (de_var 13) da_nil))) da_nil)) (de_callB (call_reprD hgd hu) cd_repr rfl (G.n "repr" (by decide)) (by decide +kernel) (da_cons (de_callTy call_tuple_of cd_tuple rfl (G.n "tuple" (by decide)) (by decide +kernel) (da_cons (de_var 10) da_nil)) da_nil)) (nomark _)) (dss_one ds_never) dss_nil))))
    (dss_one (ds_for (passes_of rfl) rfl (di_seq (de_tup (da_cons de_str (da_cons de_str (da_cons (de_op op_addA rd_add (de_ix (de_var 3) de_int (fun _ _ => rfl)) de_str) (da_cons de_str (da_cons de_str da_nil))))))) (dg_name 14 nd rfl (by first | exact .inl rfl | exact .inr rfl)) (dss_one (ds_if (DW.dt (dw_and (dt_cmp op_notInA rd_in (de_var 14) (de_var 3) (by rfl)) (dw_and1 (dt_cmp (op_neD hu) rd_ne (de_f H_law_under (hr.mono (by decide)) rfl tk (da_cons (de_var 6) (da_cons (de_var 14) da_nil))) (de_tup (da_cons de_str (da_cons (de_var 14) (da_cons de_bl (da_cons de_bl da_nil))))) (nomark _))))) (dss_one ds_never) dss_nil))))))))))))))))))
    (dss_one (ds_ret de_bl))), ?_, ?_⟩
  · intro ns hl
    refine ms_at (e := [.dat (.scr (intsD ns)), .un, .un, .un, .un, .un, .un, .un, .un, .un, .un, .un, .un, .un, .un, .un, .un, .un, .un]) rfl ?_
    dsimp only [msRet, msRetN, msSeq, msIf, msNext, msExpr, msSet, mtAnd, mtOr, mtNot, mTru, mB, mCB, mCall, maCons, maNil, mVar, mC, mOp, mChain, mIf, mAndV, mOrV, mNotV, mLst, mTup, mMS, gI0, gLen, gEq, gNe, gEqS, gNeS, gIn, gAll, gStrip, truD, start0, dn, mLc, miS, mgName, wipeD, mYes, lcD, List.map_cons, List.map_nil, List.replicate, List.cons_append, List.nil_append, List.getElem?_cons_zero, List.getElem?_cons_succ, List.getElem?_nil, List.append_nil, gLe, gLt, Bool.not_true, Bool.not_false, Bool.false_eq_true, reduceIte, mJoined, mJs, mFmt, maStar, gJoin, mFld, moSome, mSl, gIx, z5, mCallL, miZ, gEqL, gNeL, mIsiT, moNone, gSl, miR1, gAdd, List.set_cons_zero, List.set_cons_succ, decide_true, eq_self, mMake, gRep, gInt, msFor, gAbs, mRev, gGe, gMod, gPow, gI, msPub, mLend, msParOO, msAppPop, msAppO, gDraw, msPar, msPar3, msAsg, mgTup, mgCons, mgNil, DL.gSub, mNeg, gMin, gSl, gIsN, gNotN, gTuple, msOwn, mIsiT, mDc, miEnumA, gList, mMake, gNeO, gEqO, knownD, tyD, gRepr, mNotV, gGt, gStrP, mSortT, gInO, mProp, gCatA, gRepA, gMulS, mSlT]
    exact ⟨rfl, ns, hl, rfl, fun ms m h1 h2 h3 h4 => ⟨rfl, ms, m, h1, h2, h3, h4, rfl⟩⟩
  · refine ms_at (e := [.un, .deal, .un, .un, .un, .un, .un, .un, .un, .un, .un, .un, .un, .un, .un, .un, .un, .un, .un]) rfl ?_
    refine seq_st fun R0 hR0 => ?_
    refine ⟨by decide, by decide, ?_⟩
    refine forD_inv (fun δ => ∃ s2 s3 s4 s5 s6 s7 s8 s9 s10 s11 s12 s13 s14 s15 s16 s17 s18, δ = [.un, .deal, s2, s3, s4, s5, s6, s7, s8, s9, s10, s11, s12, s13, s14, s15, s16, s17, s18]) _ _ (fun d hd δ i k1 q1 => ?_) ⟨_, _, _, _, _, _, _, _, _, _, _, _, _, _, _, _, _, rfl⟩ (fun δ i => hR0 _ ?_)
    · obtain ⟨s2, s3, s4, s5, s6, s7, s8, s9, s10, s11, s12, s13, s14, s15, s16, s17, s18, rfl⟩ := i
      refine ms_at (e := [.un, .deal, .dat d, s3, s4, s5, s6, s7, s8, s9, s10, s11, s12, s13, s14, s15, s16, s17, s18]) rfl ?_
      refine seq_st fun R hR => ?_
      dsimp only [msRet, msRetN, msSeq, msIf, msNext, msExpr, msSet, mtAnd, mtOr, mtNot, mTru, mB, mCB, mCall, maCons, maNil, mVar, mC, mOp, mChain, mIf, mAndV, mOrV, mNotV, mLst, mTup, mMS, gI0, gLen, gEq, gNe, gEqS, gNeS, gIn, gAll, gStrip, truD, start0, dn, mLc, miS, mgName, wipeD, mYes, lcD, List.map_cons, List.map_nil, List.replicate, List.cons_append, List.nil_append, List.getElem?_cons_zero, List.getElem?_cons_succ, List.getElem?_nil, List.append_nil, gLe, gLt, Bool.not_true, Bool.not_false, Bool.false_eq_true, reduceIte, mJoined, mJs, mFmt, maStar, gJoin, mFld, moSome, mSl, gIx, z5, mCallL, miZ, gEqL, gNeL, mIsiT, moNone, gSl, miR1, gAdd, List.set_cons_zero, List.set_cons_succ, decide_true, eq_self, mMake, gRep, gInt, msFor, gAbs, mRev, gGe, gMod, gPow, gI, msPub, mLend, msParOO, msAppPop, msAppO, gDraw, msPar, msPar3, msAsg, mgTup, mgCons, mgNil, DL.gSub, mNeg, gMin, gSl, gIsN, gNotN, gTuple, msOwn, mIsiT, mDc, miEnumA, gList, mMake, gNeO, gEqO, knownD, tyD, gRepr, mNotV, gGt, gStrP, mSortT, gInO, mProp, gCatA, gRepA, gMulS, mSlT]
      refine ⟨trivial, trivial, rfl, 5, rfl, by decide, by decide, fun r r0 r1 => ⟨rfl, 1 + r, rfl, by omega, by omega, fun cs hcs => ?_⟩⟩
      refine ⟨trivial, trivial, rfl, 5, rfl, by decide, by decide, fun t t0 t1 => ⟨rfl, (1 + t).toNat, by rw [Int.toNat_of_nonneg (by omega)], by omega, fun ts hts => ?_⟩⟩
      have nm : NmOk cs := cols_nm hcs (by omega) (by omega)
      have c5 : cs.length ≤ 5 := by rw [hcs.1]; omega
      have c1 : 1 ≤ cs.length := nm.one
      have tx : ∀ x ∈ ts, TxtOk x := fun x m => pool_txt (hts.2 x m)
      have tn : ts ≠ [] := fun z => by
        have := hts.1
        rw [z] at this
        simp at this
        omega
      have t6 : ts.length ≤ 6 := by rw [hts.1]; omega
      obtain ⟨t0, ts2, rfl⟩ : ∃ t0 ts2, ts = t0 :: ts2 := by
        cases ts with
        | nil => exact absurd rfl tn
        | cons a b => exact ⟨a, b, rfl⟩
      have ht0 := tx t0 (List.mem_cons_self ..)
      refine ⟨(show 2 ≤ sizeLine from by decide), rfl, hR _ ?_⟩
      clear hR
      refine seq_st fun R hR => ?_
      dsimp only [msRet, msRetN, msSeq, msIf, msNext, msExpr, msSet, mtAnd, mtOr, mtNot, mTru, mB, mCB, mCall, maCons, maNil, mVar, mC, mOp, mChain, mIf, mAndV, mOrV, mNotV, mLst, mTup, mMS, gI0, gLen, gEq, gNe, gEqS, gNeS, gIn, gAll, gStrip, truD, start0, dn, mLc, miS, mgName, wipeD, mYes, lcD, List.map_cons, List.map_nil, List.replicate, List.cons_append, List.nil_append, List.getElem?_cons_zero, List.getElem?_cons_succ, List.getElem?_nil, List.append_nil, gLe, gLt, Bool.not_true, Bool.not_false, Bool.false_eq_true, reduceIte, mJoined, mJs, mFmt, maStar, gJoin, mFld, moSome, mSl, gIx, z5, mCallL, miZ, gEqL, gNeL, mIsiT, moNone, gSl, miR1, gAdd, List.set_cons_zero, List.set_cons_succ, decide_true, eq_self, mMake, gRep, gInt, msFor, gAbs, mRev, gGe, gMod, gPow, gI, msPub, mLend, msParOO, msAppPop, msAppO, gDraw, msPar, msPar3, msAsg, mgTup, mgCons, mgNil, DL.gSub, mNeg, gMin, gSl, gIsN, gNotN, gTuple, msOwn, mIsiT, mDc, miEnumA, gList, mMake, gNeO, gEqO, knownD, tyD, gRepr, mNotV, gGt, gStrP, mSortT, gInO, mProp, gCatA, gRepA, gMulS, mSlT]
      refine ⟨trivial, rfl, cs, t0 :: ts2, rfl, by omega, tn, t6, tx, fun rs hl hrs => ?_⟩
      refine hR _ ?_
      clear hR
      refine seq_st fun R hR => ?_
      dsimp only [msRet, msRetN, msSeq, msIf, msNext, msExpr, msSet, mtAnd, mtOr, mtNot, mTru, mB, mCB, mCall, maCons, maNil, mVar, mC, mOp, mChain, mIf, mAndV, mOrV, mNotV, mLst, mTup, mMS, gI0, gLen, gEq, gNe, gEqS, gNeS, gIn, gAll, gStrip, truD, start0, dn, mLc, miS, mgName, wipeD, mYes, lcD, List.map_cons, List.map_nil, List.replicate, List.cons_append, List.nil_append, List.getElem?_cons_zero, List.getElem?_cons_succ, List.getElem?_nil, List.append_nil, gLe, gLt, Bool.not_true, Bool.not_false, Bool.false_eq_true, reduceIte, mJoined, mJs, mFmt, maStar, gJoin, mFld, moSome, mSl, gIx, z5, mCallL, miZ, gEqL, gNeL, mIsiT, moNone, gSl, miR1, gAdd, List.set_cons_zero, List.set_cons_succ, decide_true, eq_self, mMake, gRep, gInt, msFor, gAbs, mRev, gGe, gMod, gPow, gI, msPub, mLend, msParOO, msAppPop, msAppO, gDraw, msPar, msPar3, msAsg, mgTup, mgCons, mgNil, DL.gSub, mNeg, gMin, gSl, gIsN, gNotN, gTuple, msOwn, mIsiT, mDc, miEnumA, gList, mMake, gNeO, gEqO, knownD, tyD, gRepr, mNotV, gGt, gStrP, mSortT, gInO, mProp, gCatA, gRepA, gMulS, mSlT, strsL]
      refine ⟨trivial, rfl, rs, cs.length, congrArg (fun k : Nat => [D.lst (rs.map rowD), D.int k]) (List.length_map ..), c1, by omega, by omega, hrs, fun ss sl hss => ?_⟩
      refine hR _ ?_
      clear hR
      have few : ss.length ≤ 10 := by omega
      clear hrs
      refine seq_st fun R hR => ?_
      dsimp only [msRet, msRetN, msSeq, msIf, msNext, msExpr, msSet, mtAnd, mtOr, mtNot, mTru, mB, mCB, mCall, maCons, maNil, mVar, mC, mOp, mChain, mIf, mAndV, mOrV, mNotV, mLst, mTup, mMS, gI0, gLen, gEq, gNe, gEqS, gNeS, gIn, gAll, gStrip, truD, start0, dn, mLc, miS, mgName, wipeD, mYes, lcD, List.map_cons, List.map_nil, List.replicate, List.cons_append, List.nil_append, List.getElem?_cons_zero, List.getElem?_cons_succ, List.getElem?_nil, List.append_nil, gLe, gLt, Bool.not_true, Bool.not_false, Bool.false_eq_true, reduceIte, mJoined, mJs, mFmt, maStar, gJoin, mFld, moSome, mSl, gIx, z5, mCallL, miZ, gEqL, gNeL, mIsiT, moNone, gSl, miR1, gAdd, List.set_cons_zero, List.set_cons_succ, decide_true, eq_self, mMake, gRep, gInt, msFor, gAbs, mRev, gGe, gMod, gPow, gI, msPub, mLend, msParOO, msAppPop, msAppO, gDraw, msPar, msPar3, msAsg, mgTup, mgCons, mgNil, DL.gSub, mNeg, gMin, gSl, gIsN, gNotN, gTuple, msOwn, mIsiT, mDc, miEnumA, gList, mMake, gNeO, gEqO, knownD, tyD, gRepr, mNotV, gGt, gStrP, mSortT, gInO, mProp, gCatA, gRepA, gMulS, mSlT]
      refine ⟨rfl, mk_tab nm (by omega) hss fun f0 out nf ho => ?_⟩
      refine ⟨rfl, ss, cs.length, rfl, by omega, by omega, hss, fun out2 ho2 => ?_⟩
      have e2 : out2 = out := ho2.same hss ho
      subst e2
      have tb : TbN f0 cs out2 := ⟨nf, nm, by omega, Nat.le_trans (canon_len ho) (by omega), canon_sub hss ho⟩
      refine ⟨(show 2 ≤ sizeLine from by decide), rfl, hR _ ?_⟩
      clear hR
      refine ms_at (ms := fun δ k => msSeq _ _ δ k) (e := [.un, .deal, .dat d, .dat (strsL cs), .dat (strsL (t0 :: ts2)), .dat (.lst (ss.map rowD)), .dat (tabE K f0 out2), .dat (.tup (out2.map rowD)), s8, s9, s10, s11, s12, s13, s14, s15, s16, s17, s18]) rfl ?_
      refine seq_st fun R hR => ?_
      have rest : ∀ x8 x11 x15, R [.un, .deal, .dat d, .dat (strsL cs), .dat (strsL (t0 :: ts2)), .dat (.lst (ss.map rowD)), .dat (tabE K f0 out2), .dat (.tup (out2.map rowD)), x8, s9, s10, x11, s12, s13, s14, x15, s16, s17, s18] := fun x8 x11 x15 => hR _ (by
        clear hR
        refine seq_st fun R hR => ?_
        dsimp only [msRet, msRetN, msSeq, msIf, msNext, msExpr, msSet, mtAnd, mtOr, mtNot, mTru, mB, mCB, mCall, maCons, maNil, mVar, mC, mOp, mChain, mIf, mAndV, mOrV, mNotV, mLst, mTup, mMS, gI0, gLen, gEq, gNe, gEqS, gNeS, gIn, gAll, gStrip, truD, start0, dn, mLc, miS, mgName, wipeD, mYes, lcD, List.map_cons, List.map_nil, List.replicate, List.cons_append, List.nil_append, List.getElem?_cons_zero, List.getElem?_cons_succ, List.getElem?_nil, List.append_nil, gLe, gLt, Bool.not_true, Bool.not_false, Bool.false_eq_true, reduceIte, mJoined, mJs, mFmt, maStar, gJoin, mFld, moSome, mSl, gIx, z5, mCallL, miZ, gEqL, gNeL, mIsiT, moNone, gSl, miR1, gAdd, List.set_cons_zero, List.set_cons_succ, decide_true, eq_self, mMake, gRep, gInt, msFor, gAbs, mRev, gGe, gMod, gPow, gI, msPub, mLend, msParOO, msAppPop, msAppO, gDraw, msPar, msPar3, msAsg, mgTup, mgCons, mgNil, DL.gSub, mNeg, gMin, gSl, gIsN, gNotN, gTuple, msOwn, mIsiT, mDc, miEnumA, gList, mMake, gNeO, gEqO, knownD, tyD, gRepr, mNotV, gGt, gStrP, mSortT, gInO, mProp, gCatA, gRepA, gMulS, mSlT, strsL]
        refine ⟨Nat.zero_le _, Nat.zero_le _, (show 1 ≤ sizeLine by decide), [.non], (cs.length : Nat), rfl, by rw [List.length_map], (fun z => nomatch z), by omega, by omega, by decide, ?_⟩
        refine ⟨D.str t0, at_zero, (show 1 ≤ sizeLine by decide), [.str t0], (cs.length : Nat) + 1, rfl, by rw [List.length_map], (fun z => nomatch z), by omega, by omega, (show 1 ≤ 1000 by decide), (show 10 ≤ sizeLine by decide), ?_⟩
        refine hR _ ?_
        clear hR
        refine ms_at (ms := fun δ k => msSeq _ _ δ k) (e := [.un, .deal, .dat d, .dat (strsL cs), .dat (strsL (t0 :: ts2)), .dat (.lst (ss.map rowD)), .dat (tabE K f0 out2), .dat (.tup (out2.map rowD)), x8, .dat (.lst (oddsA (tabE K f0 out2) cs.length t0)), s10, x11, s12, s13, s14, x15, s16, s17, s18]) rfl ?_
        refine seq_st fun R hR => ?_
        dsimp only [msRet, msRetN, msSeq, msIf, msNext, msExpr, msSet, mtAnd, mtOr, mtNot, mTru, mB, mCB, mCall, maCons, maNil, mVar, mC, mOp, mChain, mIf, mAndV, mOrV, mNotV, mLst, mTup, mMS, gI0, gLen, gEq, gNe, gEqS, gNeS, gIn, gAll, gStrip, truD, start0, dn, mLc, miS, mgName, wipeD, mYes, lcD, List.map_cons, List.map_nil, List.replicate, List.cons_append, List.nil_append, List.getElem?_cons_zero, List.getElem?_cons_succ, List.getElem?_nil, List.append_nil, gLe, gLt, Bool.not_true, Bool.not_false, Bool.false_eq_true, reduceIte, mJoined, mJs, mFmt, maStar, gJoin, mFld, moSome, mSl, gIx, z5, mCallL, miZ, gEqL, gNeL, mIsiT, moNone, gSl, miR1, gAdd, List.set_cons_zero, List.set_cons_succ, decide_true, eq_self, mMake, gRep, gInt, msFor, gAbs, mRev, gGe, gMod, gPow, gI, msPub, mLend, msParOO, msAppPop, msAppO, gDraw, msPar, msPar3, msAsg, mgTup, mgCons, mgNil, DL.gSub, mNeg, gMin, gSl, gIsN, gNotN, gTuple, msOwn, mIsiT, mDc, miEnumA, gList, mMake, gNeO, gEqO, knownD, tyD, gRepr, mNotV, gGt, gStrP, mSortT, gInO, mProp, gCatA, gRepA, gMulS, mSlT, strsL]
        refine ⟨(show 1 ≤ sizeLine by decide), (show 1 ≤ sizeLine by decide), [.non], (cs.length : Nat) - 1, rfl, by rw [List.length_map], (fun z => nomatch z), by omega, by omega, (show 1 ≤ 1000 by decide), _, _, rfl, rfl, ?_, ?_⟩
        · rw [List.flatten_replicate_singleton, List.length_replicate]
          exact Nat.le_trans (show 1 + ((cs.length : Int) - 1).toNat ≤ 10 by omega) (by decide)
        refine ⟨(show 1 ≤ sizeLine by decide), [.int 3], (cs.length : Nat), rfl, by rw [List.length_map], (fun z => nomatch z), by omega, by omega, (show 1 ≤ 1000 by decide), Nat.zero_le _, (show 1 ≤ sizeLine by decide), [.lst []], (cs.length : Nat), rfl, by rw [List.length_map], (fun z => nomatch z), by omega, by omega, (show 1 ≤ 1000 by decide), ?_⟩
        refine ⟨"x", (cs.length : Nat), rfl, by rw [List.length_map], mulok _ c5, (show 4 ≤ sizeLine by decide), (show 14 ≤ sizeLine by decide), ?_⟩
        refine hR _ ?_
        clear hR
        refine ms_at (ms := fun δ k => msSeq _ _ δ k) (e := [.un, .deal, .dat d, .dat (strsL cs), .dat (strsL (t0 :: ts2)), .dat (.lst (ss.map rowD)), .dat (tabE K f0 out2), .dat (.tup (out2.map rowD)), x8, .dat (.lst (oddsA (tabE K f0 out2) cs.length t0 ++ oddsB cs.length)), s10, x11, s12, s13, s14, x15, s16, s17, s18]) rfl ?_
        have odds := odd_ok (K := K) (f0 := f0) (out := out2) c1 c5 ht0
        have oddl : (oddsA (tabE K f0 out2) cs.length t0 ++ oddsB cs.length).length < sizeLine := (show 14 < sizeLine by decide)
        generalize oddsA (tabE K f0 out2) cs.length t0 ++ oddsB cs.length = od at odds oddl
        refine seq_st fun R hR => ?_
        dsimp only [msRet, msRetN, msSeq, msIf, msNext, msExpr, msSet, mtAnd, mtOr, mtNot, mTru, mB, mCB, mCall, maCons, maNil, mVar, mC, mOp, mChain, mIf, mAndV, mOrV, mNotV, mLst, mTup, mMS, gI0, gLen, gEq, gNe, gEqS, gNeS, gIn, gAll, gStrip, truD, start0, dn, mLc, miS, mgName, wipeD, mYes, List.map_cons, List.map_nil, List.replicate, List.cons_append, List.nil_append, List.getElem?_cons_zero, List.getElem?_cons_succ, List.getElem?_nil, List.append_nil, gLe, gLt, Bool.not_true, Bool.not_false, Bool.false_eq_true, reduceIte, mJoined, mJs, mFmt, maStar, gJoin, mFld, moSome, mSl, gIx, z5, mCallL, miZ, gEqL, gNeL, mIsiT, moNone, gSl, miR1, gAdd, List.set_cons_zero, List.set_cons_succ, decide_true, eq_self, mMake, gRep, gInt, msFor, gAbs, mRev, gGe, gMod, gPow, gI, msPub, mLend, msParOO, msAppPop, msAppO, gDraw, msPar, msPar3, msAsg, mgTup, mgCons, mgNil, DL.gSub, mNeg, gMin, gSl, gIsN, gNotN, gTuple, msOwn, mIsiT, mDc, miEnumA, gList, mMake, gNeO, gEqO, knownD, tyD, gRepr, mNotV, gGt, gStrP, mSortT, gInO, mProp, gCatA, gRepA, gMulS, mSlT, tabE]
        refine ⟨od, rfl, oddl, lcD_if (p := fun _ => false) (f := fun d => d) _ (fun e me F' q => ?_) (fun e me _ F' q => q) ?_⟩
        · obtain ⟨v, ni⟩ := odds e me
          refine ⟨rfl, f0, cs, out2, e, rfl, tb, v, fun b hb => ⟨⟨_, rfl⟩, ?_⟩⟩
          have eb : b = false := Bool.eq_false_iff.mpr fun z => ni (hb.mp z)
          rw [eb]
          exact q
        rw [List.filter_eq_nil_iff.mpr (fun _ _ => Bool.false_ne_true), List.map_nil]
        refine ⟨Nat.zero_le _, iteF (hR _ ?_)⟩
        clear hR oddl odds
        generalize (Sl.dat (.lst od)) = t9
        refine ms_at (ms := fun δ k => msSeq _ _ δ k) (e := [.un, .deal, .dat d, .dat (strsL cs), .dat (strsL (t0 :: ts2)), .dat (.lst (ss.map rowD)), .dat (tabE K f0 out2), .dat (.tup (out2.map rowD)), x8, t9, s10, x11, s12, s13, s14, x15, s16, s17, s18]) rfl ?_
        refine seq_st fun R hR => ?_
        dsimp only [msRet, msRetN, msSeq, msIf, msNext, msExpr, msSet, mtAnd, mtOr, mtNot, mTru, mB, mCB, mCall, maCons, maNil, mVar, mC, mOp, mChain, mIf, mAndV, mOrV, mNotV, mLst, mTup, mMS, gI0, gLen, gEq, gNe, gEqS, gNeS, gIn, gAll, gStrip, truD, start0, dn, mLc, miS, mgName, wipeD, mYes, lcD, List.map_cons, List.map_nil, List.replicate, List.cons_append, List.nil_append, List.getElem?_cons_zero, List.getElem?_cons_succ, List.getElem?_nil, List.append_nil, gLe, gLt, Bool.not_true, Bool.not_false, Bool.false_eq_true, reduceIte, mJoined, mJs, mFmt, maStar, gJoin, mFld, moSome, mSl, gIx, z5, mCallL, miZ, gEqL, gNeL, mIsiT, moNone, gSl, miR1, gAdd, List.set_cons_zero, List.set_cons_succ, decide_true, eq_self, mMake, gRep, gInt, msFor, gAbs, mRev, gGe, gMod, gPow, gI, msPub, mLend, msParOO, msAppPop, msAppO, gDraw, msPar, msPar3, msAsg, mgTup, mgCons, mgNil, DL.gSub, mNeg, gMin, gSl, gIsN, gNotN, gTuple, msOwn, mIsiT, mDc, miEnumA, gList, mMake, gNeO, gEqO, knownD, tyD, gRepr, mNotV, gGt, gStrP, mSortT, gInO, mProp, gCatA, gRepA, gMulS, mSlT]
        refine ⟨Nat.zero_le _, hR _ ?_⟩
        clear hR
        refine seq_st fun R hR => ?_
        dsimp only [msRet, msRetN, msSeq, msIf, msNext, msExpr, msSet, mtAnd, mtOr, mtNot, mTru, mB, mCB, mCall, maCons, maNil, mVar, mC, mOp, mChain, mIf, mAndV, mOrV, mNotV, mLst, mTup, mMS, gI0, gLen, gEq, gNe, gEqS, gNeS, gIn, gAll, gStrip, truD, start0, dn, mLc, miS, mgName, wipeD, mYes, lcD, List.map_cons, List.map_nil, List.replicate, List.cons_append, List.nil_append, List.getElem?_cons_zero, List.getElem?_cons_succ, List.getElem?_nil, List.append_nil, gLe, gLt, Bool.not_true, Bool.not_false, Bool.false_eq_true, reduceIte, mJoined, mJs, mFmt, maStar, gJoin, mFld, moSome, mSl, gIx, z5, mCallL, miZ, gEqL, gNeL, mIsiT, moNone, gSl, miR1, gAdd, List.set_cons_zero, List.set_cons_succ, decide_true, eq_self, mMake, gRep, gInt, msFor, gAbs, mRev, gGe, gMod, gPow, gI, msPub, mLend, msParOO, msAppPop, msAppO, gDraw, msPar, msPar3, msAsg, mgTup, mgCons, mgNil, DL.gSub, mNeg, gMin, gSl, gIsN, gNotN, gTuple, msOwn, mIsiT, mDc, miEnumA, gList, mMake, gNeO, gEqO, knownD, tyD, gRepr, mNotV, gGt, gStrP, mSortT, gInO, mProp, gCatA, gRepA, gMulS, mSlT, msExtO]
        have o6 : ∀ r ∈ out2, r.length ≤ 6 := fun r mr => by rw [(tb.rw_ r mr).1]; omega
        have fl : (out2.flatMap textsL).length ≤ 72 := Nat.le_trans (flat_len o6) (Nat.mul_le_mul_right 6 tb.few)
        refine ⟨_, rfl, ?_⟩
        refine forD_map rowD (fun done δ => ∃ y11, δ = [.un, .deal, .dat d, .dat (strsL cs), .dat (strsL (t0 :: ts2)), .dat (.lst (ss.map rowD)), .dat (tabE K f0 out2), .dat (.tup (out2.map rowD)), x8, t9, .own ((done.flatMap textsL).map D.str), y11, s12, s13, s14, x15, s16, s17, s18]) out2 out2 [] _ rfl (fun s pre rest δ eo i k' nx _ _ => ?_) ⟨_, rfl⟩ (fun δ i => ?_)
        · obtain ⟨y11, rfl⟩ := i
          have mem : ∀ r ∈ pre, r ∈ out2 := fun r m => by rw [← eo]; exact List.mem_append_left _ m
          have ms : s ∈ out2 := by rw [← eo]; simp
          have pl : pre.length ≤ 12 := by
            have e := congrArg List.length eo
            rw [List.length_append, List.length_cons] at e
            have := tb.few
            omega
          have l1 : (pre.flatMap textsL).length ≤ 72 := Nat.le_trans (flat_len fun r m => o6 r (mem r m)) (Nat.mul_le_mul_right 6 pl)
          dsimp only [msRet, msRetN, msSeq, msIf, msNext, msExpr, msSet, mtAnd, mtOr, mtNot, mTru, mB, mCB, mCall, maCons, maNil, mVar, mC, mOp, mChain, mIf, mAndV, mOrV, mNotV, mLst, mTup, mMS, gI0, gLen, gEq, gNe, gEqS, gNeS, gIn, gAll, gStrip, truD, start0, dn, mLc, miS, mgName, wipeD, mYes, List.map_cons, List.map_nil, List.replicate, List.cons_append, List.nil_append, List.getElem?_cons_zero, List.getElem?_cons_succ, List.getElem?_nil, List.append_nil, gLe, gLt, Bool.not_true, Bool.not_false, Bool.false_eq_true, reduceIte, mJoined, mJs, mFmt, maStar, gJoin, mFld, moSome, mSl, gIx, z5, mCallL, miZ, gEqL, gNeL, mIsiT, moNone, gSl, miR1, gAdd, List.set_cons_zero, List.set_cons_succ, decide_true, eq_self, mMake, gRep, gInt, msFor, gAbs, mRev, gGe, gMod, gPow, gI, msPub, mLend, msParOO, msAppPop, msAppO, gDraw, msPar, msPar3, msAsg, mgTup, mgCons, mgNil, DL.gSub, mNeg, gMin, gSl, gIsN, gNotN, gTuple, msOwn, mIsiT, mDc, miEnumA, gList, mMake, gNeO, gEqO, knownD, tyD, gRepr, mNotV, gGt, gStrP, mSortT, gInO, mProp, gCatA, gRepA, gMulS, mSlT, msExtO, rowD]
          refine ⟨_, rfl, by rw [List.length_map]; exact Nat.lt_of_le_of_lt (o6 s ms) (by decide), lcD_if (p := fun d => !DL.isNon d) (f := fun d => d) _ (fun e me F' q => ?_) (fun e me hp F' q => ?_) ?_⟩
          · obtain ⟨c, mc, rfl⟩ := List.mem_map.mp me
            cases c with
            | none => exact ⟨(fun v e => nomatch e), q⟩
            | some x => exact ⟨(fun v e => nomatch e), q⟩
          · obtain ⟨c, mc, rfl⟩ := List.mem_map.mp me
            cases c with
            | none => cases hp
            | some x => exact q
          · rw [List.map_id', texts_cells]
            have l2 := texts_len s
            have l3 := o6 s ms
            refine ⟨?_, nx _ ⟨.dat (rowD s), ?_⟩⟩
            · rw [List.length_map, List.length_map]
              exact Nat.le_trans (show (pre.flatMap textsL).length + (textsL s).length ≤ 78 by omega) (by decide)
            · rw [List.flatMap_append, List.map_append, List.flatMap_cons, List.flatMap_nil, List.append_nil]
              rfl
        obtain ⟨y11, rfl⟩ := i
        refine hR _ ?_
        clear hR
        refine seq_st fun R hR => ?_
        dsimp only [msRet, msRetN, msSeq, msIf, msNext, msExpr, msSet, mtAnd, mtOr, mtNot, mTru, mB, mCB, mCall, maCons, maNil, mVar, mC, mOp, mChain, mIf, mAndV, mOrV, mNotV, mLst, mTup, mMS, gI0, gLen, gEq, gNe, gEqS, gNeS, gIn, gAll, gStrip, truD, start0, dn, mLc, miS, mgName, wipeD, mYes, lcD, List.map_cons, List.map_nil, List.replicate, List.cons_append, List.nil_append, List.getElem?_cons_zero, List.getElem?_cons_succ, List.getElem?_nil, List.append_nil, gLe, gLt, Bool.not_true, Bool.not_false, Bool.false_eq_true, reduceIte, mJoined, mJs, mFmt, maStar, gJoin, mFld, moSome, mSl, gIx, z5, mCallL, miZ, gEqL, gNeL, mIsiT, moNone, gSl, miR1, gAdd, List.set_cons_zero, List.set_cons_succ, decide_true, eq_self, mMake, gRep, gInt, msFor, gAbs, mRev, gGe, gMod, gPow, gI, msPub, mLend, msParOO, msAppPop, msAppO, gDraw, msPar, msPar3, msAsg, mgTup, mgCons, mgNil, DL.gSub, mNeg, gMin, gSl, gIsN, gNotN, gTuple, msOwn, mIsiT, mDc, miEnumA, gList, mMake, gNeO, gEqO, knownD, tyD, gRepr, mNotV, gGt, gStrP, mSortT, gInO, mProp, gCatA, gRepA, gMulS, mSlT]
        refine ⟨_, out2.flatMap textsL, rfl, rfl, Nat.lt_of_le_of_lt (show _ ≤ 73 by omega) (by decide), fun zs nd up0 up => hR _ ?_⟩
        clear hR
        have uz : UpT out2.flatten zs := ⟨nd, fun x => (up0 x).trans mem_flat, up⟩
        refine ms_at (ms := fun δ k => msSeq _ _ δ k) (e := [.un, .deal, .dat d, .dat (strsL cs), .dat (strsL (t0 :: ts2)), .dat (.lst (ss.map rowD)), .dat (tabE K f0 out2), .dat (.tup (out2.map rowD)), x8, t9, .dat (.lst (zs.map D.str)), y11, s12, s13, s14, x15, s16, s17, s18]) rfl ?_
        refine seq_st fun R hR => ?_
        dsimp only [msRet, msRetN, msSeq, msIf, msNext, msExpr, msSet, mtAnd, mtOr, mtNot, mTru, mB, mCB, mCall, maCons, maNil, mVar, mC, mOp, mChain, mIf, mAndV, mOrV, mNotV, mLst, mTup, mMS, gI0, gLen, gEq, gNe, gEqS, gNeS, gIn, gAll, gStrip, truD, start0, dn, mLc, miS, mgName, wipeD, mYes, lcD, List.map_cons, List.map_nil, List.replicate, List.cons_append, List.nil_append, List.getElem?_cons_zero, List.getElem?_cons_succ, List.getElem?_nil, List.append_nil, gLe, gLt, Bool.not_true, Bool.not_false, Bool.false_eq_true, reduceIte, mJoined, mJs, mFmt, maStar, gJoin, mFld, moSome, mSl, gIx, z5, mCallL, miZ, gEqL, gNeL, mIsiT, moNone, gSl, miR1, gAdd, List.set_cons_zero, List.set_cons_succ, decide_true, eq_self, mMake, gRep, gInt, msFor, gAbs, mRev, gGe, gMod, gPow, gI, msPub, mLend, msParOO, msAppPop, msAppO, gDraw, msPar, msPar3, msAsg, mgTup, mgCons, mgNil, DL.gSub, mNeg, gMin, gSl, gIsN, gNotN, gTuple, msOwn, mIsiT, mDc, miEnumA, gList, mMake, gNeO, gEqO, knownD, tyD, gRepr, mNotV, gGt, gStrP, mSortT, gInO, mProp, gCatA, gRepA, gMulS, mSlT, tabE]
        refine ⟨rfl, f0, cs, out2, rfl, tb, fun ys uy => ?_⟩
        have e1 : ys = zs := uy.same uz fun _ => Iff.rfl
        subst e1
        obtain ⟨p1, p2, p3⟩ := shown_rows (l := out2.flatMap textsL) tb.rw_ nd (fun y m => (up0 y).mp m) (by omega) (fun y m => by
          obtain ⟨r, mr, q⟩ := List.mem_flatten.mp ((uz.2.1 y).mp m)
          exact ⟨r, mr, q⟩)
        refine ⟨p1, p2, p3, p1, p2, p3, ?_⟩
        rw [show decide ((toPy (.tup (ys.map D.str))).shown = (toPy (.tup (ys.map D.str))).shown) = true from decide_eq_true rfl]
        refine iteF (hR _ ?_)
        clear hR p1 p2 p3
        generalize (Sl.dat (.lst (ys.map D.str))) = t10
        refine ms_at (ms := fun δ k => msSeq _ _ δ k) (e := [.un, .deal, .dat d, .dat (strsL cs), .dat (strsL (t0 :: ts2)), .dat (.lst (ss.map rowD)), .dat (tabE K f0 out2), .dat (.tup (out2.map rowD)), x8, t9, t10, y11, s12, s13, s14, x15, s16, s17, s18]) rfl ?_
        refine seq_st fun R hR => ?_
        dsimp only [msRet, msRetN, msSeq, msIf, msNext, msExpr, msSet, mtAnd, mtOr, mtNot, mTru, mB, mCB, mCall, maCons, maNil, mVar, mC, mOp, mChain, mIf, mAndV, mOrV, mNotV, mLst, mTup, mMS, gI0, gLen, gEq, gNe, gEqS, gNeS, gIn, gAll, gStrip, truD, start0, dn, mLc, miS, mgName, wipeD, mYes, lcD, List.map_cons, List.map_nil, List.replicate, List.cons_append, List.nil_append, List.getElem?_cons_zero, List.getElem?_cons_succ, List.getElem?_nil, List.append_nil, gLe, gLt, Bool.not_true, Bool.not_false, Bool.false_eq_true, reduceIte, mJoined, mJs, mFmt, maStar, gJoin, mFld, moSome, mSl, gIx, z5, mCallL, miZ, gEqL, gNeL, mIsiT, moNone, gSl, miR1, gAdd, List.set_cons_zero, List.set_cons_succ, decide_true, eq_self, mMake, gRep, gInt, msFor, gAbs, mRev, gGe, gMod, gPow, gI, msPub, mLend, msParOO, msAppPop, msAppO, gDraw, msPar, msPar3, msAsg, mgTup, mgCons, mgNil, DL.gSub, mNeg, gMin, gSl, gIsN, gNotN, gTuple, msOwn, mIsiT, mDc, miEnumA, gList, mMake, gNeO, gEqO, knownD, tyD, gRepr, mNotV, gGt, gStrP, mSortT, gInO, mProp, gCatA, gRepA, gMulS, mSlT, strsL]
        refine ⟨_, rfl, ?_⟩
        refine forD_at (fun (j : Nat) (s : Str) => .tup [.int (j : Nat), .str s]) (fun _ δ => ∃ y10 y12 y13, δ = [.un, .deal, .dat d, .dat (strsL cs), .dat (strsL (t0 :: ts2)), .dat (.lst (ss.map rowD)), .dat (tabE K f0 out2), .dat (.tup (out2.map rowD)), x8, t9, y10, y11, y12, y13, s14, x15, s16, s17, s18]) cs (fun j ss => enumD j (ss.map D.str)) (fun _ => rfl) (fun _ _ _ => rfl) cs [] _ rfl (fun s pre rest δ eo i k' nx _ _ => ?_) ⟨_, _, _, rfl⟩ (fun δ i => ?_)
        · obtain ⟨y10, y12, y13, rfl⟩ := i
          dsimp only [msRet, msRetN, msSeq, msIf, msNext, msExpr, msSet, mtAnd, mtOr, mtNot, mTru, mB, mCB, mCall, maCons, maNil, mVar, mC, mOp, mChain, mIf, mAndV, mOrV, mNotV, mLst, mTup, mMS, gI0, gLen, gEq, gNe, gEqS, gNeS, gIn, gAll, gStrip, truD, start0, dn, mLc, miS, mgName, wipeD, mYes, List.map_cons, List.map_nil, List.replicate, List.cons_append, List.nil_append, List.getElem?_cons_zero, List.getElem?_cons_succ, List.getElem?_nil, List.append_nil, gLe, gLt, Bool.not_true, Bool.not_false, Bool.false_eq_true, reduceIte, mJoined, mJs, mFmt, maStar, gJoin, mFld, moSome, mSl, gIx, z5, mCallL, miZ, gEqL, gNeL, mIsiT, moNone, gSl, miR1, gAdd, List.set_cons_zero, List.set_cons_succ, decide_true, eq_self, mMake, gRep, gInt, msFor, gAbs, mRev, gGe, gMod, gPow, gI, msPub, mLend, msParOO, msAppPop, msAppO, gDraw, msPar, msPar3, msAsg, mgTup, mgCons, mgNil, DL.gSub, mNeg, gMin, gSl, gIsN, gNotN, gTuple, msOwn, mIsiT, mDc, miEnumA, gList, mMake, gNeO, gEqO, knownD, tyD, gRepr, mNotV, gGt, gStrP, mSortT, gInO, mProp, gCatA, gRepA, gMulS, mSlT, rowD]
          have js : cs[pre.length]? = some s := by rw [← eo, List.getElem?_append_right (Nat.le_refl _), Nat.sub_self]; rfl
          have jl : pre.length < cs.length := (List.getElem?_eq_some_iff.mp js).1
          refine ⟨rfl, _, rfl, by rw [List.length_map]; exact Nat.lt_of_le_of_lt tb.few (by decide), lcD_if (p := fun d => !DL.isNon (cD (((rwOf d)[pre.length]?).join))) (f := fun d => cD (((rwOf d)[pre.length]?).join)) _ (fun e me F' q => ?_) (fun e me hp F' q => ?_) ?_⟩
          · obtain ⟨r, mr, rfl⟩ := List.mem_map.mp me
            rw [row_of (d := rowD r) rfl] at q
            have hr := tb.rw_ r mr
            exact ⟨_, at_row (by omega) (by omega) (by omega), fun v => cell_fx, q⟩
          · obtain ⟨r, mr, rfl⟩ := List.mem_map.mp me
            rw [row_of (d := rowD r) rfl] at q hp
            have hr := tb.rw_ r mr
            refine ⟨_, at_row (by omega) (by omega) (by omega), ?_⟩
            have ej : (pre.length : Int).toNat = pre.length := rfl
            rw [ej]
            cases e : (r[pre.length]?).join with
            | none => rw [e] at hp; cases hp
            | some x => rw [e] at q; exact q
          · rw [col_cells]
            have cl : (textsL (colL pre.length out2)).length ≤ 12 := Nat.le_trans (texts_len _) (by unfold colL; rw [List.length_map]; exact tb.few)
            refine ⟨_, textsL (colL pre.length out2), rfl, rfl, Nat.lt_of_le_of_lt (show _ ≤ 13 by omega) (by decide), fun zs nz mz uz' => ⟨rfl, f0, cs, out2, s, rfl, tb, fun j' hj ys2 uy2 => ?_, fun h => absurd (List.mem_of_getElem? js) h⟩⟩
            have ej : j' = pre.length := (List.getElem?_inj (by exact (List.getElem?_eq_some_iff.mp hj).1) hcs.2.1).mp (hj.trans js.symm)
            subst ej
            have u2 : UpT (colL pre.length out2) zs := ⟨nz, fun x => (mz x).trans mem_texts, uz'⟩
            have e3 : ys2 = zs := uy2.same u2 fun _ => Iff.rfl
            subst e3
            obtain ⟨p1, p2, p3⟩ := shown_rows (l := textsL (colL pre.length out2)) tb.rw_ nz (fun y m => (mz y).mp m) (by omega) (fun y m => col_mem ((u2.2.1 y).mp m))
            refine ⟨p1, p2, p3, p1, p2, p3, ?_⟩
            rw [show decide ((toPy (.tup (ys2.map D.str))).shown = (toPy (.tup (ys2.map D.str))).shown) = true from decide_eq_true rfl]
            exact iteF (nx _ ⟨_, _, _, rfl⟩)
        · obtain ⟨y10, y12, y13, rfl⟩ := i
          refine hR _ ?_
          clear hR
          refine ms_at (ms := fun δ k => msFor _ _ _ δ k) (e := [.un, .deal, .dat d, .dat (strsL cs), .dat (strsL (t0 :: ts2)), .dat (.lst (ss.map rowD)), .dat (tabE K f0 out2), .dat (.tup (out2.map rowD)), x8, t9, y10, y11, y12, y13, s14, x15, s16, s17, s18]) rfl ?_
          dsimp only [msRet, msRetN, msSeq, msIf, msNext, msExpr, msSet, mtAnd, mtOr, mtNot, mTru, mB, mCB, mCall, maCons, maNil, mVar, mC, mOp, mChain, mIf, mAndV, mOrV, mNotV, mLst, mTup, mMS, gI0, gLen, gEq, gNe, gEqS, gNeS, gIn, gAll, gStrip, truD, start0, dn, mLc, miS, mgName, wipeD, mYes, lcD, List.map_cons, List.map_nil, List.replicate, List.cons_append, List.nil_append, List.getElem?_cons_zero, List.getElem?_cons_succ, List.getElem?_nil, List.append_nil, gLe, gLt, Bool.not_true, Bool.not_false, Bool.false_eq_true, reduceIte, mJoined, mJs, mFmt, maStar, gJoin, mFld, moSome, mSl, gIx, z5, mCallL, miZ, gEqL, gNeL, mIsiT, moNone, gSl, miR1, gAdd, List.set_cons_zero, List.set_cons_succ, decide_true, eq_self, mMake, gRep, gInt, msFor, gAbs, mRev, gGe, gMod, gPow, gI, msPub, mLend, msParOO, msAppPop, msAppO, gDraw, msPar, msPar3, msAsg, mgTup, mgCons, mgNil, DL.gSub, mNeg, gMin, gSl, gIsN, gNotN, gTuple, msOwn, mIsiT, mDc, miEnumA, gList, mMake, gNeO, gEqO, knownD, tyD, gRepr, mNotV, gGt, gStrP, mSortT, gInO, mProp, gCatA, gRepA, gMulS, mSlT, strsL]
          refine ⟨_, strs_at (by decide) (by omega), ?_⟩
          have c0m : cs.getD (0 : Int).toNat "" ∈ cs := strs_in (by decide) (by omega)
          generalize cs.getD (0 : Int).toNat "" = c0 at c0m
          have l0 := nm.len c0 c0m
          refine ⟨Nat.le_trans (show c0.length + 1 ≤ 5 by omega) (by decide), (show 5 ≤ sizeLine by decide), _, rfl, ?_⟩
          refine forD_inv (fun δ => ∃ y14, δ = [.un, .deal, .dat d, .dat (.lst (cs.map D.str)), .dat (.lst ((t0 :: ts2).map D.str)), .dat (.lst (ss.map rowD)), .dat (tabE K f0 out2), .dat (.tup (out2.map rowD)), x8, t9, y10, y11, y12, y13, y14, x15, s16, s17, s18]) _ _ (fun e me δ i k' nx => ?_) ⟨_, rfl⟩ (fun δ i => ?_)
          · obtain ⟨y14, rfl⟩ := i
            obtain ⟨z, rfl, oz⟩ : ∃ z : Str, e = .str z ∧ PyData.strOk z = true := by
              simp only [List.mem_cons, List.not_mem_nil, or_false] at me
              rcases me with rfl | rfl | rfl | rfl | rfl
              · exact ⟨_, rfl, by decide +kernel⟩
              · exact ⟨_, rfl, by decide +kernel⟩
              · exact ⟨_, rfl, ok_app (nm.ok c0 c0m) (by decide +kernel)⟩
              · exact ⟨_, rfl, by decide +kernel⟩
              · exact ⟨_, rfl, by decide +kernel⟩
            have nx' := nx [.un, .deal, .dat d, .dat (.lst (cs.map D.str)), .dat (.lst ((t0 :: ts2).map D.str)), .dat (.lst (ss.map rowD)), .dat (tabE K f0 out2), .dat (.tup (out2.map rowD)), x8, t9, y10, y11, y12, y13, .dat (.str z), x15, s16, s17, s18] ⟨_, rfl⟩
            dsimp only [msRet, msRetN, msSeq, msIf, msNext, msExpr, msSet, mtAnd, mtOr, mtNot, mTru, mB, mCB, mCall, maCons, maNil, mVar, mC, mOp, mChain, mIf, mAndV, mOrV, mNotV, mLst, mTup, mMS, gI0, gLen, gEq, gNe, gEqS, gNeS, gIn, gAll, gStrip, truD, start0, dn, mLc, miS, mgName, wipeD, mYes, lcD, List.map_cons, List.map_nil, List.replicate, List.cons_append, List.nil_append, List.getElem?_cons_zero, List.getElem?_cons_succ, List.getElem?_nil, List.append_nil, gLe, gLt, Bool.not_true, Bool.not_false, Bool.false_eq_true, reduceIte, mJoined, mJs, mFmt, maStar, gJoin, mFld, moSome, mSl, gIx, z5, mCallL, miZ, gEqL, gNeL, mIsiT, moNone, gSl, miR1, gAdd, List.set_cons_zero, List.set_cons_succ, decide_true, eq_self, mMake, gRep, gInt, msFor, gAbs, mRev, gGe, gMod, gPow, gI, msPub, mLend, msParOO, msAppPop, msAppO, gDraw, msPar, msPar3, msAsg, mgTup, mgCons, mgNil, DL.gSub, mNeg, gMin, gSl, gIsN, gNotN, gTuple, msOwn, mIsiT, mDc, miEnumA, gList, mMake, gNeO, gEqO, knownD, tyD, gRepr, mNotV, gGt, gStrP, mSortT, gInO, mProp, gCatA, gRepA, gMulS, mSlT]
            refine ⟨rfl, flat_strs _, ?_⟩
            rw [in_strs]
            by_cases hz : z ∈ cs
            · rw [decide_eq_true hz]
              exact iteF nx'
            · rw [decide_eq_false hz]
              refine iteT ⟨rfl, f0, cs, out2, z, rfl, tb, fun j hj => absurd (List.mem_of_getElem? hj) hz, fun _ => ⟨(show 4 ≤ sizeLine by decide), ?_⟩⟩
              have pz : DL.plain 20 (.tup [.str "none", .str z, .bl true, .bl false]) = true := by
                have e1 : PyData.strOk ("none" : Str) = true := by decide +kernel
                simp [DL.plain, e1, oz]
              have ez : eqD (.tup [.str "none", .str z, .bl true, .bl false]) (.tup [.str "none", .str z, .bl true, .bl false]) = true := by simp [eqD, eqDs]
              refine ⟨pz, pz, ?_⟩
              rw [ez]
              exact iteF nx'
          · obtain ⟨y14, rfl⟩ := i
            exact q1 _ ⟨_, _, _, _, _, _, _, _, _, _, _, _, _, _, _, _, _, rfl⟩)
      clear hR
      refine ⟨by decide, by decide, ?_⟩
      refine forD_inv (fun δ => ∃ x8 x11 x15, δ = [.un, .deal, .dat d, .dat (strsL cs), .dat (strsL (t0 :: ts2)), .dat (.lst (ss.map rowD)), .dat (tabE K f0 out2), .dat (.tup (out2.map rowD)), x8, s9, s10, x11, s12, s13, s14, x15, s16, s17, s18]) _ _ (fun d2 hd2 δ i k2 q2 => ?_) ⟨_, _, _, rfl⟩ (fun δ i => ?_)
      · obtain ⟨x8, x11, x15, rfl⟩ := i
        refine ms_at (e := [.un, .deal, .dat d, .dat (strsL cs), .dat (strsL (t0 :: ts2)), .dat (.lst (ss.map rowD)), .dat (tabE K f0 out2), .dat (.tup (out2.map rowD)), .dat d2, s9, s10, x11, s12, s13, s14, x15, s16, s17, s18]) rfl ?_
        refine seq_st fun R2 hR2 => ?_
        dsimp only [msRet, msRetN, msSeq, msIf, msNext, msExpr, msSet, mtAnd, mtOr, mtNot, mTru, mB, mCB, mCall, maCons, maNil, mVar, mC, mOp, mChain, mIf, mAndV, mOrV, mNotV, mLst, mTup, mMS, gI0, gLen, gEq, gNe, gEqS, gNeS, gIn, gAll, gStrip, truD, start0, dn, mLc, miS, mgName, wipeD, mYes, lcD, List.map_cons, List.map_nil, List.replicate, List.cons_append, List.nil_append, List.getElem?_cons_zero, List.getElem?_cons_succ, List.getElem?_nil, List.append_nil, gLe, gLt, Bool.not_true, Bool.not_false, Bool.false_eq_true, reduceIte, mJoined, mJs, mFmt, maStar, gJoin, mFld, moSome, mSl, gIx, z5, mCallL, miZ, gEqL, gNeL, mIsiT, moNone, gSl, miR1, gAdd, List.set_cons_zero, List.set_cons_succ, decide_true, eq_self, mMake, gRep, gInt, msFor, gAbs, mRev, gGe, gMod, gPow, gI, msPub, mLend, msParOO, msAppPop, msAppO, gDraw, msPar, msPar3, msAsg, mgTup, mgCons, mgNil, DL.gSub, mNeg, gMin, gSl, gIsN, gNotN, gTuple, msOwn, mIsiT, mDc, miEnumA, gList, mMake, gNeO, gEqO, knownD, tyD, gRepr, mNotV, gGt, gStrP, mSortT, gInO, mProp, gCatA, gRepA, gMulS, mSlT, strsL]
        refine ⟨trivial, trivial, rfl, 2, cs.length, t0 :: ts2, by rw [List.length_map]; rfl, by decide, by omega, t6, tx, fun rs2 hl2 hrs2 => ?_⟩
        refine ⟨?_, rfl, _, _, rfl, rfl, ?_, ?_, fun e me => ?_⟩
        · rw [List.length_map, List.length_map]
          exact Nat.le_trans (show rs2.length + ss.length ≤ 12 by omega) (by decide)
        · rw [List.length_append, List.length_map, List.length_map]
          omega
        · rw [List.length_append, List.length_map, List.length_map]
          omega
        have her : ∃ r, e = rowD r ∧ RwOk cs.length r := by
          rcases List.mem_append.mp me with m | m
          · obtain ⟨r, mr, rfl⟩ := List.mem_map.mp m
            exact ⟨r, rfl, hrs2 r mr⟩
          · obtain ⟨r, mr, rfl⟩ := List.mem_map.mp m
            exact ⟨r, rfl, hss r mr⟩
        obtain ⟨r, rfl, hr⟩ := her
        refine hR2 _ ?_
        clear hR2
        refine seq_st fun R2 hR2 => ?_
        dsimp only [msRet, msRetN, msSeq, msIf, msNext, msExpr, msSet, mtAnd, mtOr, mtNot, mTru, mB, mCB, mCall, maCons, maNil, mVar, mC, mOp, mChain, mIf, mAndV, mOrV, mNotV, mLst, mTup, mMS, gI0, gLen, gEq, gNe, gEqS, gNeS, gIn, gAll, gStrip, truD, start0, dn, mLc, miS, mgName, wipeD, mYes, List.map_cons, List.map_nil, List.replicate, List.cons_append, List.nil_append, List.getElem?_cons_zero, List.getElem?_cons_succ, List.getElem?_nil, List.append_nil, gLe, gLt, Bool.not_true, Bool.not_false, Bool.false_eq_true, reduceIte, mJoined, mJs, mFmt, maStar, gJoin, mFld, moSome, mSl, gIx, z5, mCallL, miZ, gEqL, gNeL, mIsiT, moNone, gSl, miR1, gAdd, List.set_cons_zero, List.set_cons_succ, decide_true, eq_self, mMake, gRep, gInt, msFor, gAbs, mRev, gGe, gMod, gPow, gI, msPub, mLend, msParOO, msAppPop, msAppO, gDraw, msPar, msPar3, msAsg, mgTup, mgCons, mgNil, DL.gSub, mNeg, gMin, gSl, gIsN, gNotN, gTuple, msOwn, mIsiT, mDc, miEnumA, gList, mMake, gNeO, gEqO, knownD, tyD, gRepr, mNotV, gGt, gStrP, mSortT, gInO, mProp, gCatA, gRepA, gMulS, mSlT, rowD]
        refine ⟨_, rfl, by rw [List.length_map, hr.1]; exact Nat.lt_of_le_of_lt c5 (by decide), lc_any (S := fun e => ∃ c : Option Str, e = cD c ∧ ∀ x, c = some x → TxtOk x) _ [] (fun e me F' q => ?_) (fun _ h => nomatch h) fun es hl hes => ?_⟩
        · obtain ⟨c, mc, rfl⟩ := List.mem_map.mp me
          have hc : ∀ x, c = some x → TxtOk x := fun x e => hr.2 x (e ▸ mc)
          refine ⟨trivial, D.str t0, at_zero, (show 5 ≤ sizeLine by decide), rfl, _, [cD c, cD c, cD c, .non, .str t0], rfl, rfl, (show 0 < 5 by decide), (show 5 < 1073741824 by decide), fun e me => q e ?_⟩
          rcases List.mem_cons.mp me with rfl | me
          · exact ⟨c, rfl, hc⟩
          rcases List.mem_cons.mp me with rfl | me
          · exact ⟨c, rfl, hc⟩
          rcases List.mem_cons.mp me with rfl | me
          · exact ⟨c, rfl, hc⟩
          rcases List.mem_cons.mp me with rfl | me
          · exact ⟨none, rfl, fun x e => nomatch e⟩
          · rw [List.mem_singleton.mp me]
            exact ⟨some t0, rfl, fun x e => by cases e; exact ht0⟩
        have hl : es.length = cs.length := by
          rw [hl, List.length_map, hr.1]
          exact Nat.zero_add _
        obtain ⟨r, rfl, hr⟩ := rows_cells hl hes
        have hr : RwOk cs.length r := hr
        refine hR2 _ ?_
        clear hR2
        refine ms_at (ms := fun δ k => msSeq _ _ δ k) (e := [.un, .deal, .dat d, .dat (strsL cs), .dat (strsL (t0 :: ts2)), .dat (.lst (ss.map rowD)), .dat (tabE K f0 out2), .dat (.tup (out2.map rowD)), .dat d2, s9, s10, .dat (rowD r), s12, s13, s14, x15, s16, s17, s18]) rfl ?_
        refine seq_st fun R2 hR2 => ?_
        dsimp only [msRet, msRetN, msSeq, msIf, msNext, msExpr, msSet, mtAnd, mtOr, mtNot, mTru, mB, mCB, mCall, maCons, maNil, mVar, mC, mOp, mChain, mIf, mAndV, mOrV, mNotV, mLst, mTup, mMS, gI0, gLen, gEq, gNe, gEqS, gNeS, gIn, gAll, gStrip, truD, start0, dn, mLc, miS, mgName, wipeD, mYes, List.map_cons, List.map_nil, List.replicate, List.cons_append, List.nil_append, List.getElem?_cons_zero, List.getElem?_cons_succ, List.getElem?_nil, List.append_nil, gLe, gLt, Bool.not_true, Bool.not_false, Bool.false_eq_true, reduceIte, mJoined, mJs, mFmt, maStar, gJoin, mFld, moSome, mSl, gIx, z5, mCallL, miZ, gEqL, gNeL, mIsiT, moNone, gSl, miR1, gAdd, List.set_cons_zero, List.set_cons_succ, decide_true, eq_self, mMake, gRep, gInt, msFor, gAbs, mRev, gGe, gMod, gPow, gI, msPub, mLend, msParOO, msAppPop, msAppO, gDraw, msPar, msPar3, msAsg, mgTup, mgCons, mgNil, DL.gSub, mNeg, gMin, gSl, gIsN, gNotN, gTuple, msOwn, mIsiT, mDc, miEnumA, gList, mMake, gNeO, gEqO, knownD, tyD, gRepr, mNotV, gGt, gStrP, mSortT, gInO, mProp, gCatA, gRepA, gMulS, mSlT, rowD]
        refine ⟨_, rfl, by rw [List.length_map, hr.1]; exact Nat.lt_of_le_of_lt c5 (by decide), lcD_if (p := fun d => !DL.isNon d) (f := fun d => d) _ (fun e me F' q => ?_) (fun e me _ F' q => q) ?_⟩
        · obtain ⟨c, mc, rfl⟩ := List.mem_map.mp me
          cases c with
          | none => exact ⟨(fun v e => nomatch e), q⟩
          | some x => exact ⟨(fun v e => nomatch e), q⟩
        rw [List.map_id', some_filter]
        refine ⟨Nat.zero_le _, hR2 _ ?_⟩
        clear hR2
        refine ms_at (ms := fun δ k => msSeq _ _ δ k) (e := [.un, .deal, .dat d, .dat (strsL cs), .dat (strsL (t0 :: ts2)), .dat (.lst (ss.map rowD)), .dat (tabE K f0 out2), .dat (.tup (out2.map rowD)), .dat d2, s9, s10, .dat (rowD r), s12, s13, s14, .dat (.bl (!decide (plc r = []))), s16, s17, s18]) rfl ?_
        refine seq_st fun R2 hR2 => ?_
        have after : R2 [.un, .deal, .dat d, .dat (strsL cs), .dat (strsL (t0 :: ts2)), .dat (.lst (ss.map rowD)), .dat (tabE K f0 out2), .dat (.tup (out2.map rowD)), .dat d2, s9, s10, .dat (rowD r), s12, s13, s14, .dat (.bl (dueB r out2)), s16, s17, s18] := hR2 _ (by
          clear hR2
          dsimp only [msRet, msRetN, msSeq, msIf, msNext, msExpr, msSet, mtAnd, mtOr, mtNot, mTru, mB, mCB, mCall, maCons, maNil, mVar, mC, mOp, mChain, mIf, mAndV, mOrV, mNotV, mLst, mTup, mMS, gI0, gLen, gEq, gNe, gEqS, gNeS, gIn, gAll, gStrip, truD, start0, dn, mLc, miS, mgName, wipeD, mYes, lcD, List.map_cons, List.map_nil, List.replicate, List.cons_append, List.nil_append, List.getElem?_cons_zero, List.getElem?_cons_succ, List.getElem?_nil, List.append_nil, gLe, gLt, Bool.not_true, Bool.not_false, Bool.false_eq_true, reduceIte, mJoined, mJs, mFmt, maStar, gJoin, mFld, moSome, mSl, gIx, z5, mCallL, miZ, gEqL, gNeL, mIsiT, moNone, gSl, miR1, gAdd, List.set_cons_zero, List.set_cons_succ, decide_true, eq_self, mMake, gRep, gInt, msFor, gAbs, mRev, gGe, gMod, gPow, gI, msPub, mLend, msParOO, msAppPop, msAppO, gDraw, msPar, msPar3, msAsg, mgTup, mgCons, mgNil, DL.gSub, mNeg, gMin, gSl, gIsN, gNotN, gTuple, msOwn, mIsiT, mDc, miEnumA, gList, mMake, gNeO, gEqO, knownD, tyD, gRepr, mNotV, gGt, gStrP, mSortT, gInO, mProp, gCatA, gRepA, gMulS, mSlT, tabE]
          refine ⟨rfl, f0, cs, out2, rowD r, rfl, tb, row_v2 rfl hr (by omega), fun b hb => ⟨⟨_, rfl⟩, ?_⟩⟩
          have eb : b = dueB r out2 := bool_of hb (due_iff.trans (in_row rfl hr).symm)
          subst eb
          refine ⟨rfl, rfl, bl_shown _, rfl, rfl, bl_shown _, ?_⟩
          rw [show decide ((toPy (.bl (dueB r out2))).shown = (toPy (.bl (dueB r out2))).shown) = true from decide_eq_true rfl]
          refine iteF ?_
          dsimp only [rowD]
          refine ⟨rfl, f0, cs, out2, .lst (r.map cD), rfl, tb, row_v2 rfl hr (by omega), fun b hb => ⟨⟨_, rfl⟩, ?_⟩⟩
          have eb : b = dueB r out2 := bool_of hb (due_iff.trans (in_row rfl hr).symm)
          subst eb
          refine ⟨rfl, rfl, bl_shown _, rfl, rfl, bl_shown _, ?_⟩
          rw [show decide ((toPy (.bl (dueB r out2))).shown = (toPy (.bl (dueB r out2))).shown) = true from decide_eq_true rfl]
          exact iteF (q2 _ ⟨_, _, _, rfl⟩))
        dsimp only [msRet, msRetN, msSeq, msIf, msNext, msExpr, msSet, mtAnd, mtOr, mtNot, mTru, mB, mCB, mCall, maCons, maNil, mVar, mC, mOp, mChain, mIf, mAndV, mOrV, mNotV, mLst, mTup, mMS, gI0, gLen, gEq, gNe, gEqS, gNeS, gIn, gAll, gStrip, truD, start0, dn, mLc, miS, mgName, wipeD, mYes, List.map_cons, List.map_nil, List.replicate, List.cons_append, List.nil_append, List.getElem?_cons_zero, List.getElem?_cons_succ, List.getElem?_nil, List.append_nil, gLe, gLt, Bool.not_true, Bool.not_false, Bool.false_eq_true, reduceIte, mJoined, mJs, mFmt, maStar, gJoin, mFld, moSome, mSl, gIx, z5, mCallL, miZ, gEqL, gNeL, mIsiT, moNone, gSl, miR1, gAdd, List.set_cons_zero, List.set_cons_succ, decide_true, eq_self, mMake, gRep, gInt, msFor, gAbs, mRev, gGe, gMod, gPow, gI, msPub, mLend, msParOO, msAppPop, msAppO, gDraw, msPar, msPar3, msAsg, mgTup, mgCons, mgNil, DL.gSub, mNeg, gMin, gSl, gIsN, gNotN, gTuple, msOwn, mIsiT, mDc, miEnumA, gList, mMake, gNeO, gEqO, knownD, tyD, gRepr, mNotV, gGt, gStrP, mSortT, gInO, mProp, gCatA, gRepA, gMulS, mSlT, rowD]
        by_cases ep : plc r = []
        · rw [decide_eq_true ep]
          have ed : dueB r out2 = false := by
            unfold dueB
            rw [decide_eq_true ep]
            rfl
          rw [ed] at after
          exact after
        · rw [decide_eq_false ep]
          have ed : dueB r out2 = !((out2.map rowD).filter fun d => partB r (rwOf d)).isEmpty := by
            unfold dueB
            rw [decide_eq_false ep]
            rfl
          rw [ed] at after
          refine ⟨_, rfl, by rw [List.length_map]; exact Nat.lt_of_le_of_lt tb.few (by decide), lcD_if (p := fun d => partB r (rwOf d)) (f := fun d => d) _ (fun e me F' q => ?_) (fun e me _ F' q => q) ?_⟩
          · obtain ⟨s, ms, rfl⟩ := List.mem_map.mp me
            have q : F' (partB r (rwOf (rowD s))) := q
            rw [row_of (d := rowD s) rfl] at q
            have hs := tb.rw_ s ms
            refine ⟨rfl, r, s, rfl, by rw [hr.1, hs.1], by rw [hr.1]; omega, hr.2, hs.2, fun b hb => ?_⟩
            have eb : b = partB r s := bool_of hb partB_iff
            rw [eb]
            exact q
          · rw [List.map_id']
            exact ⟨Nat.zero_le _, after⟩
      · obtain ⟨x8, x11, x15, rfl⟩ := i
        exact rest _ _ _
    · obtain ⟨s2, s3, s4, s5, s6, s7, s8, s9, s10, s11, s12, s13, s14, s15, s16, s17, s18, rfl⟩ := i
      clear hR0
      rfl
end
end K04

set_option Elab.async false
set_option linter.all false
set_option maxRecDepth 100000
set_option maxHeartbeats 0
namespace K04
open PySem PySem.Spec PyProof.Rows L2 DL
theorem run (w : World) : HandSHeadRun.RunEq R (PySem.W.view R.prog [52]) hk ob 12000 names w := by
  intro os
  kernel_rfl
end K04

set_option Elab.async false
set_option linter.all false
set_option maxRecDepth 100000
set_option maxHeartbeats 0
namespace K04
open PySem PySem.Spec PyProof.Rows L2 DL
theorem get_glo {K : Fg} {h : Heap} {mg : Str → Option Value} (X : K.In h) (N : h.Ns mainGlobals mg) (c : He.SaysD fa fn K) : Glo K mg where
  g := fun z hz => He.glo_ok X N (c.facts (List.mem_append_left _ (List.mem_map_of_mem hz)))
  n := fun z hz => He.free_ok X N (c.facts (List.mem_append_right _ (List.mem_append_left _ (List.mem_map_of_mem hz))))
  hL := He.str_ok X N (c.facts (f := .str "LETTERS" "abcdefghijklmnopqrstuvwxyz") (List.mem_append_right _ (List.mem_append_right _ (by simp))))
  hA := He.str_ok X N (c.facts (f := .str "LETTERS_AND_DIGITS" "abcdefghijklmnopqrstuvwxyz0123456789") (List.mem_append_right _ (List.mem_append_right _ (by simp))))
  hN := He.int_ok X N (c.facts (f := .int "LONGEST_NAME" 4) (List.mem_append_right _ (List.mem_append_right _ (by simp))))
  hT := He.int_ok X N (c.facts (f := .int "LONGEST_TEXT" 6) (List.mem_append_right _ (List.mem_append_right _ (by simp))))
  hK := He.str_ok X N (c.facts (f := .str "LACKING" "-") (List.mem_append_right _ (List.mem_append_right _ (by simp))))
theorem facts {P : Program} {w : World} {K : Fg} {h : Heap} {mg : Str → Option Value} {f : Addr} (X : K.In h) (N : h.Ns mainGlobals mg) (hfa : mg ("law" : Str) = some (.ref f)) (c : He.SaysD fa fn K) (e : ex K = true) (sy : SaysC fc K) :
    ∃ fd : FuncData, (∀ (s : Shared) (v : Value), BindsTo s fd ⟨[v], []⟩ [("_law_script", v)]) ∧ ∀ base : Heap, FnOkG P w K mg base (L2.CX P w) 10 f fd ["_law_script"] (spLawD K) := by
  have G := get_glo X N c
  have x := get_exf e
  obtain ⟨fd, F⟩ := c.defs (d := dfn ("law", none) "law" "law" s_law) (by unfold fn; simp)
  replace F : FunD K "law" "law" (defArgs s_law) (defBody s_law) (defScope s_law) [] [] (He.ga K "law") fd := F
  have q := hfa.symm.trans (G.g "law" (by decide))
  cases q
  have b := FunD.bindsA (ps := ["_law_script"]) F fun _ _ _ _ _ _ us hl => match us, hl with | [_], _ => rfl
  refine ⟨fd, fun s v => b s [v] rfl, fun base => ?_⟩
  have exs : Exs P w K mg base := ok_exs c x.o.oex x.o.ini x.o.fun_ x.o.now
  have exn : ExN P w K mg base := ok_exn c x
  have f1 : Fn P w K mg base "is_sequence" 1 1 false (gSeq K) := ok_is_sequence G c x.o.kls
  have f2 : Fn P w K mg base "is_word" 1 3 false (gWord K) := ok_is_word G c x.o.kls
  have f3 : Fn P w K mg base "is_name" 2 1 false (gName K) := ok_is_name G c f2 x.o.kls
  have f4 : Fn P w K mg base "is_text" 2 1 false (gText K) := ok_is_text G c f2
  have f5 : Fn P w K mg base "is_cell" 3 1 false (gCell K) := ok_is_cell G c f4
  have f6 : Fn P w K mg base "are_names" 3 2 false (gNames K) := ok_are_names G c f1 f3
  have f7 : Fn P w K mg base "has_width" 2 2 false (gWide K) := ok_has_width G c f1
  have g1 : Fn P w K mg base "places_told" 1 1 false gPlaces := ok_places_told G c
  have g2 : Fn P w K mg base "cells_at" 1 2 false gCells := ok_cells_at G c
  have g3 : Fn P w K mg base "with_places" 2 1 false gWith := ok_with_places G c g1
  have g4 : Fn P w K mg base "unlike_places" 1 1 false gUnlike := ok_unlike_places G c
  have g5 : Fn P w K mg base "ascending" 1 1 false gAsc := ok_ascending G c
  have g6 : Fn P w K mg base "rows_left" 3 1 false gLeft := ok_rows_left G c g5 g3 g4 g2
  have g7 : Fn P w K mg base "need_rows" 4 2 false (gNeedR K) := ok_need_rows G c f1 f7 f5 exs
  obtain ⟨fT, dT, t1, t2, t3, t4⟩ := ok_Table_init (w := w) (P := P) (base := base) G c f6 g7 g6 exs
  have mk := He.mkr_ok (c.facts (f := .mkr "Table") (List.mem_append_right _ (List.mem_append_right _ (by simp))))
  have mT : Mkr P w K mg base "Table" (cTable K) 6 2 (gTable K) := ⟨_, fT, _, mk, t1, G.g "Table" (by decide), t4⟩
  have a1 : Fn P w K mg base "places_told" 1 1 false gPlacesA := okA_places_told G c
  have a2 : Fn P w K mg base "cells_at" 1 2 false gCellsA := okA_cells_at G c
  have a3 : Fn P w K mg base "with_places" 2 1 false gWithA := okA_with_places G c a1
  have a4 : Fn P w K mg base "unlike_places" 1 1 false gUnlikeA := okA_unlike_places G c
  have a5 : Fn P w K mg base "all_told" 3 2 false gToldA := ok_all_told G c a3 a4 a2
  have a6 : Fn P w K mg base "is_row" 4 2 false (gIsRow K) := ok_is_row G c f7 f5
  have a7 : Fn P w K mg base "different_texts" 1 1 false gDiffer := ok_different_texts G c
  have mC : OwnM P w K mg base (fun C => C = cTable K) "__contains__" 5 2 (fun _ => gTIn K) := ⟨fun C e => by subst e; exact ok_Table_contains G c x a6 a1 a5⟩
  have d1 : Fn P w K mg base "_law_draw" 1 1 true gDraw := ok_law_draw G c
  have d2 : Fn P w K mg base "_law_pick" 2 1 true gOneOf := ok_law_pick G c d1
  have d3 : Fn P w K mg base "_law_columns" 2 1 true gColumns := ok_law_columns G c d1
  have d4 : Fn P w K mg base "_law_texts" 2 1 true gTexts := ok_law_texts G c d1
  have d5 : Fn P w K mg base "_law_rows" 3 3 true gRowsL := ok_law_rows G c d2
  have d6 : Fn P w K mg base "_law_table" 4 3 true gTabL := ok_law_table G c d1 d2 d5
  have d7 : Fn P w K mg base "_law_is_part" 1 2 false gPart := ok_law_is_part G c
  have d8 : Fn P w K mg base "_law_greatest" 2 1 false gGreat := ok_law_greatest G c d7
  have d9 : Fn P w K mg base "_law_bare" 2 2 true gBare := ok_law_bare G c d1
  have d10 : Fn P w K mg base "_law_under" 4 2 false (gUnderL K) := ok_law_under G c x (ok_Table_under G c x a7 exn)
  exact ok_law G c x (ok_law_deal G c) d1 d2 d3 d4 d5 d6 d9 d8 d7 d10 mT mC (ok_Table_texts G c x a7 sy) F
end K04
open PySem PySem.W PySem.Calls PyProof.Rows
theorem PySem.Challenge.cw_meltback_k04_rows_and_texts_in_tables_holds : PySem.Challenge.rw_meltback_k04_rows_and_texts_in_tables.Holds := by
  w_on; o_law
  refine HandSHeadRun.head_any (r := K04.R) (q := view K04.R.prog [52]) (H := K04.hk) (ob := K04.ob) (M := 12000) (loose := K04.names) (d := HandSHeadRun.topDef K04.R.prog 52) (kwd := []) K04.ob_eq
    (by kernel_rfl) (fun s => by kernel_rfl) K04.run (by kernel_rfl) (by kernel_rfl) (by kernel_rfl) (by rfl) (by first | assumption | decide +kernel) (by decide +kernel) ⟨rfl, rfl, rfl, rfl, rfl, by decide +kernel⟩ ?hw ?hc
  case hw => w_witness2
  case hc =>
    refine DL.walk_cxG (lw := PySem.Challenge.rw_meltback_k04_rows_and_texts_in_tables) (m := 63) (k := 10) (x := "_law_script") rfl (by decide) (by kernel_rfl) ⟨rfl, by decide, by decide⟩ ?F
    intro w mg fa h Y N hmg0
    obtain ⟨K, KX, c⟩ := Y
    have hmg : mg ("law" : PySem.Str) = some (.ref fa) := by
      have e : (HandSHeadRun.topDef K04.R.prog 52).name = ("law" : PySem.Str) := by kernel_rfl
      rw [← e]
      exact hmg0
    obtain ⟨fd, hb, hF⟩ := K04.facts (P := (PySem.Challenge.rw_meltback_k04_rows_and_texts_in_tables).prog) (w := w) KX N hmg c.1 c.2.1 c.2.2
    exact ⟨K, fd, DL.spLawD K, KX, hb, fun H a ns hl hS => ⟨a, ns, rfl, hl, hS, fun _ => rfl⟩, hF⟩
