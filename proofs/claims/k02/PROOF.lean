import PyProof.Rows.All
import Wide.All
import OpenK.AllK
import Wide.FinOn
import HandS.ForMost
import KE.KExcIs
import HandS.ExcField
import HandS.ExcInit
import HandS.ExcValue
import HandS.IsInst
import HandS.More
import HandS.TryMany
import HandS.StrMore
import HandS.TupAny
import HandS.CallSlots
import HandS.Defaults
import HandS.MakeKwOnly
import HandS.Text
import HandS.MakeKw
import PyProof.ReprLen
import Open.Row
import PySem.Challenge.RW_gateslack_k02_refusals_by_hand
set_option Elab.async false
set_option linter.all false
set_option maxRecDepth 100000
namespace Vg
open PySem L2

inductive D where
  | non | bl (b : Bool) | int (i : Int) | str (x : Str)
  | tup (xs : List D) | lst (xs : List D) | dct (kvs : List (Key × D)) | scr (ns : List Int)
  | fn (n : Str) | ty (n : String)
  | exc (c : Str) (fs : List (Str × D))

/-- the addresses that names of the module stand for -/
structure Gm where
  K : PySem.W.Frag
  fn : Str → Option Addr
  cl : Str → Option Addr

/-- the class that a name of the module stands for -/
def clK (K : PySem.W.Frag) (c : Str) : Option Addr := match PySem.W.nsIn K mainGlobals c with
  | some (some (.ref C)) => some C
  | _ => none
/-- at a: an exception of the class at C, its dict (none | at d) -/
def exV (C : Addr) (od : Option Addr) (a : Addr) : HO := .ext fun h => ∃ (oe : Obj) (vs : Array Value), h.get? a = some oe ∧ Zc (.ref C) od oe ∧ oe.data = .fields vs
mutual
inductive Rp (K : PySem.W.Frag) (F : Hp) : V → D → Prop where
  | non : Rp K F .non .non
  | bl (b : Bool) : Rp K F (.bl b) (.bl b)
  | int (i : Int) : Rp K F (.int i) (.int i)
  | str (x : Str) : Rp K F (.str x) (.str x)
  | ty (n : String) : Rp K F (.ty n) (.ty n)
  | lst {a : Addr} {vs : List V} {ds : List D} : F a = some (.lst vs) → RpAll K F vs ds → Rp K F (.ref a) (.lst ds)
  | scr {a : Addr} {ns : List Int} : SqL K F a (ns.map V.int) → Rp K F (.ref a) (.scr ns)
  | tup {a : Addr} {vs : List V} {ds : List D} : SqT K F a vs → RpAll K F vs ds → Rp K F (.ref a) (.tup ds)
  | dct {a : Addr} {kvs : List (Key × V)} {ds : List (Key × D)} : Rd F a (.dK kvs) → RpKV K F kvs ds → Rp K F (.ref a) (.dct ds)
  | ex0 {a C : Addr} {c : Str} : clK K c = some C → F a = some (exV C none a) → Rp K F (.ref a) (.exc c [])
  | ex1 {a C d : Addr} {c : Str} {vs : List (Str × V)} {fs : List (Str × D)} : clK K c = some C → F a = some (exV C (some d) a) → F d = some (.xd vs) → RpFs K F vs fs → Rp K F (.ref a) (.exc c fs)
inductive RpAll (K : PySem.W.Frag) (F : Hp) : List V → List D → Prop where
  | nil : RpAll K F [] []
  | cons {v : V} {vs : List V} {d : D} {ds : List D} : Rp K F v d → RpAll K F vs ds → RpAll K F (v :: vs) (d :: ds)
inductive RpKV (K : PySem.W.Frag) (F : Hp) : List (Key × V) → List (Key × D) → Prop where
  | nil : RpKV K F [] []
  | cons {k : Key} {v : V} {vs : List (Key × V)} {d : D} {ds : List (Key × D)} : Rp K F v d → RpKV K F vs ds → RpKV K F ((k, v) :: vs) ((k, d) :: ds)
inductive RpFs (K : PySem.W.Frag) (F : Hp) : List (Str × V) → List (Str × D) → Prop where
  | nil : RpFs K F [] []
  | cons {k : Str} {v : V} {vs : List (Str × V)} {d : D} {ds : List (Str × D)} : Rp K F v d → RpFs K F vs ds → RpFs K F ((k, v) :: vs) ((k, d) :: ds)
end

/-- more is known; dicts may be known now -/
def Leq (F F' : Hp) : Prop := ∀ a u, F a = some u → F' a = some u ∨ ∃ o kvs, u = .dK kvs ∧ F' a = some (.frz o u)
theorem Leq.of {F F' : Hp} (s : Same F F') : Leq F F' := fun a u e => .inl (s a u e)
theorem Leq.refl (F : Hp) : Leq F F := fun _ _ e => .inl e
theorem Leq.trans {F F' F2 : Hp} (a : Leq F F') (b : Leq F' F2) : Leq F F2 := fun x u e => by
  rcases a x u e with h | ⟨o, kvs, h, h2⟩
  · exact b x u h
  · rcases b x _ h2 with z | ⟨_, _, z, _⟩
    · exact .inr ⟨o, kvs, h, z⟩
    · cases z
theorem Leq.there {F F' : Hp} (s : Leq F F') {a : Addr} (h : F' a = none) : F a = none := by
  cases e : F a with
  | none => rfl
  | some u =>
    rcases s a u e with z | ⟨_, _, _, z⟩ <;> (rw [h] at z; cases z)
theorem Leq.one {F F' : Hp} (s : Leq F F') {a : Addr} {u : HO} (n : ∀ kvs, u ≠ .dK kvs) (h : F a = some u) : F' a = some u := by
  rcases s a u h with z | ⟨_, kvs, z, _⟩
  · exact z
  · exact absurd z (n kvs)
theorem Leq.rd {F F' : Hp} (s : Leq F F') {a : Addr} {u : HO} (h : Rd F a u) : Rd F' a u := by
  rcases h with h | ⟨o, h⟩
  · rcases s a u h with z | ⟨o, _, _, z⟩
    · exact .inl z
    · exact .inr ⟨o, z⟩
  · exact .inr ⟨o, s.one (fun _ z => by cases z) h⟩
theorem rdS {F F' : Hp} (s : Same F F') {a : Addr} {u : HO} (h : Rd F a u) : Rd F' a u := (Leq.of s).rd h
theorem Leq.seq {F F' : Hp} (s : Leq F F') {K : PySem.W.Frag} {a : Addr} {xs : List V} (h : SqL K F a xs) : SqL K F' a xs := by
  rcases h with (h | ⟨o, h⟩) | h
  · exact .inl (.inl (s.one (fun _ z => by cases z) h))
  · exact .inl (.inr ⟨o, s.one (fun _ z => by cases z) h⟩)
  · exact .inr h
theorem Leq.seqT {F F' : Hp} (s : Leq F F') {K : PySem.W.Frag} {a : Addr} {xs : List V} (h : SqT K F a xs) : SqT K F' a xs := by
  rcases h with (h | ⟨o, h⟩) | h
  · exact .inl (.inl (s.one (fun _ z => by cases z) h))
  · exact .inl (.inr ⟨o, s.one (fun _ z => by cases z) h⟩)
  · exact .inr h
theorem exV_dK {C : Addr} {od : Option Addr} {a : Addr} : ∀ kvs, exV C od a ≠ .dK kvs := fun _ z => by cases z
theorem seqT {K : PySem.W.Frag} {H H' : Hp} {a : Addr} {xs : List V} (e : Same H H') (h : SqT K H a xs) : SqT K H' a xs := by
  rcases h with (h | ⟨o, h⟩) | h
  · exact .inl (.inl (e _ _ h))
  · exact .inl (.inr ⟨o, e _ _ h⟩)
  · exact .inr h

mutual
theorem Rp.mono {K : PySem.W.Frag} {F F' : Hp} (s : Leq F F') : ∀ {v : V} {d : D}, Rp K F v d → Rp K F' v d
  | _, _, .non => .non
  | _, _, .bl b => .bl b
  | _, _, .int b => .int b
  | _, _, .str b => .str b
  | _, _, .ty b => .ty b
  | _, _, .lst h a => .lst (s.one (fun _ z => by cases z) h) (RpAll.mono s a)
  | _, _, .scr h => .scr (s.seq h)
  | _, _, .tup h a => .tup (s.seqT h) (RpAll.mono s a)
  | _, _, .dct h a => .dct (s.rd h) (RpKV.mono s a)
  | _, _, .ex0 c h => .ex0 c (s.one exV_dK h)
  | _, _, .ex1 c h d a => .ex1 c (s.one exV_dK h) (s.one (fun _ z => by cases z) d) (RpFs.mono s a)
theorem RpAll.mono {K : PySem.W.Frag} {F F' : Hp} (s : Leq F F') : ∀ {v : List V} {d : List D}, RpAll K F v d → RpAll K F' v d
  | _, _, .nil => .nil
  | _, _, .cons h a => .cons (Rp.mono s h) (RpAll.mono s a)
theorem RpKV.mono {K : PySem.W.Frag} {F F' : Hp} (s : Leq F F') : ∀ {v : List (Key × V)} {d : List (Key × D)}, RpKV K F v d → RpKV K F' v d
  | _, _, .nil => .nil
  | _, _, .cons h a => .cons (Rp.mono s h) (RpKV.mono s a)
theorem RpFs.mono {K : PySem.W.Frag} {F F' : Hp} (s : Leq F F') : ∀ {v : List (Str × V)} {d : List (Str × D)}, RpFs K F v d → RpFs K F' v d
  | _, _, .nil => .nil
  | _, _, .cons h a => .cons (Rp.mono s h) (RpFs.mono s a)
end

section
variable {K : PySem.W.Frag} {F : Hp}
theorem RpAll.length : ∀ {vs : List V} {ds : List D}, RpAll K F vs ds → vs.length = ds.length
  | _, _, .nil => rfl
  | _, _, .cons _ a => congrArg Nat.succ a.length
theorem RpAll.app : ∀ {vs ws : List V} {ds es : List D}, RpAll K F vs ds → RpAll K F ws es → RpAll K F (vs ++ ws) (ds ++ es)
  | _, _, _, _, .nil, b => b
  | _, _, _, _, .cons h a, b => .cons h (a.app b)
theorem RpAll.get : ∀ {vs : List V} {ds : List D} {i : Nat} {d : D}, RpAll K F vs ds → ds[i]? = some d → ∃ v, vs[i]? = some v ∧ Rp K F v d
  | _, _, 0, d, .cons h a, e => by simp at e; subst e; exact ⟨_, rfl, h⟩
  | _, _, i + 1, d, .cons h a, e => by
    obtain ⟨v, h1, h2⟩ := a.get (i := i) (by simpa using e)
    exact ⟨v, by simpa using h1, h2⟩
theorem RpAll.getV : ∀ {vs : List V} {ds : List D} {i : Nat} {v : V}, RpAll K F vs ds → vs[i]? = some v → ∃ d, ds[i]? = some d ∧ Rp K F v d
  | _, _, 0, d, .cons h a, e => by simp at e; subst e; exact ⟨_, rfl, h⟩
  | _, _, i + 1, d, .cons h a, e => by
    obtain ⟨v, h1, h2⟩ := a.getV (i := i) (by simpa using e)
    exact ⟨v, by simpa using h1, h2⟩
theorem RpAll.take : ∀ {vs : List V} {ds : List D} (n : Nat), RpAll K F vs ds → RpAll K F (vs.take n) (ds.take n)
  | _, _, 0, _ => .nil
  | _, _, _ + 1, .nil => .nil
  | _, _, n + 1, .cons h a => .cons h (a.take n)
theorem RpAll.drop : ∀ {vs : List V} {ds : List D} (n : Nat), RpAll K F vs ds → RpAll K F (vs.drop n) (ds.drop n)
  | _, _, 0, r => r
  | _, _, _ + 1, .nil => .nil
  | _, _, n + 1, .cons _ a => a.drop n
theorem RpAll.set {v : V} {d : D} (h : Rp K F v d) : ∀ {vs : List V} {ds : List D} (n : Nat), RpAll K F vs ds → RpAll K F (vs.set n v) (ds.set n d)
  | _, _, _, .nil => .nil
  | _, _, 0, .cons _ a => .cons h a
  | _, _, n + 1, .cons q a => .cons q (a.set h n)
theorem RpAll.erase : ∀ {vs : List V} {ds : List D} (n : Nat), RpAll K F vs ds → RpAll K F (vs.eraseIdx n) (ds.eraseIdx n)
  | _, _, _, .nil => .nil
  | _, _, 0, .cons _ a => a
  | _, _, n + 1, .cons q a => .cons q (a.erase n)
theorem RpAll.snoc {vs : List V} {ds : List D} {v : V} {d : D} (a : RpAll K F vs ds) (h : Rp K F v d) : RpAll K F (vs ++ [v]) (ds ++ [d]) := a.app (.cons h .nil)
theorem RpAll.rev {vs : List V} {ds : List D} (a : RpAll K F vs ds) : RpAll K F vs.reverse ds.reverse := by
  induction vs generalizing ds with
  | nil => cases a; exact .nil
  | cons v vs ih =>
    cases a with
    | cons h a => rw [List.reverse_cons, List.reverse_cons]; exact (ih a).snoc h
theorem RpAll.rep {vs : List V} {ds : List D} (a : RpAll K F vs ds) : ∀ k : Nat, RpAll K F (List.replicate k vs).flatten (List.replicate k ds).flatten
  | 0 => .nil
  | k + 1 => by
    rw [List.replicate_succ, List.replicate_succ, List.flatten_cons, List.flatten_cons]
    exact a.app (a.rep k)
theorem RpKV.keys : ∀ {vs : List (Key × V)} {ds : List (Key × D)}, RpKV K F vs ds → vs.map (·.1) = ds.map (·.1)
  | _, _, .nil => rfl
  | _, _, .cons _ a => by rw [List.map_cons, List.map_cons, a.keys]
end

inductive Slot where
  | un | val (d : D) | own (d : D) | io (d : D)
abbrev Ee : Type := List Slot

/-- what an object of one's own holds -/
inductive RpO (K : PySem.W.Frag) (F : Hp) : HO → D → Prop where
  | lst {vs : List V} {ds : List D} : RpAll K F vs ds → RpO K F (.lst vs) (.lst ds)
  | dct {vs : List (Key × V)} {ds : List (Key × D)} : RpKV K F vs ds → RpO K F (.dK vs) (.dct ds)
theorem RpO.mono {K : PySem.W.Frag} {F F' : Hp} (s : Leq F F') {o : HO} {d : D} (h : RpO K F o d) : RpO K F' o d := by
  cases h with
  | lst a => exact .lst (a.mono s)
  | dct a => exact .dct (a.mono s)
def RpS (K : PySem.W.Frag) (F H : Hp) (p : Addr) (d : D) : Prop := F p = none ∧ ∃ o, H p = some o ∧ RpO K F o d

/-- the slot i holds an object of one's own at a -/
def Own (en : Ee) (σ : L2.St) (a : Addr) : Prop := ∃ (i : Nat) (d : D), (en[i]? = some (.own d) ∨ en[i]? = some (.io d)) ∧ σ[i]? = some (some (.ref a))

structure Rel (K : PySem.W.Frag) (en : Ee) (σ : L2.St) (H F : Hp) : Prop where
  sub : Same F H
  len : σ.length = en.length
  val : ∀ (i : Nat) (d : D), en[i]? = some (.val d) → ∃ v : V, σ[i]? = some (some v) ∧ Rp K F v d
  own : ∀ (i : Nat) (d : D), en[i]? = some (.own d) ∨ en[i]? = some (.io d) → ∃ p : Addr, σ[i]? = some (some (V.ref p)) ∧ RpS K F H p d
  inj : ∀ (i j : Nat) (d e : D) (p : Addr), (en[i]? = some (.own d) ∨ en[i]? = some (.io d)) → (en[j]? = some (.own e) ∨ en[j]? = some (.io e)) → σ[i]? = some (some (.ref p)) → σ[j]? = some (some (.ref p)) → i = j

structure Step (en : Ee) (σ : L2.St) (H F : Hp) (en' : Ee) (σ' : L2.St) (H' F' : Hp) : Prop where
  grow : Leq F F'
  fresh : ∀ a, F a = none → F' a ≠ none → H a = none ∨ Own en σ a
  keep : ∀ a o, H a = some o → F a = none → ¬ Own en σ a → H' a = some o
  sub : ∀ a, Own en' σ' a → H a = none ∨ Own en σ a
  io : ∀ (i : Nat) (d : D), en[i]? = some (.io d) → σ'[i]? = σ[i]? ∧ ∃ d', en'[i]? = some (.io d')
  there : ∀ a, H' a = none → H a = none

theorem Step.refl (en : Ee) (σ : L2.St) (H F : Hp) : Step en σ H F en σ H F :=
  ⟨Leq.refl F, fun a h h' => absurd h h', fun _ _ h _ _ => h, fun _ h => .inr h, fun i d h => ⟨rfl, d, h⟩, fun _ h => h⟩
theorem Step.trans {en en1 en2 : Ee} {σ σ1 σ2 : L2.St} {H F H1 F1 H2 F2 : Hp} (a : Step en σ H F en1 σ1 H1 F1) (b : Step en1 σ1 H1 F1 en2 σ2 H2 F2) : Step en σ H F en2 σ2 H2 F2 where
  grow := a.grow.trans b.grow
  fresh := fun x h h' => by
    by_cases h1 : F1 x = none
    · rcases b.fresh x h1 h' with q | q
      · exact .inl (a.there x q)
      · exact a.sub x q
    · exact a.fresh x h h1
  keep := fun x o h f n => by
    refine b.keep x o (a.keep x o h f n) ?_ fun w => ?_
    · cases e : F1 x with
      | none => rfl
      | some u =>
        rcases a.fresh x f (by rw [e]; simp) with q | q
        · rw [q] at h; cases h
        · exact absurd q n
    · rcases a.sub x w with q | q
      · rw [q] at h; cases h
      · exact n q
  sub := fun x w => by
    rcases b.sub x w with q | q
    · exact .inl (a.there x q)
    · exact a.sub x q
  io := fun i d h => by
    obtain ⟨e1, d1, h1⟩ := a.io i d h
    obtain ⟨e2, d2, h2⟩ := b.io i d1 h1
    exact ⟨e2.trans e1, d2, h2⟩
  there := fun x h => a.there x (b.there x h)
/-- what was not one's own and stood, stands -/
theorem Step.notNone {en en1 : Ee} {σ σ1 : L2.St} {H F H1 F1 : Hp} (a : Step en σ H F en1 σ1 H1 F1) {x : Addr} (h : H1 x = none) : H x = none ∨ Own en σ x := .inl (a.there x h)

section
variable {K : PySem.W.Frag} {en : Ee} {σ : L2.St} {H F : Hp}
theorem Rel.notOwn (R : Rel K en σ H F) {a : Addr} (h : H a = none) : ¬ Own en σ a := fun ⟨i, d, hi, e⟩ => by
  obtain ⟨p, e', _, o, ho, _⟩ := R.own i d hi
  rw [e] at e'
  cases e'
  rw [h] at ho; cases ho
theorem Rel.ownF (R : Rel K en σ H F) {a : Addr} (h : Own en σ a) : F a = none := by
  obtain ⟨i, d, hi, e⟩ := h
  obtain ⟨p, e', hf, _⟩ := R.own i d hi
  rw [e] at e'
  cases e'
  exact hf
theorem Rel.nF (R : Rel K en σ H F) {a : Addr} (h : H a = none) : F a = none := R.sub.free h
/-- a new object, not yet anybody's -/
theorem Rel.alloc (R : Rel K en σ H F) {p : Addr} {o : HO} (h : H p = none) : Rel K en σ (upd H p o) F where
  sub := fun b u e => by rw [upd_ne (ne_of_none (R.sub b u e) h)]; exact R.sub b u e
  len := R.len
  val := R.val
  own := fun i d hi => by
    obtain ⟨q, e, hf, u, hu, r⟩ := R.own i d hi
    exact ⟨q, e, hf, u, by rw [upd_ne (ne_of_none hu h)]; exact hu, r⟩
  inj := R.inj
theorem Step.alloc {p : Addr} {o : HO} (h : H p = none) : Step en σ H F en σ (upd H p o) F where
  grow := Leq.refl F
  fresh := fun a h h' => absurd h h'
  keep := fun a u e _ _ => by rw [upd_ne (ne_of_none e h)]; exact e
  sub := fun _ h => .inr h
  io := fun i d h => ⟨rfl, d, h⟩
  there := fun a e => by
    by_cases ha : a = p
    · subst ha; exact h
    · rw [upd_ne ha] at e; exact e
/-- it is frozen -/
theorem sameUpd {p : Addr} {o : HO} (h : F p = none) : Same F (upd F p o) := fun b u e => by rw [upd_ne (ne_of_none e h)]; exact e
theorem leqUpd {p : Addr} {o : HO} (h : F p = none) : Leq F (upd F p o) := Leq.of (sameUpd h)
theorem Rel.freeze (R : Rel K en σ H F) {p : Addr} {o : HO} (h : F p = none) (ho : H p = some o) (n : ¬ Own en σ p) : Rel K en σ H (upd F p o) where
  sub := fun b u e => by
    by_cases hb : b = p
    · subst hb; rw [upd_same] at e; cases e; exact ho
    · rw [upd_ne hb] at e; exact R.sub b u e
  len := R.len
  val := fun i d hi => by
    obtain ⟨v, e, r⟩ := R.val i d hi
    exact ⟨v, e, r.mono (leqUpd h)⟩
  own := fun i d hi => by
    obtain ⟨q, e, hf, u, hu, r⟩ := R.own i d hi
    have hq : q ≠ p := fun z => n ⟨i, d, hi, by rw [← z]; exact e⟩
    exact ⟨q, e, by rw [upd_ne hq]; exact hf, u, hu, r.mono (leqUpd h)⟩
  inj := R.inj
/-- what is new since H is frozen -/
theorem Step.freeze {en' : Ee} {σ' : L2.St} {H' F' : Hp} (a : Step en σ H F en' σ' H' F') {p : Addr} {o : HO} (h : F' p = none) (hn : H p = none ∨ Own en σ p) : Step en σ H F en' σ' H' (upd F' p o) where
  grow := a.grow.trans (leqUpd h)
  fresh := fun x e e' => by
    by_cases hx : x = p
    · subst hx; exact hn
    · rw [upd_ne hx] at e'; exact a.fresh x e e'
  keep := a.keep
  sub := a.sub
  io := a.io
  there := a.there
end

end Vg

set_option Elab.async false
set_option linter.all false
set_option maxRecDepth 100000
set_option maxHeartbeats 2000000
namespace Vg
open PySem PySem.Spec PyProof.Rows L2

/-- what the written part says of a class of exceptions at C, which lies over the built-in class B -/
structure XCls (K : PySem.W.Frag) (C : Addr) : Prop where
  keep : PySem.W.keepIn K (.ref C) = true
  sa : PySem.W.findIn K (.ref C) "__setattr__" = some (some (.builtin "object.__setattr__"))
  ga : PySem.W.findIn K (.ref C) "__getattribute__" = some (some (.builtin "BaseException.__getattribute__"))
  gg : PySem.W.findIn K (.ref C) "__getattr__" = some none
  ex : PySem.W.subIn K (.ref C) (.type "BaseException") = some true
  ty : PySem.W.typeIn K (.ref C) = some (.type "type")
  hd : PySem.W.hasDictIn K C = true
  cl : PySem.W.findIn K (.ref C) "__class__" = some (some (.builtin "object.__class__"))
  cn : PySem.W.specialIn K (.builtin "object.__class__") "__get__" = some (some (.builtin "getset_descriptor.__get__"))
  ct : PySem.W.takesIn K (.builtin "object.__class__") = some true
  top : PySem.W.mroIn K C (.type "object") = some true

namespace Xa
open PySem.W PySem.Calls PySem.HandSPX Builtin Builtin.ObjectAttr
section
variable {prog : Program} {w : World} {A : Around} {R : Result → Shared → Prop} {hp : Heap} {g : Array GenState} {dr : Drawn} {t : Nat} {os : OsState}
/-- an exception's object as it is made -/
abbrev exB (C T : Addr) (od : Option Addr) : Obj := { cls := .ref C, dict := od, data := .fields #[.ref T, .none, .none, .none, .bool false, .none] }
/-- me.f = v, the first one -/
theorem put1 {K : Frag} {f : Str} {tk : Tok} {v : Value} {me C T : Addr} {cd : ClassData} (X : K.In hp) (hme : hp.get? me = some (exB C T none))
    (hc : clsIn K C = some cd) (pass : ∀ z, refuseLoop z "__setattr__" cd.mro = pure ()) (top : mroIn K C (.type "object") = some true) (dict : cd.hasDict = true) (no : findIn K (.ref C) f = some none)
    (k : ∀ h' tk' D, (∀ b o, b ≠ me → hp.get? b = some o → h'.get? b = some o) → hp.objs.size ≤ D → D ≠ me → h'.get? me = some (exB C T (some D)) →
      h'.Ns1 D (fun y => if y = f then some v else none) → R (.ok (.ret .none)) ⟨h', g, dr, tk', os⟩) :
    codeAny (model prog w) A (.call (.builtin "object.__setattr__") ⟨[.ref me, .str f tk, v], []⟩) R ⟨hp, g, dr, t, os⟩ := by
  have J : InstAt hp me (exB C T none) C none := ⟨hme, rfl, rfl, trivial⟩
  have Z := F.store_object
  have far : me ≠ hp.objs.size := Nat.ne_of_lt (Heap.lt_size hme)
  have s1 : Looks (model prog w) hp (isInstance (.ref me) (.type "object")) true := J.type.andThen (looks_mroIn X top)
  refine codeAny_call_builtin Z.slot.plain Z.entry (@check_slot (model prog w) _ _ ⟨hp, g, dr, t, os⟩ "object.__setattr__" "object" "__setattr__" (.ref me) [.str f tk, v] [] _ Z.kind Z.split s1
    (Z.args (.ref me) (.str f tk) v) ?_)
  have l1 : Looks (model prog w) hp (mroOf (.ref C)) cd.mro := (looks_clsIn X hc).andThen .now
  have l2 : Looks (model prog w) hp (storeTaker? none) none := .now
  have l3 : Looks (model prog w) hp (classData C) cd := looks_clsIn X hc
  rw [osa_eq, refuse_eq]
  refine wpAny_bind (wpAny_bind (J.type.at (wpAny_bind (l1.at ?_))))
  rw [pass]
  refine wpAny_pure (wpAny_bind (J.type.at (wpAny_bind ((looks_findIn X no).at (wpAny_bind (l2.at ?_))))))
  show wpAny _ _ (storeInOwnDict (.ref me) (.ref C) (.str f tk) f v false) _ _ _
  obtain ⟨a1, a2, a3, a4, a5, a6, a7, a8, a9, a10, a11⟩ := cd
  dsimp only at dict
  subst dict
  unfold storeInOwnDict ownDictForStores
  repeat (first
    | with_reducible refine store_in_new ?_ ?_
    | with_reducible refine wpAny_loadPart_at hme ?_
    | with_reducible refine l3.at ?_
    | wp_step)
  · exact ⟨_, #[], _, (Heap.get?_update_ne _ _ _ _ far.symm).trans (Heap.get?_push_at rfl rfl), rfl, fun e he => absurd he (by simp), fun _ => rfl⟩
  · intro h' tk' n1 sb
    have old : (hp.push { cls := .type "dict", data := .dict #[] }).get? me = some (exB C T none) := Heap.get?_push_of_some _ hme
    refine k h' tk' hp.objs.size (fun b o hb ho => ?_) (Nat.le_refl _) far.symm ?_ n1
    · exact (sb.2 b (Nat.ne_of_lt (Heap.lt_size ho))).trans ((Heap.get?_update_ne _ _ _ _ hb).trans (Heap.get?_push_of_some _ ho))
    · exact (sb.2 me far).trans (Heap.get?_update_self _ old rfl)
/-- me.f = v, a further one -/
theorem put2 {K : Frag} {f : Str} {tk : Tok} {v : Value} {me C T D : Addr} {cd : ClassData} {m0 : Str → Option Value} {nl : List Str} (X : K.In hp) (hme : hp.get? me = some (exB C T (some D))) (hn : hp.Ns1 D m0) (hw : Within m0 nl)
    (hz : nl.length ≤ 1000) (hc : clsIn K C = some cd) (pass : ∀ z, refuseLoop z "__setattr__" cd.mro = pure ()) (top : mroIn K C (.type "object") = some true) (dict : cd.hasDict = true) (no : findIn K (.ref C) f = some none)
    (k : ∀ h' tk', (∀ b o, b ≠ D → hp.get? b = some o → h'.get? b = some o) → h'.Ns1 D (fun y => if y = f then some v else m0 y) → R (.ok (.ret .none)) ⟨h', g, dr, tk', os⟩) :
    codeAny (model prog w) A (.call (.builtin "object.__setattr__") ⟨[.ref me, .str f tk, v], []⟩) R ⟨hp, g, dr, t, os⟩ := by
  obtain ⟨oD, e1, e2, hD, e4, _⟩ := hn.count hw
  have J : InstAt hp me (exB C T (some D)) C (some oD) := ⟨hme, rfl, rfl, hD⟩
  have Z := F.store_object
  have s1 : Looks (model prog w) hp (isInstance (.ref me) (.type "object")) true := J.type.andThen (looks_mroIn X top)
  refine codeAny_call_builtin Z.slot.plain Z.entry (@check_slot (model prog w) _ _ ⟨hp, g, dr, t, os⟩ "object.__setattr__" "object" "__setattr__" (.ref me) [.str f tk, v] [] _ Z.kind Z.split s1
    (Z.args (.ref me) (.str f tk) v) ?_)
  have l1 : Looks (model prog w) hp (mroOf (.ref C)) cd.mro := (looks_clsIn X hc).andThen .now
  have l2 : Looks (model prog w) hp (storeTaker? none) none := .now
  have l3 : Looks (model prog w) hp (classData C) cd := looks_clsIn X hc
  rw [osa_eq, refuse_eq]
  refine wpAny_bind (wpAny_bind (J.type.at (wpAny_bind (l1.at ?_))))
  rw [pass]
  refine wpAny_pure (wpAny_bind (J.type.at (wpAny_bind ((looks_findIn X no).at (wpAny_bind (l2.at ?_))))))
  show wpAny _ _ (storeInOwnDict (.ref me) (.ref C) (.str f tk) f v false) _ _ _
  obtain ⟨a1, a2, a3, a4, a5, a6, a7, a8, a9, a10, a11⟩ := cd
  dsimp only at dict
  subst dict
  unfold storeInOwnDict ownDictForStores
  repeat (first
    | with_reducible refine PySem.OEX.store_in_old hn hw hz ?_
    | with_reducible refine wpAny_loadPart_at hme ?_
    | with_reducible refine l3.at ?_
    | wp_step)
  intro h' tk' n1 sb
  exact k h' tk' (fun b o hb ho => (sb.2 b hb).trans ho) n1
end
/-- the text: self.f = f, for each field -/
def iniB : List Str → List Stmt → Bool
  | [], [] => true
  | f :: fs, s :: r => (match s with
    | .Assign [.Attribute (.Name a _) b _] (.Name y _) _ => decide (a = "self") && decide (b = f) && decide (y = f)
    | _ => false) && iniB fs r
  | _, _ => false
/-- what is stored so far, in m -/
def putM : List (Str × Value) → (Str → Option Value) → Str → Option Value
  | [], m => m
  | (f, v) :: r, m => putM r fun y => if y = f then some v else m y
theorem bindL_at {kd : Str → Option NameKind} : ∀ {bs : List (Str × Value)} {m : Str → Option Value} {y : Str} {v : Value}, (∀ b ∈ bs, kd b.1 = some .local) → (bs.map (·.1)).Nodup → (y, v) ∈ bs → bindL kd bs m y = some v
  | (n, u) :: r, m, y, v, hl, hn, hm => by
    unfold bindL
    rw [if_pos (hl _ (List.mem_cons_self ..))]
    rw [List.map_cons, List.nodup_cons] at hn
    rcases List.mem_cons.mp hm with e | e
    · cases e
      have key : ∀ (l : List (Str × Value)) (m : Str → Option Value), (∀ b ∈ l, kd b.1 = some .local) → n ∉ l.map (·.1) → bindL kd l m n = m n := by
        intro l
        induction l with
        | nil => intro m _ _; rfl
        | cons b l ih =>
          intro m h1 h2
          obtain ⟨b1, b2⟩ := b
          rw [List.map_cons, List.mem_cons, not_or] at h2
          unfold bindL
          rw [if_pos (h1 _ (List.mem_cons_self ..)), ih _ (fun x hx => h1 x (List.mem_cons_of_mem _ hx)) h2.2]
          exact if_neg h2.1
      rw [key r _ (fun x hx => hl x (List.mem_cons_of_mem _ hx)) hn.1]
      exact if_pos rfl
    · exact bindL_at (fun x hx => hl x (List.mem_cons_of_mem _ hx)) hn.2 e
section
variable {prog : Program} {w : World} {A : Around} {s : Shared}
theorem nameAt {M : Model} {nm : Str} {sc : Scope} {L fa : Addr} {cdv : Value} {m : Str → Option Value} {y : Str} {p : Pos} {v : Value} {Q : Value → Shared → Prop} {E : Value → Shared → Prop} (hn : s.heap.Ns L m) (hv : m y = some v) (h : Q v s)
    (hk : sc.kind = .function) (hl : sc.names.lookup y = some .local) (hd : (y == ("__debug__" : Str)) = false) : wpAny M A (eval (.Name y p) (envOfC nm sc L fa cdv)) Q E s :=
  wpAny_Name (wpAny_loadName_local hk hl hn hv h) hd
/-- what is known of the body's surroundings -/
structure Sur (K : Frag) (C me T : Addr) (sc : Scope) (mL : Str → Option Value) : Prop where
  cd : ∃ cd : ClassData, clsIn K C = some cd ∧ (∀ z, refuseLoop z "__setattr__" cd.mro = pure ()) ∧ cd.hasDict = true
  top : mroIn K C (.type "object") = some true
  sa : findIn K (.ref C) "__setattr__" = some (some (.builtin "object.__setattr__"))
  kd : sc.kind = .function
  self : sc.names.lookup ("self" : Str) = some NameKind.local
  mine : mL "self" = some (.ref me)
  kme : K.lookup me = none
def FldOk (K : Frag) (C : Addr) (sc : Scope) (mL : Str → Option Value) (q : Str × Value) : Prop :=
  findIn K (.ref C) q.1 = some none ∧ sc.names.lookup q.1 = some NameKind.local ∧ mL q.1 = some q.2 ∧ (q.1 == ("__debug__" : Str)) = false
theorem ini_more {K : Frag} {C me T L fa D : Addr} {nm : Str} {sc : Scope} {cdv : Value} {mL : Str → Option Value} {E : Value → Shared → Prop} (S : Sur K C me T sc mL) (kD : K.lookup D = none) (hLm : L ≠ me) (hLD : L ≠ D) (hDm : D ≠ me) :
    ∀ (fs : List (Str × Value)) (body : List Stmt) (s : Shared) (m : Str → Option Value) (nl : List Str) (Q : Flow → Shared → Prop), iniB (fs.map (·.1)) body = true → (∀ q ∈ fs, FldOk K C sc mL q) → nl.length + fs.length ≤ 900 →
      K.In s.heap → s.heap.Ns L mL → s.heap.get? me = some (exB C T (some D)) → s.heap.Ns1 D m → Within m nl →
      (∀ h' tk', (∀ b o, b ≠ D → s.heap.get? b = some o → h'.get? b = some o) → h'.Ns1 D (putM fs m) → Q .next { s with heap := h', toks := tk' }) → wpAny (model prog w) A (execs body (envOfC nm sc L fa cdv)) Q E s := by
  intro fs
  induction fs with
  | nil =>
    intro body s m nl Q hb _ _ _ _ _ h1 _ k
    cases body with
    | cons _ _ => cases hb
    | nil => exact wpAny_execs_nil (k s.heap s.toks (fun _ _ _ e => e) h1)
  | cons q fs ih =>
    intro body s m nl Q hb hq hz X hn ho n1 hw k
    obtain ⟨f, v⟩ := q
    cases body with
    | nil => cases hb
    | cons st body =>
      rw [List.map_cons] at hb
      unfold iniB at hb
      rw [Bool.and_eq_true] at hb
      obtain ⟨h1, h2⟩ := hb
      split at h1
      · rename_i a p1 b p2 y p3 p4
        rw [Bool.and_eq_true, Bool.and_eq_true, decide_eq_true_eq, decide_eq_true_eq, decide_eq_true_eq] at h1
        obtain ⟨⟨e1, e2⟩, e3⟩ := h1
        have e2' : b = f := e2
        have e3' : y = f := e3
        subst e1 e2' e3'
        obtain ⟨q1, q2, q3, q4⟩ := hq (y, v) (List.mem_cons_self ..)
        obtain ⟨cd, c1, c2, c3⟩ := S.cd
        refine wpAny_execs_cons (plainObj_wpAny_Assign_Attribute ?_)
        refine nameAt hn q3 (nameAt hn S.mine ?_ S.kd S.self (by decide)) S.kd q2 q4
        obtain ⟨hp, g, dr, t, os⟩ := s
        rw [List.length_cons] at hz
        obtain ⟨oD, _, _, hD, _, _⟩ := n1.count hw
        refine set_plain X (ox := exB C T (some D)) (od := some oD) ⟨ho, rfl, rfl, hD⟩ S.sa ?_
        refine put2 X ho n1 hw (by omega) c1 c2 S.top c3 q1 fun h' tk' k1 n2 => ?_
        refine ih body ⟨h', g, dr, tk', os⟩ _ (y :: nl) Q h2 (fun z hz => hq z (List.mem_cons_of_mem _ hz)) (by rw [List.length_cons]; omega) (fun b o e => k1 b o (fun z => by rw [z, kD] at e; cases e) (X b o e))
          (hn.at fun o e => k1 L o hLD e) (k1 me _ (Ne.symm hDm) ho) n2 (Within.cons y v hw) fun h3 tk3 k3 n3 => ?_
        exact k h3 tk3 (fun b o hb e => k3 b o hb (k1 b o hb e)) n3
      · cases h1
/-- the whole body, from an exception without a dict -/
theorem ini_body {K : Frag} {C me T L fa : Addr} {nm : Str} {sc : Scope} {cdv : Value} {mL : Str → Option Value} {E : Value → Shared → Prop} (S : Sur K C me T sc mL) (hLm : L ≠ me)
    {q : Str × Value} {fs : List (Str × Value)} {body : List Stmt} {s : Shared} {Q : Flow → Shared → Prop} (hb : iniB ((q :: fs).map (·.1)) body = true) (hq : ∀ z ∈ q :: fs, FldOk K C sc mL z) (hz : fs.length ≤ 800) (kB : ∀ a, s.heap.objs.size ≤ a → K.lookup a = none)
    (X : K.In s.heap) (hn : s.heap.Ns L mL) (ho : s.heap.get? me = some (exB C T none))
    (k : ∀ h' tk' D, (∀ b o, b ≠ me → s.heap.get? b = some o → h'.get? b = some o) → s.heap.objs.size ≤ D → D ≠ me → h'.get? me = some (exB C T (some D)) → h'.Ns1 D (putM (q :: fs) fun _ => none) → Q .next { s with heap := h', toks := tk' }) :
    wpAny (model prog w) A (execs body (envOfC nm sc L fa cdv)) Q E s := by
  obtain ⟨f, v⟩ := q
  cases body with
  | nil => cases hb
  | cons st body =>
    rw [List.map_cons] at hb
    unfold iniB at hb
    rw [Bool.and_eq_true] at hb
    obtain ⟨h1, h2⟩ := hb
    split at h1
    · rename_i a p1 b p2 y p3 p4
      rw [Bool.and_eq_true, Bool.and_eq_true, decide_eq_true_eq, decide_eq_true_eq, decide_eq_true_eq] at h1
      obtain ⟨⟨e1, e2⟩, e3⟩ := h1
      have e2' : b = f := e2
      have e3' : y = f := e3
      subst e1 e2' e3'
      obtain ⟨q1, q2, q3, q4⟩ := hq (y, v) (List.mem_cons_self ..)
      obtain ⟨cd, c1, c2, c3⟩ := S.cd
      refine wpAny_execs_cons (plainObj_wpAny_Assign_Attribute ?_)
      refine nameAt hn q3 (nameAt hn S.mine ?_ S.kd S.self (by decide)) S.kd q2 q4
      obtain ⟨hp, g, dr, t, os⟩ := s
      refine set_plain X (ox := exB C T none) (od := none) ⟨ho, rfl, rfl, trivial⟩ S.sa ?_
      refine put1 X ho c1 c2 S.top c3 q1 fun h' tk' D k1 dn dne ho' n1 => ?_
      have hLD : L ≠ D := fun z => by rw [← z] at dn; exact absurd (Nat.lt_of_lt_of_le hn.lt dn) (Nat.lt_irrefl _)
      refine ini_more S (kB D dn) hLm hLD dne fs body ⟨h', g, dr, tk', os⟩ _ [y] Q h2 (fun z hz => hq z (List.mem_cons_of_mem _ hz)) (by simp; omega) (fun b o e => k1 b o (fun z => by rw [z, S.kme] at e; cases e) (X b o e))
        (hn.at fun o e => k1 L o hLm e) ho' n1 (Within.cons y v Within.nil) fun h3 tk3 k3 n3 => ?_
      have nD : ∀ b o, hp.get? b = some o → b ≠ D := fun b o e z => by rw [z] at e; exact absurd (Nat.lt_of_lt_of_le (Heap.lt_size e) dn) (Nat.lt_irrefl _)
      exact k h3 tk3 D (fun b o hb e => k3 b o (nD b o e) (k1 b o hb e)) dn dne (k3 me _ (Ne.symm dne) ho') n3
    · cases h1
end
end Xa
/-- what the written part says of the class at C whose own __init__, at fI, stores nms -/
structure XIni (K : PySem.W.Frag) (C fI : Addr) (nms : List Str) (fd : FuncData) : Prop where
  cls : ∃ (B newId initId : String) (bmB : List Value) (nm q : Str) (N : Addr) (bs bm : List Value) (sn : List Str) (sub : List Value) (ab : Bool) (col : Option Bool) (dd : Option Addr) (k0 k1 k2 k3 k5 : Option Value),
    ExcBaseFacts B newId initId bmB ∧ K.lookup C = some (excClassObj nm q C N bs bm true sn sub ab col dd k0 k1 k2 k3 k5 newId) ∧ (∀ X : String, bm.contains (.type X) = bmB.contains (.type X)) ∧ ∀ z, PySem.refuseLoop z "__setattr__" (.ref C :: bm) = pure ()
  iC : PySem.W.findIn K (.ref C) "__init__" = some (some (.ref fI))
  tI : PySem.W.typeIn K (.ref fI) = some (.type "function")
  nd : (("self" : Str) :: nms).Nodup
  ne : nms ≠ []
  sz : nms.length ≤ 10
  no : ∀ f ∈ nms, PySem.W.findIn K (.ref C) f = some none ∧ (f == ("__debug__" : Str)) = false
  fn : ∃ (oc : Value) (od : Option Addr) (qual : Str) (params : Arguments) (body : List Stmt) (scope : Scope) (dV kV doc pm : Value) (an : Option Addr) (cdv ct : Value) (osl : Array (Option Value)), fd = PySem.W.fnOf "__init__" qual params body scope dV kV doc pm an cdv ct ∧
    K.lookup fI = some ⟨oc, od, .func fd, osl⟩ ∧ PySem.W.codeIn K cdv qual = true ∧ Xa.iniB nms body = true ∧ scope.kind = .function ∧ scope.isCoroutine = false ∧ scope.isGenerator = false ∧ ∀ y ∈ ("self" : Str) :: nms, scope.names.lookup y = some NameKind.local
namespace Xa
open PySem.W PySem.Calls PySem.HandSPX Builtin Builtin.ObjectAttr
section
variable {prog : Program} {w : World} {A : Around} {K : Frag} {C fI : Addr} {nms : List Str} {fd : FuncData}
theorem lookNone {h : Heap} (X : K.In h) {a : Addr} (ha : h.objs.size ≤ a) : K.lookup a = none := by
  cases e : K.lookup a with
  | none => rfl
  | some o => exact absurd (Nat.lt_of_lt_of_le (Heap.lt_size (X a o e)) ha) (Nat.lt_irrefl _)
theorem zip_fst {α β : Type} : ∀ {l : List α} {r : List β}, l.length = r.length → (l.zip r).map (·.1) = l
  | [], _, _ => rfl
  | a :: l, [], h => by cases h
  | a :: l, b :: r, h => by rw [List.zip_cons_cons, List.map_cons, zip_fst (by simpa using h)]
/-- __init__, from its frame to its end -/
theorem ini_run (T : XCls K C) (I : XIni K C fI nms fd) {s : Shared} {me T0 : Addr} {args : Args} {us : List Value} {R : Result → Shared → Prop} (X : K.In s.heap) (lim : s.heap.NoLimit) (ho : s.heap.get? me = some (exB C T0 none)) (kme : K.lookup me = none) (room : A.depth < recursionLimit)
    (bd : BindsTo s fd args (("self", .ref me) :: nms.zip us)) (hl : us.length = nms.length)
    (k : ∀ h' tk' D, (∀ b o, b ≠ me → s.heap.get? b = some o → h'.get? b = some o) → s.heap.objs.size ≤ D → D ≠ me → h'.get? me = some (exB C T0 (some D)) → h'.Ns1 D (putM (nms.zip us) fun _ => none) → R (.ok (.ret .none)) { s with heap := h', toks := tk' }) :
    codeAny (model prog w) A (.call (.ref fI) args) R s := by
  obtain ⟨oc, od, qual, params, body, scope, dV, kV, doc, pm, an, cdv, ct, osl, rfl, lk, hcd, hb, hk, hco, hgen, hloc⟩ := I.fn
  obtain ⟨B, newId, initId, bmB, nm, q, N, bs, bm, sn, sub, ab, col, dd, k0, k1, k2, k3, k5, FB, hC, hT, pass⟩ := I.cls
  have ez : (nms.zip us).map (·.1) = nms := zip_fst hl.symm
  have locs : ∀ b ∈ (("self", .ref me) :: nms.zip us : List (Str × Value)), scope.names.lookup b.1 = some NameKind.local := fun b hb => by
    refine hloc b.1 ?_
    rw [← ez]
    rcases List.mem_cons.mp hb with e | e
    · rw [e]; exact List.mem_cons_self ..
    · exact List.mem_cons_of_mem _ (List.mem_map_of_mem e)
  have nds : ((("self", .ref me) :: nms.zip us : List (Str × Value)).map (·.1)).Nodup := by
    rw [List.map_cons, ez]
    exact I.nd
  refine Att.call_fn X lim lk hcd room bd ?_ (fun s1 IC => ?_) hco hgen hk
  · rw [List.all_eq_true]
    intro b hb
    rw [locs b hb]
    rfl
  · obtain ⟨h1, tk1, rfl⟩ := IC.toInCall.same
    have keep : ∀ b o, s.heap.get? b = some o → h1.get? b = some o := IC.toInCall.keep
    have hn := IC.toInCall.ns
    have X1 : K.In h1 := X.keeps keep
    have hLm : s.heap.objs.size ≠ me := Nat.ne_of_gt (Heap.lt_size ho)
    have S : Sur K C me T0 scope (bindL (envOfC qual scope s.heap.objs.size fI cdv).kindOf (("self", .ref me) :: nms.zip us) fun _ => none) :=
      { cd := ⟨_, (by unfold clsIn; rw [hC] <;> rfl), pass, rfl⟩
        top := T.top
        sa := T.sa
        kd := hk
        self := hloc _ (List.mem_cons_self ..)
        mine := bindL_at locs nds (List.mem_cons_self ..)
        kme := kme }
    have fld0 : ∀ z ∈ nms.zip us, FldOk K C scope (bindL (envOfC qual scope s.heap.objs.size fI cdv).kindOf (("self", .ref me) :: nms.zip us) fun _ => none) z := fun z hz => by
      have hm : z.1 ∈ nms := by rw [← ez]; exact List.mem_map_of_mem hz
      exact ⟨(I.no _ hm).1, hloc _ (List.mem_cons_of_mem _ hm), bindL_at locs nds (List.mem_cons_of_mem _ hz), (I.no _ hm).2⟩
    have zsz : (nms.zip us).length ≤ 10 := by rw [List.length_zip]; have := I.sz; omega
    have ne : nms.zip us ≠ [] := fun z => I.ne (by rw [← ez, z]; rfl)
    obtain ⟨q0, fs, e0⟩ : ∃ q0 fs, nms.zip us = q0 :: fs := by
      cases e : nms.zip us with
      | nil => exact absurd e ne
      | cons a b => exact ⟨a, b, rfl⟩
    have fld := fun z (hz : z ∈ q0 :: fs) => fld0 z (by rw [e0]; exact hz)
    rw [e0] at zsz
    have eb : iniB ((q0 :: fs).map (·.1)) body = true := by rw [← e0, ez]; exact hb
    have szL : s.heap.objs.size < h1.objs.size := hn.lt
    refine ini_body (q := q0) (fs := fs) S hLm eb fld (by rw [List.length_cons] at zsz; omega) (fun a ha => lookNone X1 ha) X1 hn (keep _ _ ho) fun h' tk' D k1 dn dne ho' n1 => ?_
    rw [← e0] at n1
    exact k h' tk' D (fun b o hb e => k1 b o hb (keep b o e)) (Nat.le_of_lt (Nat.lt_of_lt_of_le szL dn)) dne ho' n1
/-- C(..): the exception made -/
theorem made (T : XCls K C) (I : XIni K C fI nms fd) {s : Shared} {rest : List Value} {us : List Value} {R : Result → Shared → Prop} (X : K.In s.heap) (lim : s.heap.NoLimit) (room : A.depth + 1 < recursionLimit) (hr : rest.length ≤ sizeLine)
    (bd : ∀ (s' : Shared) (me : Addr), K.In s'.heap → BindsTo s' fd ⟨.ref me :: rest, []⟩ (("self", .ref me) :: nms.zip us)) (hl : us.length = nms.length)
    (k : ∀ h' tk' e T0 D, (∀ b o, s.heap.get? b = some o → h'.get? b = some o) → s.heap.objs.size ≤ e → s.heap.objs.size ≤ D → D ≠ e → h'.get? e = some (exB C T0 (some D)) → h'.Ns1 D (putM (nms.zip us) fun _ => none) → R (.ok (.ret (.ref e))) { s with heap := h', toks := tk' }) :
    codeAny (model prog w) A (.call (.ref C) ⟨rest, []⟩) R s := by
  obtain ⟨B, newId, initId, bmB, nm, q, N, bs, bm, sn, sub, ab, col, dd, k0, k1, k2, k3, k5, FB, hC, hT, pass⟩ := I.cls
  obtain ⟨hp, g, dr, tk, os⟩ := s
  have up : ∀ b o, hp.get? b = some o → ((hp.push (kdv_tup rest)).push (excO C hp.objs.size)).get? b = some o := fun b o e => Heap.get?_push_of_some _ (Heap.get?_push_of_some _ e)
  have mine : ((hp.push (kdv_tup rest)).push (excO C hp.objs.size)).get? (hp.objs.size + 1) = some (excO C hp.objs.size) := by heap_get
  have km : K.lookup (hp.objs.size + 1) = none := lookNone X (Nat.le_succ _)
  refine call_own FB hT (X _ _ hC) (looks_findIn X I.iC) (fun self => bind_fn X self I.tI) hr ?_
  refine ini_run (s := ⟨(hp.push (kdv_tup rest)).push (excO C hp.objs.size), g, dr, tk, os⟩) T I (X.keeps up) (lim.keeps up) mine km ?_ (bd _ _ (X.keeps up)) hl fun h' tk' D kk dn dne ho n1 => ?_
  · exact room
  · have old : ∀ b o, hp.get? b = some o → h'.get? b = some o := fun b o e => kk b o (Nat.ne_of_lt (Nat.lt_succ_of_lt (Heap.lt_size e))) (up b o e)
    have z : hp.objs.size ≤ D := by
      have q := dn
      rw [Heap.size_push, Heap.size_push] at q
      omega
    exact ⟨rfl, k h' tk' (hp.objs.size + 1) _ D old (Nat.le_succ _) z dne ho n1⟩
end
end Xa
end Vg


set_option Elab.async false
set_option linter.all false
set_option maxRecDepth 100000
set_option maxHeartbeats 4000000
namespace Vg
open PySem PySem.Spec PyProof.Rows L2
namespace Xa
open PySem.W PySem.Calls PySem.HandSPX Builtin Builtin.ObjectAttr
section
variable {M : Model} {A : Around} {E : Value → Shared → Prop} {h : Heap} {g : Array GenState} {dr : Drawn} {t : Nat} {os : OsState}
variable {nm q : Str} {C N : Addr} {bs bm bmB : List Value} {hd : Bool} {sn : List Str} {sub : List Value} {ab : Bool} {col : Option Bool} {dd : Option Addr} {k0 k1 k2 k3 k5 : Option Value} {B newId initId : String}
variable {rest : List Value} {kw : List (Str × Value)}
theorem chk_new (FB : ExcBaseFacts B newId initId bmB) (hT : ∀ X : String, bm.contains (.type X) = bmB.contains (.type X)) {Q : Unit → Shared → Prop}
    (hC : h.get? C = some (excClassObj nm q C N bs bm hd sn sub ab col dd k0 k1 k2 k3 k5 newId)) (hq : Q () ⟨h, g, dr, t, os⟩) :
    wpAny M A (checkBuiltinCall newId ⟨.ref C :: rest, kw⟩) Q E ⟨h, g, dr, t, os⟩ := by
  have c1 : (Value.ref C :: bm).contains (.type B) = true := by
    rw [List.contains_cons, hT, FB.hasB, Bool.or_true]
  have c2 := FB.noStar
  simp only [checkBuiltinCall, FB.newKind, FB.newSplit, FB.newRow]
  repeat (first
    | refine wpAny_loadPart_at hC ?_
    | (refine wpAny_isSubtype_exc hC ?_; rw [c1])
    | refine wpAny_staticBase_exc hC ?_
    | refine wpAny_madeBy_exc hC ?_
    | simp only [bne_self_eq_false, Bool.false_eq_true, if_false]
    | wp_step)
  exact hq
end
section
variable {prog : Program} {w : World} {A : Around} {E : Value → Shared → Prop} {R : Result → Shared → Prop} {h : Heap} {g : Array GenState} {dr : Drawn} {t : Nat} {os : OsState}
variable {nm q : Str} {C N : Addr} {bs bm bmB : List Value} {hd : Bool} {sn : List Str} {sub : List Value} {ab : Bool} {col : Option Bool} {dd : Option Addr} {k0 k1 k2 k3 k5 : Option Value} {B newId initId : String}
variable {rest : List Value} {kw : List (Str × Value)}
/-- the heap behind __new__ -/
abbrev hNew (h : Heap) (C : Addr) (rest : List Value) : Heap := (h.push (kdv_tup rest)).push (exB C h.objs.size none)
theorem run_new (FB : ExcBaseFacts B newId initId bmB) (hT : ∀ X : String, bm.contains (.type X) = bmB.contains (.type X))
    (hC : h.get? C = some (excClassObj nm q C N bs bm hd sn sub ab col dd k0 k1 k2 k3 k5 newId)) (hq : R (.ok (.ret (.ref (h.objs.size + 1)))) ⟨hNew h C rest, g, dr, t, os⟩) (hr : rest.length ≤ sizeLine) :
    codeAny (model prog w) A (.builtin newId ⟨.ref C :: rest, kw⟩) R ⟨h, g, dr, t, os⟩ := by
  have e0 := FB.ends
  have c1 : (Value.ref C :: bm).contains (.type B) = true := by
    rw [List.contains_cons, hT, FB.hasB, Bool.or_true]
  have c2 : (Value.ref C :: bm).contains (.type "AttributeError") = false := by
    rw [List.contains_cons, hT, FB.noAttr]
    rfl
  have c3 : (Value.ref C :: bm).contains (.type "NameError") = false := by
    rw [List.contains_cons, hT, FB.noName]
    rfl
  refine codeAny_builtinAt FB.entry ?_
  unfold Builtin.«BaseException.__new__»
  refine PySem.wpAt_bind ?_
  show PySem.wpAt _ _ _ (stack >>= _) _ _ _
  refine PySem.wpAt_bind (PySem.wpAt_stack fun p below => PySem.wpAt_of_wpAny ?_)
  wp_walk
  refine PySem.wpAt_of_wpAny ?_
  rw [FB.owner]
  repeat (first
    | with_reducible refine wpAny_madeHere_exc FB.canon hC ?_
    | with_reducible refine wpAny_loadPart_at hC ?_
    | (with_reducible refine wpAny_isSubtype_exc hC ?_
       first | rw [c1] | rw [c2] | rw [c3])
    | wp_step)
  show R _ _
  rw [Heap.size_push]
  exact hq
theorem run_type (FB : ExcBaseFacts B newId initId bmB) (hT : ∀ X : String, bm.contains (.type X) = bmB.contains (.type X)) {fI : Addr} {Q : Fin → Shared → Prop}
    (hC : h.get? C = some (excClassObj nm q C N bs bm hd sn sub ab col dd k0 k1 k2 k3 k5 newId))
    (hi : Looks (model prog w) h (typeLookup (.ref C) "__init__") (some (.ref fI))) (hb : ∀ z, Looks (model prog w) h (bindSpecial (.ref fI) z) (.ref fI, [z])) (hr : rest.length ≤ sizeLine)
    (hq : codeAny (model prog w) A (.call (.ref fI) ⟨.ref (h.objs.size + 1) :: rest, kw⟩) (fun r s' => match r with
      | .ok (.ret v) => v = .none ∧ Q (.done (.ret (.ref (h.objs.size + 1)))) s'
      | .ok _ => False
      | .error e => E e s') ⟨hNew h C rest, g, dr, t, os⟩) : wpAny (model prog w) A (Builtin.«type.__call__» ⟨.ref C :: rest, kw⟩) Q E ⟨h, g, dr, t, os⟩ := by
  repeat (first
    | with_reducible refine wpAny_loadPart_at hC ?_
    | with_reducible refine wpAny_madeBy_exc hC ?_
    | wp_step)
  refine codeAny_call_builtin_code (Code.quiet_builtin _ FB.quiet) (chk_new FB hT hC ?_)
  refine run_new FB hT hC ?_ hr
  show wpAny _ _ _ _ _ _
  have up : ∀ b o, h.get? b = some o → (hNew h C rest).get? b = some o := fun b o e => Heap.get?_push_of_some _ (Heap.get?_push_of_some _ e)
  have hC1 := up _ _ hC
  have mine : (hNew h C rest).get? (h.objs.size + 1) = some (exB C h.objs.size none) := by heap_get
  have cC : (Value.ref C :: bm).contains (.ref C) = true := by simp
  have i1 := hi.keeps up
  have b1 := (hb (.ref (h.objs.size + 1))).keeps up
  unfold isInstance
  repeat (first
    | with_reducible refine wpAny_loadPart_at mine ?_
    | (with_reducible refine wpAny_isSubtype_exc hC1 ?_
       rw [cC])
    | wp_step)
  show wpAny _ _ (typeLookup (.ref C) _) _ _ _
  refine i1.at ?_
  refine wpAny_holding (wpAny_bind (b1.at ?_))
  refine wpAny_bind (wpAny_call (codeAny_mono hq fun r s' z => ?_))
  rcases r with e | (v | _ | _ | _) <;> first | exact z | exact z.elim | skip
  obtain ⟨rfl, z⟩ := z
  first
    | exact wpAny_pure (wpAny_pure z)
    | (wp_walk; exact z)
theorem run_call (FB : ExcBaseFacts B newId initId bmB) (hT : ∀ X : String, bm.contains (.type X) = bmB.contains (.type X)) {fI : Addr}
    (hC : h.get? C = some (excClassObj nm q C N bs bm hd sn sub ab col dd k0 k1 k2 k3 k5 newId))
    (hi : Looks (model prog w) h (typeLookup (.ref C) "__init__") (some (.ref fI))) (hb : ∀ z, Looks (model prog w) h (bindSpecial (.ref fI) z) (.ref fI, [z])) (hr : rest.length ≤ sizeLine)
    (hq : codeAny (model prog w) (A.under (.builtin "type.__call__" ⟨.ref C :: rest, kw⟩)) (.call (.ref fI) ⟨.ref (h.objs.size + 1) :: rest, kw⟩) (InitBack (h.objs.size + 1) R) ⟨hNew h C rest, g, dr, t, os⟩) :
    codeAny (model prog w) A (.call (.ref C) ⟨rest, kw⟩) R ⟨h, g, dr, t, os⟩ := by
  have f1 := tc_lookup
  have f2 := tc_bind (.ref C)
  have hTy : (⟨h, g, dr, t, os⟩ : Shared).TypeIs (.ref C) "type" := ⟨_, hC, rfl⟩
  refine codeAny_of_tree ?_
  show wpAny _ _ (callAny (.ref C) _) _ _ _
  repeat (any_goals (first
    | assumption
    | with_reducible refine wpAny_loadPart_at hC ?_
    | wp_step))
  refine ⟨rfl, ?_⟩
  refine codeAny_call_builtin_at (Code.quiet_builtin _ (by decide +kernel)) entry_typeCall (wpAny_check_type_call_sub hC (run_type FB hT hC hi hb hr ?_))
  refine codeAny_mono hq fun r s' z => ?_
  rcases r with e | (v | _ | _ | _) <;> exact z
end
end Xa
end Vg

set_option Elab.async false
set_option linter.all false
set_option maxRecDepth 100000
set_option maxHeartbeats 2000000
namespace Vg
open PySem PySem.Spec PyProof.Rows L2
namespace Xa
open PySem.W PySem.Calls PySem.HandSPX Builtin Builtin.ObjectAttr
section
variable {prog : Program} {w : World} {A : Around} {K : Frag} {C fI : Addr} {nms : List Str} {fd : FuncData}
/-- C(.., k = v, ..): the exception made -/
theorem madeK (T : XCls K C) (I : XIni K C fI nms fd) {s : Shared} {rest : List Value} {kw : List (Str × Value)} {us : List Value} {R : Result → Shared → Prop} (X : K.In s.heap) (lim : s.heap.NoLimit) (room : A.depth + 1 < recursionLimit) (hr : rest.length ≤ sizeLine)
    (bd : ∀ (s' : Shared) (me : Addr), K.In s'.heap → BindsTo s' fd ⟨.ref me :: rest, kw⟩ (("self", .ref me) :: nms.zip us)) (hl : us.length = nms.length)
    (k : ∀ h' tk' e T0 D, (∀ b o, s.heap.get? b = some o → h'.get? b = some o) → s.heap.objs.size ≤ e → s.heap.objs.size ≤ D → D ≠ e → h'.get? e = some (exB C T0 (some D)) → h'.Ns1 D (putM (nms.zip us) fun _ => none) → R (.ok (.ret (.ref e))) { s with heap := h', toks := tk' }) :
    codeAny (model prog w) A (.call (.ref C) ⟨rest, kw⟩) R s := by
  obtain ⟨B, newId, initId, bmB, nm, q, N, bs, bm, sn, sub, ab, col, dd, k0, k1, k2, k3, k5, FB, hC, hT, pass⟩ := I.cls
  obtain ⟨hp, g, dr, tk, os⟩ := s
  have up : ∀ b o, hp.get? b = some o → (hNew hp C rest).get? b = some o := fun b o e => Heap.get?_push_of_some _ (Heap.get?_push_of_some _ e)
  have mine : (hNew hp C rest).get? (hp.objs.size + 1) = some (exB C hp.objs.size none) := by heap_get
  have km : K.lookup (hp.objs.size + 1) = none := lookNone X (Nat.le_succ _)
  refine run_call FB hT (X _ _ hC) (looks_findIn X I.iC) (fun z => bind_fn X z I.tI) hr ?_
  refine ini_run (s := ⟨hNew hp C rest, g, dr, tk, os⟩) T I (X.keeps up) (lim.keeps up) mine km room (bd _ _ (X.keeps up)) hl fun h' tk' D kk dn dne ho n1 => ?_
  have old : ∀ b o, hp.get? b = some o → h'.get? b = some o := fun b o e => kk b o (Nat.ne_of_lt (Nat.lt_succ_of_lt (Heap.lt_size e))) (up b o e)
  have z : hp.objs.size ≤ D := by
    have q := dn
    rw [Heap.size_push, Heap.size_push] at q
    omega
  exact ⟨rfl, k h' tk' (hp.objs.size + 1) _ D old (Nat.le_succ _) z dne ho n1⟩
theorem putM_rel : ∀ {nms : List Str} {vs : List V} {us : List Value} {fs : List (Str × V)} {m : Str → Option Value}, nms.Nodup → Vals vs us → (∀ f, f ∈ nms → fs.lookup f = none) → (∀ f, RelO (fs.lookup f) (m f)) → vs.length = nms.length →
    ∀ f, RelO ((nms.zip vs ++ fs).lookup f) (putM (nms.zip us) m f)
  | [], _, _, fs, m, _, _, _, r, _ => by intro f; simpa [putM] using r f
  | n :: nms, [], _, _, _, _, _, _, _, hl => by cases hl
  | n :: nms, v :: vs, _, fs, m, hn, .cons rv rs, hf, r, hl => by
    rename_i u us
    intro f
    rw [List.nodup_cons] at hn
    have ih := putM_rel (fs := (n, v) :: fs) (m := fun y => if y = n then some u else m y) hn.2 rs (fun g hg => by
      have hgn : (g == n) = false := beq_eq_false_iff_ne.mpr fun z => hn.1 (by rw [← z]; exact hg)
      rw [List.lookup_cons, hgn]
      exact hf g (List.mem_cons_of_mem _ hg)) (fun g => by
      rw [List.lookup_cons]
      by_cases e : g = n
      · rw [if_pos e]
        have : (g == n) = true := by simpa using e
        rw [this]
        exact rv
      · rw [if_neg e]
        have : (g == n) = false := by simpa using e
        rw [this]
        exact r g) (by simpa using hl) f
    show RelO (((n, v) :: (nms.zip vs ++ fs)).lookup f) (putM (nms.zip us) (fun y => if y = n then some u else m y) f)
    have key : ((n, v) :: (nms.zip vs ++ fs)).lookup f = (nms.zip vs ++ (n, v) :: fs).lookup f := by
      have gen : ∀ (l : List (Str × V)), n ∉ l.map (·.1) → ((n, v) :: (l ++ fs)).lookup f = (l ++ (n, v) :: fs).lookup f := by
        intro l hp
        rw [List.lookup_append]
        by_cases e : f = n
        · subst e
          have h1 : (f == f) = true := by simp
          have h0 : l.lookup f = none := by
            cases q : l.lookup f with
            | none => rfl
            | some z =>
              have key : ∀ {l : List (Str × V)}, l.lookup f = some z → f ∈ l.map (·.1) := by
                intro l
                induction l with
                | nil => intro h; cases h
                | cons p l ih2 =>
                  intro h
                  obtain ⟨a, b⟩ := p
                  rw [List.map_cons, List.mem_cons]
                  by_cases e : f = a
                  · exact .inl e
                  · refine .inr (ih2 ?_)
                    have h2 : (f == a) = false := by simpa using e
                    simpa [List.lookup_cons, h2] using h
              exact absurd (key q) hp
          rw [h0]
          simp [List.lookup_cons]
        · have h1 : (f == n) = false := by simpa using e
          simp [List.lookup_cons, h1, List.lookup_append]
      refine gen _ ?_
      rw [zip_fst (by have := rs.length; simpa using hl.symm)]
      exact hn.1
    rw [key]
    exact ih
end
end Xa
/-- how a call binds the fields -/
def BdX (K : PySem.W.Frag) (fd : FuncData) (nms : List Str) (n : Nat) (ks : List Str) (g : List Value → List Value → List Value) : Prop :=
  ∀ (s : Shared) (me : Addr) (us ws : List Value), K.In s.heap → us.length = n → ws.length = ks.length → BindsTo s fd ⟨.ref me :: us, ks.zip ws⟩ (("self", .ref me) :: nms.zip (g us ws))
section
variable {X : Cx} {pins : List (Addr × Obj)} {σ : L2.St} {H : Hp} {s : Shared} {C fI : Addr} {nms ks : List Str} {fd : FuncData}
/-- the made object, seen by the layer -/
structure Mad (X : Cx) (pins : List (Addr × Obj)) (σ : L2.St) (H : Hp) (s : Shared) (C : Addr) (od : Option Addr) (a : Addr) (H' : Hp) (G : Heap) (s' : Shared) : Prop where
  inv : Inv X pins σ H' { s' with heap := G }
  sub : ∀ b o, G.get? b = some o → s'.heap.get? b = some o
  gone : G.get? a = none
  here : H' a = none
  obj : ∃ T0, s'.heap.get? a = some (Xa.exB C T0 od)
  os : s'.os = s.os
  bare : AllBare s'.gens
theorem mad_one (T : XCls X.K C) (Y : XIni X.K C fI nms fd) (I : Inv X pins σ H s) (room : X.A.depth + 1 < recursionLimit) {us ws : List Value} {vs : List V} {n : Nat} {g : List Value → List Value → List Value} (bd : BdX X.K fd nms n ks g) (l1 : us.length = n) (l2 : ws.length = ks.length)
    (r : Vals vs (g us ws)) (hl : vs.length = nms.length) (hz : us.length ≤ sizeLine) {Q : Value → Shared → Prop}
    (k : ∀ a d G s', H a = none → H d = none → d ≠ a → Mad X pins σ H s C (some d) a (upd H d (.xd (nms.zip vs))) G s' → Q (.ref a) s') :
    wpAny (model X.prog X.w) X.A (call (.ref C) us (ks.zip ws)) Q X.xe s := by
  obtain ⟨hp, gn, dr, tk, os⟩ := s
  have el : (g us ws).length = nms.length := by rw [← r.length]; exact hl
  refine wpAny_call (Xa.madeK T Y I.kIn I.nolimit room hz (fun s' me X' => bd s' me us ws X' l1 l2) el fun h' tk' e T0 D old e1 d1 ne ho n1 => ?_)
  obtain ⟨G, g1, g2⟩ := restrict h' fun b => decide (b ≠ e)
  have gk : ∀ b, b ≠ e → G.get? b = h'.get? b := fun b hb => g1 b (decide_eq_true hb)
  have ge : G.get? e = none := g2 e (by simp)
  have oldG : ∀ b o, hp.get? b = some o → G.get? b = some o := fun b o z => (gk b (Nat.ne_of_lt (Nat.lt_of_lt_of_le (Heap.lt_size z) e1))).trans (old b o z)
  have nd : nms.Nodup := (List.nodup_cons.mp Y.nd).2
  have ob : ObjOk X.prog X.w (upd H D (.xd (nms.zip vs))) G D (.xd (nms.zip vs)) := by
    refine ⟨_, n1.at (fun o z => (gk D ne).trans z), fun f => ?_⟩
    have z := Xa.putM_rel (fs := []) (m := fun _ => none) nd r (fun _ _ => rfl) (fun _ => trivial) hl f
    rwa [List.append_nil] at z
  have J : Inv X pins σ (upd H D (.xd (nms.zip vs))) ⟨G, gn, dr, tk', os⟩ := I.laid (t' := tk') oldG d1 ob
  refine k e D G _ (I.hok.fresh e1) (I.hok.fresh d1) ne ⟨J, fun b o z => ?_, ge, ?_, ⟨T0, ho⟩, rfl, I.bare⟩
  · by_cases hb : b = e
    · have z' : G.get? b = some o := z
      rw [hb, ge] at z'
      cases z'
    · exact (gk b hb).symm.trans z
  · rw [upd_ne (Ne.symm ne)]
    exact I.hok.fresh e1
theorem exV_ok {P : Program} {w : World} {h : Heap} {a C : Addr} {od : Option Addr} {oe : Obj} {vs : Array Value} (e : h.get? a = some oe) (z : Zc (.ref C) od oe) (d : oe.data = .fields vs) : ObjOk P w H h a (exV C od a) :=
  ⟨⟨oe, vs, e, z, d⟩, ⟨oe, e⟩, fun _ _ ⟨o, v, q, r⟩ k => ⟨o, v, k o q, r⟩⟩
/-- it is tracked -/
theorem Mad.track {od : Option Addr} {a : Addr} {H' : Hp} {G : Heap} {s' : Shared} (m : Mad X pins σ H s C od a H' G s') : Inv X pins σ (upd H' a (exV C od a)) s' := by
  obtain ⟨h', gn, dr, tk, os⟩ := s'
  obtain ⟨T0, ho⟩ := m.obj
  exact Inv.laidN (t' := tk) m.inv m.sub m.gone m.here (exV_ok ho ⟨rfl, rfl⟩ rfl)
/-- it is about to be raised -/
theorem Mad.mkp {od : Option Addr} {a : Addr} {H' : Hp} {G : Heap} {s' : Shared} {Q : XK} (m : Mad X pins σ H s C od a H' G s') (T : XCls X.K C) (q : Q (.ref C) od H') : MkP X pins σ Q (.ref a) s' := by
  obtain ⟨h', gn, dr, tk, os⟩ := s'
  obtain ⟨T0, ho⟩ := m.obj
  exact ⟨a, _, _, ⟨G, gn, dr, tk, os⟩, H', .ref C, od, rfl, m.inv, m.sub, m.gone, ho, ⟨rfl, rfl⟩, rfl, rfl, m.here, rfl, m.bare, raises_own T.ex T.ty, q⟩
end
end Vg
namespace Vg
open PySem PySem.Spec PyProof.Rows L2
/-- what the written part says of such a class -/
def XNo (K : PySem.W.Frag) (C : Addr) : Prop := ∃ (B newId initId : String) (bmB : List Value), ExcBaseFacts B newId initId bmB ∧ PySem.W.excIn K C bmB newId = true
section
variable {X : Cx} {pins : List (Addr × Obj)} {σ : L2.St} {H : Hp} {s : Shared} {C fI : Addr} {nms ks : List Str} {fd : FuncData}
theorem mad_no (I : Inv X pins σ H s) (q : XNo X.K C) {Q : Value → Shared → Prop} (k : ∀ a G s', H a = none → Mad X pins σ H s C none a H G s' → Q (.ref a) s') :
    wpAny (model X.prog X.w) X.A (call (.ref C) []) Q X.xe s := by
  obtain ⟨B, newId, initId, bmB, F, q⟩ := q
  obtain ⟨bm, N, nm, qn, bs, hdct, sn, sub, ab, col, dd, k0, k1, k2, k3, k5, mN, hC, hN, hni, T⟩ := exc_obj I.kIn q
  refine wpAny_call_exc_subT F T hC hN hni (fun h' e hm => ?_) (Nat.zero_le _)
  obtain ⟨t, ht, _, _⟩ := hm.there
  have hn : H e = none := I.hok.gone hm.new
  refine k e s.heap _ hn ⟨I, hm.keeps, hm.new, hn, ⟨t, ht⟩, rfl, I.bare⟩
/-- C(..), as a value: fields nms (none: no own __init__) -/
def tMkx (C : Addr) (nms : List Str) (n m : Nat) (gV : List V → List V → List V) (t tk : TA) : TE := fun σ H Q => t σ H fun vs H1 => tk σ H1 fun zs H2 => (vs.length = n ∧ zs.length = m ∧ vs.length ≤ sizeLine ∧ (gV vs zs).length = nms.length) ∧
  ((nms = [] ∧ ∀ a, H2 a = none → Q (.ref a) (upd H2 a (exV C none a))) ∨
    (nms ≠ [] ∧ ∀ a d, H2 a = none → H2 d = none → d ≠ a → Q (.ref a) (upd (upd H2 d (.xd (nms.zip (gV vs zs)))) a (exV C (some d) a))))
/-- C(..), about to be raised -/
def tMkr (C : Addr) (nms : List Str) (n : Nat) (t : TA) : L2.St → Hp → XK → Prop := fun σ H Q => t σ H fun vs H1 => (vs.length = n ∧ vs.length ≤ sizeLine ∧ vs.length = nms.length) ∧
  ((nms = [] ∧ Q (.ref C) none H1) ∨ (nms ≠ [] ∧ ∀ d, H1 d = none → Q (.ref C) (some d) (upd H1 d (.xd (nms.zip vs)))))
/-- how a class is made -/
structure Mkb (K : PySem.W.Frag) (C : Addr) (nms : List Str) (n : Nat) (ks : List Str) (gV : List V → List V → List V) : Prop where
  cls : XCls K C
  ini : (nms = [] ∧ XNo K C ∧ n = 0 ∧ ks = []) ∨ (nms ≠ [] ∧ ∃ fI fd g, XIni K C fI nms fd ∧ BdX K fd nms n ks g ∧ ∀ {vs : List V} {us : List Value} {zs : List V} {ws : List Value}, Vals vs us → Vals zs ws → Vals (gV vs zs) (g us ws))
variable {n : Nat} {gV : List V → List V → List V} {t tk : TA} {x : Str} {p pos : Pos} {e : Expr} {es : List Expr} {kws : List Keyword}
theorem mkx_run {gV' : List V → List V → List V} (M : Mkb X.K C nms n ks gV) (hgV : ∀ vs zs, vs.length = n → zs.length = ks.length → gV vs zs = gV' vs zs) (room : X.A.depth + 1 < recursionLimit) {us ws : List Value} {vs zs : List V} {Q : VK} (I : Inv X pins σ H s) (r : Vals vs us) (rz : Vals zs ws)
    (h : (vs.length = n ∧ zs.length = ks.length ∧ vs.length ≤ sizeLine ∧ (gV' vs zs).length = nms.length) ∧ ((nms = [] ∧ ∀ a, H a = none → Q (.ref a) (upd H a (exV C none a))) ∨
      (nms ≠ [] ∧ ∀ a d, H a = none → H d = none → d ≠ a → Q (.ref a) (upd (upd H d (.xd (nms.zip (gV' vs zs)))) a (exV C (some d) a))))) :
    wpAny (model X.prog X.w) X.A (call (.ref C) us (ks.zip ws)) (EP X pins σ Q) X.xe s := by
  obtain ⟨⟨l1, l2, hz, hl⟩, h⟩ := h
  rw [← hgV vs zs l1 l2] at hl h
  rcases M.ini with ⟨e1, q, e2, e3⟩ | ⟨e1, fI, fd, g, Y, bd, rel⟩
  · subst e2 e3
    rcases h with ⟨_, h⟩ | ⟨z, _⟩
    · have eu : us = [] := List.eq_nil_of_length_eq_zero (by rw [← r.length]; exact l1)
      subst eu
      exact mad_no I q fun a G s' ha m => ⟨.ref a, _, m.track, rfl, h a ha⟩
    · exact absurd e1 z
  · rcases h with ⟨z, _⟩ | ⟨_, h⟩
    · exact absurd z e1
    · refine mad_one M.cls Y I room bd (by rw [← r.length]; exact l1) (by rw [← rz.length]; exact l2) (rel r rz) hl (by rw [← r.length]; exact hz) fun a d G s' ha hd ne m => ?_
      exact ⟨.ref a, _, m.track, rfl, h a d ha hd ne⟩
theorem mkr_run (M : Mkb X.K C nms n [] gV) (eg : ∀ vs, vs.length = n → gV vs [] = vs) (room : X.A.depth + 1 < recursionLimit) {us : List Value} {vs : List V} {Q : XK} (I : Inv X pins σ H s) (r : Vals vs us)
    (h : (vs.length = n ∧ vs.length ≤ sizeLine ∧ vs.length = nms.length) ∧ ((nms = [] ∧ Q (.ref C) none H) ∨ (nms ≠ [] ∧ ∀ d, H d = none → Q (.ref C) (some d) (upd H d (.xd (nms.zip vs)))))) :
    wpAny (model X.prog X.w) X.A (call (.ref C) us) (MkP X pins σ Q) X.xe s := by
  obtain ⟨⟨l1, hz, hl⟩, h⟩ := h
  rcases M.ini with ⟨e1, q, e2, e3⟩ | ⟨e1, fI, fd, g, Y, bd, rel⟩
  · subst e2
    rcases h with ⟨_, h⟩ | ⟨z, _⟩
    · have eu : us = [] := List.eq_nil_of_length_eq_zero (by rw [← r.length]; exact l1)
      subst eu
      exact mad_no I q fun a G s' ha m => m.mkp M.cls h
    · exact absurd e1 z
  · rcases h with ⟨z, _⟩ | ⟨_, h⟩
    · exact absurd z e1
    · have rg := rel r (.nil : Vals [] [])
      rw [eg vs l1] at rg
      exact mad_one (ws := []) M.cls Y I room bd (by rw [← r.length]; exact l1) rfl rg hl (by rw [← r.length]; exact hz) fun a d G s' ha hd ne m => m.mkp M.cls (h d hd)
theorem pe_mkx {gV' : List V → List V → List V} (M : Mkb X.K C nms n ks gV) (hgV : ∀ vs zs, vs.length = n → zs.length = ks.length → gV vs zs = gV' vs zs) (room : X.A.depth + 1 < recursionLimit) (hg : Gl X x) (hm : X.mg x = some (.ref C)) (ha : PA X (e :: es) t) (hkw : PK X kws tk)
    (hall : (backToKw pos (keywordEach kws X.env)).all (·.1.isSome) = true) (hks : (backToKw pos (keywordEach kws X.env)).filterMap (·.1) = ks) (hdb : (x == ("__debug__" : Str)) = false)
    (he : starEach (e :: es) X.env = (false, eval e X.env) :: starEach es X.env) (hpl : ((backTo pos (starEach (e :: es) X.env)).any (·.1) || (backToKw pos (keywordEach kws X.env)).any (·.1.isNone)) = false) :
    PE X (.Call (.Name x p) (e :: es) kws pos) (tMkx C nms n ks.length gV' t tk) := by
  refine ⟨fun pins s σ H Q I h => ?_⟩
  refine wpAny_Call_Name_kw (ld_glob I hg hm ?_ hdb)
  refine PySem.W.callWith_KW (h₀ := X.base) I.ok.mod.kin M.cls.keep hall (thn (ha.run pos pins s σ H _ I h) fun us s1 ⟨vs, H1, I1, r, q⟩ => ?_) hpl he
  refine thn (hkw.run pos pins s1 σ H1 _ I1 q) fun ws s2 ⟨zs, H2, I2, rz, q2⟩ => ⟨I2.kIn, ?_⟩
  rw [hks]
  exact mkx_run M hgV room I2 r rz q2
theorem pe_mkx0 {gV' : List V → List V → List V} (M : Mkb X.K C nms n ks gV) (hgV : ∀ vs zs, vs.length = n → zs.length = ks.length → gV vs zs = gV' vs zs) (room : X.A.depth + 1 < recursionLimit) (hg : Gl X x) (hm : X.mg x = some (.ref C)) (hkw : PK X kws tk)
    (hall : (backToKw pos (keywordEach kws X.env)).all (·.1.isSome) = true) (hks : (backToKw pos (keywordEach kws X.env)).filterMap (·.1) = ks) (hdb : (x == ("__debug__" : Str)) = false)
    (hpl : ((backTo pos (starEach [] X.env)).any (·.1) || (backToKw pos (keywordEach kws X.env)).any (·.1.isNone)) = false) :
    PE X (.Call (.Name x p) [] kws pos) (tMkx C nms n ks.length gV' tNil tk) := by
  refine ⟨fun pins s σ H Q I h => ?_⟩
  refine wpAny_Call_Name_kw (ld_glob I hg hm ?_ hdb)
  refine PySem.W.callWith_KW0 (h₀ := X.base) I.ok.mod.kin M.cls.keep hall ?_ hpl
  refine thn (hkw.run pos pins s σ H _ I h) fun ws s2 ⟨zs, H2, I2, rz, q2⟩ => ⟨I2.kIn, ?_⟩
  rw [hks]
  exact mkx_run (us := []) (vs := []) M hgV room I2 .nil rz q2
theorem pmk_mkr (M : Mkb X.K C nms n [] gV) (eg : ∀ vs, vs.length = n → gV vs [] = vs) (room : X.A.depth + 1 < recursionLimit) (hg : Gl X x) (hm : X.mg x = some (.ref C)) (ha : PA X (e :: es) t) (hdb : (x == ("__debug__" : Str)) = false)
    (he : starEach (e :: es) X.env = (false, eval e X.env) :: starEach es X.env) (hpl : (backTo pos (starEach es X.env)).any (·.1) = false) : PMk X (.Call (.Name x p) (e :: es) [] pos) (tMkr C nms n t) := by
  intro pins s σ H Q I h
  refine wpAny_Call_Name_kw (ld_glob I hg hm ?_ hdb)
  refine PySem.W.callWith_K (h₀ := X.base) I.ok.mod.kin M.cls.keep (thn (ha.run pos pins s σ H _ I h) fun us s1 ⟨vs, H1, I1, r1, q1⟩ => ⟨I1.kIn, ?_⟩) he hpl
  exact mkr_run M eg room I1 r1 q1
theorem pmk_mkr0 (M : Mkb X.K C nms n [] gV) (eg : ∀ vs, vs.length = n → gV vs [] = vs) (room : X.A.depth + 1 < recursionLimit) (hg : Gl X x) (hm : X.mg x = some (.ref C)) (hdb : (x == ("__debug__" : Str)) = false) : PMk X (.Call (.Name x p) [] [] pos) (tMkr C nms n tNil) := by
  intro pins s σ H Q I h
  refine wpAny_Call_Name_kw (ld_glob I hg hm ?_ hdb)
  exact PySem.W.callWith_K0 I.kIn M.cls.keep (mkr_run (us := []) M eg room I .nil h)
end
/-- e.f -/
def tFld (K : PySem.W.Frag) (f : Str) (te : TE) : TE := fun σ H Q => te σ H fun x H1 => ∃ (a C d : Addr) (fs : List (Str × V)) (v : V), x = .ref a ∧ H1 a = some (exV C (some d) a) ∧ XCls K C ∧ PySem.W.findIn K (.ref C) f = some none ∧ H1 d = some (.xd fs) ∧ fs.lookup f = some v ∧ Q v H1
theorem pe_fldX {X : Cx} {e : Expr} {te : TE} {pos : Pos} {f : Str} (he : PE X e te) (hb : attributeBase e f X.env (eval e X.env) = eval e X.env) : PE X (.Attribute e f pos) (tFld X.K f te) := by
  refine ⟨fun pins s σ H Q I h => ?_⟩
  refine attr_of hb (thn (he.run pins s σ H _ I h) fun u s1 hh => ?_)
  obtain ⟨x, H1, I1, rx, a, C, d, fs, v, ex, ea, T, no, ed, l, q⟩ := hh
  subst ex
  obtain rfl : u = Value.ref a := rx
  obtain ⟨⟨oe, vs, ho, hz, hd⟩, _⟩ := (show ObjOk X.prog X.w H1 s1.heap a (exV C (some d) a) from I1.hok a _ ea)
  obtain ⟨mA, hns, hr⟩ := (show ObjOk X.prog X.w H1 s1.heap d (.xd fs) from I1.hok d _ ed)
  obtain ⟨od, hod, hl⟩ := lookIn_ns hns
  obtain ⟨u, hu, ru⟩ := RelO.some_of (v := v) (o := mA f) (by rw [← l]; exact hr f)
  have J : PySem.W.InstAt s1.heap a oe C (some od) := ⟨ho, hz.1, by unfold PySem.W.notCls; rw [hd] <;> rfl, by rw [hz.2]; exact hod⟩
  exact HandSPX.exc_get I1.kIn J T.ga T.gg T.ex (PySem.W.findObj_own T.hd no rfl (by rw [hl, hu])) (handed_of ru) ⟨v, H1, I1.tok _, ru, q⟩
/-- isinstance(e, c), isinstance(e, (c, ..)) -/
def rIsx (K : PySem.W.Frag) : List V → Hp → VK → Prop := fun xs H Q => ∃ (a C : Addr) (od : Option Addr) (c : V) (b : Bool), xs = [.ref a, c] ∧ H a = some (exV C od a) ∧ XCls K C ∧ (∀ d, od = some d → ∃ fs, H d = some (.xd fs)) ∧
  ((∃ u, ClsV c u ∧ PySem.W.kitOne K (.ref C) u = some b) ∨ ∃ tp cs us, c = .ref tp ∧ H tp = some (.tup cs) ∧ Paired ClsV cs us ∧ PySem.W.kitAny K (.ref C) us = some b) ∧ Q (.bl b) H
theorem call_isx {X : Cx} : CallR X (.builtin "isinstance") (rIsx X.K) := by
  intro pins s σ H xs us Q I r h
  obtain ⟨a, C, od, c, b, rfl, ea, T, hod, k, q⟩ := h
  obtain ⟨u1, u2, rfl, r1, r2⟩ := vals2 r
  cases (show u1 = Value.ref a from r1)
  obtain ⟨⟨oe, vs, ho, hz, hd⟩, _⟩ := (show ObjOk X.prog X.w H s.heap a (exV C od a) from I.hok a _ ea)
  have J : ∃ oo, PySem.W.InstAt s.heap a oe C oo := by
    cases od with
    | none => exact ⟨none, ho, hz.1, by unfold PySem.W.notCls; rw [hd] <;> rfl, by rw [hz.2]; trivial⟩
    | some d =>
      obtain ⟨fs, ed⟩ := hod d rfl
      obtain ⟨mA, ⟨o, es, ep, e1, e2⟩, _⟩ := (show ObjOk X.prog X.w H s.heap d (.xd fs) from I.hok d _ ed)
      exact ⟨some o, ho, hz.1, by unfold PySem.W.notCls; rw [hd] <;> rfl, by rw [hz.2]; exact e1⟩
  obtain ⟨oo, J⟩ := J
  have hcl : (PySem.W.clsIn X.K C).isSome = true := by
    obtain ⟨cd, e, _⟩ := PySem.W.any_some T.hd
    rw [e]; rfl
  have Z := PySem.W.kitx_exc (x := a) (ox := oe) (od := oo) hcl T.ga T.gg T.ex T.cl T.cn T.ct T.top
  rcases k with ⟨u, ku, e⟩ | ⟨tp, cs, ws, rfl, hT, k, e⟩
  · have e2 := ku.eq r2
    subst e2
    exact PySem.W.kia_one Z I.kIn J e (fun z => nomatch z) fun tk => ⟨.bl b, H, I.tok tk, rfl, q⟩
  · cases (show u2 = Value.ref tp from r2)
    obtain ⟨_, its, rv, o, h1, h2, n, h3⟩ := (show ObjOk X.prog X.w H s.heap tp (.tup cs) from I.hok tp _ hT)
    have e3 := ClsV.all k rv
    subst e3
    obtain ⟨oc, odd, dt, sl⟩ := o
    simp only at h2 h3
    subst h2 h3
    exact PySem.W.kia_tup Z I.kIn J h1 e (fun z => nomatch z) fun tk => ⟨.bl b, H, I.tok tk, rfl, q⟩
end Vg

set_option Elab.async false
set_option linter.all false
set_option maxRecDepth 100000
set_option maxHeartbeats 4000000
namespace Vg
open PySem PySem.Spec PyProof.Rows L2
section
variable {X : Cx} {pins : List (Addr × Obj)} {σ : L2.St} {H : Hp} {s : Shared}
/-- an object that is new since the frame's begin is tracked -/
theorem trackAt (I : Inv X pins σ H s) {a : Addr} {o : HO} (hH : H a = none) (h0 : X.s_0.heap.get? a = none) (nL : a ≠ X.env.locals) (nC : ∀ x c, X.env.cells.lookup x = some c → c ≠ a) (np : ∀ p ∈ X.pn ++ pins, p.1 ≠ a)
    (ok : ObjOk X.prog X.w (upd H a o) s.heap a o) : Inv X pins σ (upd H a o) s where
  ok := I.ok
  os := I.os
  bare := I.bare
  base :=
    { keep := fun b u e n hb hx => I.base.keep b u e n hb hx
      slot := fun b u e n hb hx => I.base.slot b u e n hb hx
      free := fun b u e n hx => by
        rw [upd_ne (fun z => by rw [z, h0] at e; cases e)]
        exact I.base.free b u e n hx
      there := I.base.there
      tups := fun b xs e => by
        have q := I.base.tups b xs e
        rw [upd_ne (ne_of_none q hH)]
        exact q
      frzs := fun b u v e => by
        have q := I.base.frzs b u v e
        rw [upd_ne (ne_of_none q hH)]
        exact q
      tbls := fun b ps e => by
        obtain ⟨m, q⟩ := I.base.tbls b ps e
        exact ⟨m, by rw [upd_ne (ne_of_none q hH)]; exact q⟩ }
  loc := I.loc
  cell := I.cell
  free := by rw [upd_ne (Ne.symm nL)]; exact I.free
  freeC := fun x c e => by rw [upd_ne (nC x c e)]; exact I.freeC x c e
  pin := fun p hp => by
    obtain ⟨h1, h2, h3⟩ := I.pin p hp
    exact ⟨h1, by rw [upd_ne (np p hp)]; exact h2, h3⟩
  hok := fun b u e => by
    by_cases hb : b = a
    · subst hb
      rw [upd_same] at e
      cases e
      exact ok
    · rw [upd_ne hb] at e
      exact (I.hok b u e).stay (fun _ _ _ q => q) (fun c q => by rw [upd_ne (ne_of_none q hH)]; exact q) fun c xs q => by rw [upd_ne (ne_of_none q hH)]; exact q
  len := I.len
theorem flyKeeps {B h h' : Heap} {l : List Env} {a : Addr} {Z : Obj → Prop} (f : HandSPX.FlyingZ B l a Z h) (k : ∀ b o, h.get? b = some o → h'.get? b = some o) : HandSPX.FlyingZ B l a Z h' := by
  obtain ⟨f1, f2, f3, oe, vs, T, oT, ts, h1, h2, h3, h4, h5, h6, h7, h8, h9⟩ := f
  exact ⟨fun b o e => k b o (f1 b o e), f2, Heap.FunFrames.of_keeps (fun b o e _ => ⟨o, k b o e, rfl⟩) f3, oe, vs, T, oT, ts, k _ _ h1, h2, h3, h4, h5, h6, k _ _ h7, h8, h9⟩
/-- a name of a class, or a display of some -/
inductive Clz (X : Cx) : Expr → List Value → Prop where
  | one {x : Str} {p : Pos} {c : Value} (h : Names X x c) : Clz X (.Name x p) [c]
  | two {x y : Str} {p q p' : Pos} {c d : Value} {z} (h1 : Names X x c) (h2 : Names X y d) : Clz X (.Tuple [.Name x p, .Name y q] z p') [c, d]
  | three {x y v : Str} {p q r p' : Pos} {c d e : Value} {z} (h1 : Names X x c) (h2 : Names X y d) (h3 : Names X v e) : Clz X (.Tuple [.Name x p, .Name y q, .Name v r] z p') [c, d, e]
theorem ldNames {E : Value → Shared → Prop} {x : Str} {c : Value} {p : Pos} {Q : Value → Shared → Prop} (I : Inv X pins σ H s) (h : Names X x c) (q : Q c s) : wpAny (model X.prog X.w) X.A (eval (.Name x p) X.env) Q E s := by
  obtain ⟨hg, hd, hm | ⟨hm, hv, hn⟩⟩ := h
  · exact ld_glob I hg hm q hd
  · exact ld_blt I hg hm hv q hn hd
/-- the clause's test -/
theorem clz_test {E : Value → Shared → Prop} {hx : Expr} {cs : List Value} {a : Addr} {cls : Value} {b : Bool} {oe : Obj} {Q : Bool → Shared → Prop} (I : Inv X pins σ H s) (ha : s.heap.get? a = some oe) (hc : oe.cls = cls) (h : Clz X hx cs) (m : PySem.W.exmAny X.K cls cs = some b)
    (q : ∀ h', (∀ y o, s.heap.get? y = some o → h'.get? y = some o) → Q b { s with heap := h' }) :
    wpAny (model X.prog X.w) X.A (eval hx X.env) (fun c s1 => wpAny (model X.prog X.w) X.A (excMatches (.ref a) c) Q E s1) E s := by
  have look : ∀ h' : Heap, (∀ y o, s.heap.get? y = some o → h'.get? y = some o) → PySem.W.Looks (model X.prog X.w) h' (typeOf (.ref a)) cls := fun h' k A Q E s1 k1 q => wpAny_typeOf_ref (k1 _ _ (k _ _ ha)) (by rw [hc]; exact q)
  cases h with
  | one h1 =>
    obtain ⟨b1, d1, m1, m2, e⟩ := PySem.W.exmAny_cons m
    cases m2
    have e' : b = b1 := by rw [e, Bool.or_false]
    subst e'
    exact ldNames I h1 ((PySem.W.exm_one (M := model X.prog X.w) I.kIn (look _ fun _ _ z => z) m1).here (q s.heap fun _ _ z => z))
  | @two x y p q0 p' c d z h1 h2 =>
    refine wpAny_Tuple_spliced ?_
    show wpAny _ _ (spliced ((false, _) :: (false, _) :: [])) _ _ _
    refine Calls.spliced_cons (ldNames I h1 ?_)
    refine Calls.spliced_cons (ldNames I h2 ?_)
    refine Calls.spliced_nil ⟨by rw [sizeLine_eq]; show 2 ≤ 16777216; decide, ?_⟩
    have k : ∀ y o, s.heap.get? y = some o → (s.heap.push ({ cls := .type "tuple", data := .seq [c, d].toArray } : Obj)).get? y = some o := fun y o e => Heap.get?_push_of_some _ e
    exact (PySem.W.exm_tup2 (M := model X.prog X.w) (I.kIn.keeps k) (look _ k) (Heap.get?_push_size s.heap rfl) m).here (q _ k)
  | @three x y v p q0 r p' c d e z h1 h2 h3 =>
    refine wpAny_Tuple_spliced ?_
    show wpAny _ _ (spliced ((false, _) :: (false, _) :: (false, _) :: [])) _ _ _
    refine Calls.spliced_cons (ldNames I h1 ?_)
    refine Calls.spliced_cons (ldNames I h2 ?_)
    refine Calls.spliced_cons (ldNames I h3 ?_)
    refine Calls.spliced_nil ⟨by rw [sizeLine_eq]; show 3 ≤ 16777216; decide, ?_⟩
    have k : ∀ y o, s.heap.get? y = some o → (s.heap.push ({ cls := .type "tuple", data := .seq [c, d, e].toArray } : Obj)).get? y = some o := fun y o e => Heap.get?_push_of_some _ e
    exact (PySem.W.exm_tup3 (M := model X.prog X.w) (I.kIn.keeps k) (look _ k) (Heap.get?_push_size s.heap rfl) m).here (q _ k)
end
/-- the context of a suite -/
abbrev Cx.su (X : Cx) (a : Addr) (pn : List (Addr × Obj)) : Cx := { X with A := X.A.mark (some (.ref a)), calm := false, pn := pn, xe := fun _ _ => False }
theorem Inv.toSu {X : Cx} {pins : List (Addr × Obj)} {σ : L2.St} {H : Hp} {s : Shared} (I : Inv X pins σ H s) (a : Addr) : Inv (Cx.su X a (X.pn ++ pins)) [] σ H s :=
  ⟨I.ok.suite _ _, I.os, I.bare, I.base, I.loc, I.cell, I.free, I.freeC, fun p hp => I.pin p (by rw [List.append_nil] at hp; exact hp), I.hok, I.len⟩
theorem Inv.ofSu {X : Cx} {pins pn' : List (Addr × Obj)} {σ : L2.St} {H : Hp} {s : Shared} {a : Addr} (I : Inv (Cx.su X a (X.pn ++ pins)) pn' σ H s) (ok : X.Ok) : Inv X pins σ H s :=
  ⟨ok, I.os, I.bare, I.base, I.loc, I.cell, I.free, I.freeC, fun p hp => I.pin p (List.mem_append_left _ hp), I.hok, I.len⟩
/-- what the clause wishes of an exception of the body; slot i is its name's -/
def wTr (K : PySem.W.Frag) (cs : List Value) (i : Nat) (ts : Addr → Addr → Option Addr → TS) (Wout : WX) (D : Ends) : WX := fun cls d σ H =>
  ∃ b, PySem.W.exmAny K cls cs = some b ∧ (b = true → ∀ a C, cls = .ref C → H a = none → ts a C d { nx := fun σ' H' => D.nx (σ'.set i none) H', rt := fun _ _ => False, bk := fun _ _ => False, ct := fun _ _ => False } (σ.set i (some (.ref a))) (upd H a (exV C d a))) ∧
    (b = true → ∃ C, cls = .ref C) ∧ (b = false → Wout cls d σ H)
section
variable {X : Cx} {n : Str} {hx : Expr} {cs : List Value} {i : Nat} {body suite : List Stmt} {b₀ : Stmt} {pos pos' : Pos} {tb : WX → TS} {ts : Addr → Addr → Option Addr → TS} {Wout : WX}
theorem ps_tryT (hs : X.stack = X.env :: X.outer) (hf : X.env.frame = some X.env.locals) (hex : X.ex = []) (hN : X.N.Nodup) (hi : X.N[i]? = some n) (hln : X.env.kindOf n = some .local) (hc : ∀ a pn, Clz (Cx.su X a pn) hx cs) (tk : Takes X Wout)
    (hb : ∀ (W : WX) (pn : List (Addr × Obj)) (xe : Value → Shared → Prop), Takes (X.tr pn xe) W → PassesOwn (model X.prog X.w) X.A X.env xe → PSs (X.tr pn xe) body (tb W))
    (hsu : ∀ (a C : Addr) (d : Option Addr) (pn : List (Addr × Obj)), PSs (Cx.su X a pn) (b₀ :: suite) (ts a C d)) :
    PS X (.Try body [.ExceptHandler (some hx) (some n) (b₀ :: suite) pos'] [] [] pos) (fun D σ H => tb (wTr X.K cs i ts Wout D) D σ H) := by
  refine ⟨fun pins s σ H D I h => ?_⟩
  have ok := I.ok
  have frs1 : X.A.frames = some (X.env :: X.outer) := by rw [ok.frames, hs]
  have hloc : Loc X.env.scope n := .inl hln
  refine wpAny_Try_except ?_
  refine wpAny_mono ((hb (wTr X.K cs i ts Wout D) (X.pn ++ pins) (fun e s₁ => wpAny (model X.prog X.w) X.A (noteFrame e X.env) (fun _ s₂ => wpAny (model X.prog X.w) X.A (setFlight e none) (fun _ s₃ =>
    wpAny (model X.prog X.w) X.A (handleBy e X.env [.ExceptHandler (some hx) (some n) (b₀ :: suite) pos']) (SP X pins D) X.xe s₃) X.xe s₂) X.xe s₁) (fun u s' air => ?_) PassesOwn.looking).run [] s σ H D (I.toTry _) h) (fun f s1 hsp => ?_) (fun e s1 he => he)
  · obtain ⟨a, B, sI, pins', σ', H', cls, d, rfl, J', nb, up, sky, na, os, ag, b, m1, hyes, hown, hno⟩ := air
    have J : Inv X pins σ' H' sI := J'.ofTry ok
    have sky' : Sky B (X.env :: X.outer) a (Zc cls d) X.env.locals s'.heap := by rw [← hs]; exact sky
    show wpAny (model X.prog X.w) X.A (noteFrame (.ref a) X.env) _ _ _
    refine Sky.land Zc.steady frs1 hf sky' fun h3 fl3 up3 => ?_
    have J3 : Inv X pins σ' H' { s' with heap := h3 } := J.landed nb fl3.1 (up.trans up3) os ag
    obtain ⟨oe3, vs3, he3, hz3, hd3⟩ := fl3.there
    have out : a ∉ frs (X.env :: X.outer) := fun hm => by
      obtain ⟨_, o', e', hnf⟩ := fl3.2.2.1.mem hm
      rw [he3] at e'
      cases e'
      exact hnf _ hd3
    have nL : a ≠ X.env.locals := fun z => out (List.mem_filterMap.mpr ⟨X.env, List.mem_cons_self, by rw [hf, z]⟩)
    have nI : sI.heap.get? a = none := by
      cases e : sI.heap.get? a with
      | none => rfl
      | some o =>
        have z := nb a o e (by rw [hs]; exact out)
        rw [fl3.2.1] at z
        cases z
    have n0 : X.s_0.heap.get? a = none := by
      cases e : X.s_0.heap.get? a with
      | none => rfl
      | some o =>
        obtain ⟨o', z⟩ := J.base.there a o e (by rw [hex]; exact fun z => nomatch z)
        rw [nI] at z
        cases z
    have nC : ∀ x c, X.env.cells.lookup x = some c → c ≠ a := fun x c e z => by
      obtain ⟨v, o, ho, _⟩ := J.cell x c e
      rw [z, nI] at ho
      cases ho
    have nP : ∀ p ∈ X.pn ++ pins, p.1 ≠ a := fun p hp z => by
      have e := (J.pin p hp).1
      rw [z, nI] at e
      cases e
    have S3 : Inv (Cx.su X a (X.pn ++ pins)) [] σ' H' { s' with heap := h3 } := Inv.toSu J3 a
    refine wpAny_handleBy_cons (codeAny_handlers_test ?_) (by intro q; cases q)
    refine clz_test (X := Cx.su X a (X.pn ++ pins)) S3 he3 hz3.1 (hc a _) m1 fun h5 k5 => ?_
    have fl5 := flyKeeps fl3 k5
    have up5 : s'.heap.UpToSlots h5 := up3.trans (Heap.UpToSlots.of_keeps k5)
    cases b with
    | true =>
      obtain ⟨C, eC⟩ := hown rfl
      refine codeAny_handlers_suite_as ?_
      refine HandSPX.lands_againZ fl5 fun h4 fl4 up4 => ?_
      have J4 : Inv X pins σ' H' { s' with heap := h4 } := J.landed nb fl4.1 ((up.trans up5).trans up4) os ag
      obtain ⟨oe4, vs4, he4, hz4, hd4⟩ := fl4.there
      rw [eC] at hz4
      have J5 : Inv X pins σ' (upd H' a (exV C d a)) { s' with heap := h4 } := trackAt J4 na n0 nL nC nP ⟨⟨oe4, vs4, he4, hz4, hd4⟩, ⟨oe4, he4⟩, fun _ _ ⟨o, v, q, r⟩ k => ⟨o, v, k o q, r⟩⟩
      have S4 : Inv (Cx.su X a (X.pn ++ pins)) [] σ' (upd H' a (exV C d a)) { s' with heap := h4 } := Inv.toSu J5 a
      refine store_ok (X := Cx.su X a (X.pn ++ pins)) (v := .ref a) S4 hN hi hloc rfl (fun s5 S5 => ?_) (.inr hln)
      refine wpAny_mono ((hsu a C d (X.pn ++ pins)).run [] s5 _ _ _ S5 (hyes rfl a C eC na)) (fun f s6 hsp => ?_) (fun _ _ z => False.elim z)
      cases f with
      | next =>
        obtain ⟨σ6, H6, S6, q6⟩ := hsp
        exact gone_ok (Inv.ofSu S6 ok) hN hi hln fun s7 J7 => ⟨_, _, J7, q6⟩
      | brk =>
        obtain ⟨σ6, H6, S6, q6⟩ := hsp
        exact q6.elim
      | cont =>
        obtain ⟨σ6, H6, S6, q6⟩ := hsp
        exact q6.elim
      | ret u =>
        obtain ⟨v6, σ6, H6, S6, r6, q6⟩ := hsp
        exact q6.elim
    | false =>
      show wpAny _ X.A (handleBy (.ref a) X.env []) _ _ _
      refine wpAny_handleBy_nil ?_
      obtain ⟨k1, k2, k3, oe, vs, T, oT, ts', he, hz, hd, h1, hr⟩ := id fl5
      unfold PySem.passOn
      refine wpAny_bind (wpAny_field he hd h1 ?_)
      rw [if_neg (show ¬ ((Value.ref T == Value.none) = true) from by simp)]
      have fin : wpAny (model X.prog X.w) X.A (setFlight (.ref a) X.env.frame) (fun _ s4 => wpAny (model X.prog X.w) X.A (throw (.ref a) : Sem Flow) (SP X pins D) X.xe s4) X.xe { s' with heap := h5 } := by
        rw [hf]
        refine HandSPX.setFlight_upZ fl5 fun h4 hh4 up4 => wpAny_throw (tk _ _ ?_)
        exact ⟨a, B, sI, pins, σ', H', cls, d, rfl, J, nb, (up.trans up5).trans up4, .inr (.inr (by rw [hs]; exact hh4)), na, os, ag, hno rfl⟩
      first
        | exact wpAny_bind (wpAny_pure (wpAny_bind fin))
        | exact wpAny_bind fin
  · cases f with
    | next =>
      obtain ⟨σ', H', J', q⟩ := hsp
      exact wpAny_execs_nil ⟨σ', H', J'.ofTry ok, q⟩
    | brk =>
      obtain ⟨σ', H', J', q⟩ := hsp
      exact ⟨σ', H', J'.ofTry ok, q⟩
    | cont =>
      obtain ⟨σ', H', J', q⟩ := hsp
      exact ⟨σ', H', J'.ofTry ok, q⟩
    | ret u =>
      obtain ⟨v, σ', H', J', r, q⟩ := hsp
      exact ⟨v, σ', H', J'.ofTry ok, r, q⟩
end
end Vg

set_option Elab.async false
set_option linter.all false
set_option maxRecDepth 100000
namespace Vg
open PySem L2

/-- the built-in methods that are served -/
inductive Mt where
  | append | pop | popAt | join | rmpre | sindex
  deriving DecidableEq
def Mt.T : Mt → String
  | .append => "list" | .pop => "list" | .popAt => "list" | .join => "str" | .rmpre => "str" | .sindex => "str"
def Mt.nm : Mt → Str
  | .append => "append" | .pop => "pop" | .popAt => "pop" | .join => "join" | .rmpre => "removeprefix" | .sindex => "index"

inductive Bf where
  | len | min | max | all | any | sum | isinstance | repr
  deriving DecidableEq
def Bf.nm : Bf → Str
  | .len => "len" | .min => "min" | .max => "max" | .all => "all" | .any => "any" | .sum => "sum" | .isinstance => "isinstance" | .repr => "repr"
inductive Bv where
  | int | str | bool | tuple | list | dict
  deriving DecidableEq
def Bv.nm : Bv → String
  | .int => "int" | .str => "str" | .bool => "bool" | .tuple => "tuple" | .list => "list" | .dict => "dict"
inductive Bt where
  | int | str | list | tuple | type
  deriving DecidableEq
def Bt.nm : Bt → Str
  | .int => "int" | .str => "str" | .list => "list" | .tuple => "tuple" | .type => "type"

/-- built-in classes of exceptions, and own ones -/
inductive Bx where
  | value | lookup | runtime | key | index | notimpl
  deriving DecidableEq
def Bx.nm : Bx → String
  | .value => "ValueError" | .lookup => "LookupError" | .runtime => "RuntimeError" | .key => "KeyError" | .index => "IndexError" | .notimpl => "NotImplementedError"
inductive Cn where
  | own (c : Str) | blt (b : Bx)
  deriving DecidableEq
/-- written constants -/
inductive Cs where
  | non | bl (b : Bool) | int (i : Int) | str (x : Str)
  deriving DecidableEq
def Cs.d : Cs → D
  | .non => .non | .bl b => .bl b | .int i => .int i | .str x => .str x
mutual
inductive Ex where
  | var (i : Nat)
  | cst (d : Cs)
  | gl (x : Str)
  | bty (n : Bv)
  | bin (o : Operator) (a b : Ex)
  | neg (a : Ex)
  | cmp (o : CmpOp) (a b : Ex)
  | cmp2 (o p : CmpOp) (a b c : Ex)
  | and (a b : Ex) | or (a b : Ex) | not (a : Ex)
  | ife (c : Te) (a b : Ex)
  | idx (a i : Ex)
  | slc (a : Ex) (lo hi : Oe)
  | tup (es : Es) | lst (es : Es)
  | dct (ps : Ps)
  | lc (e : Ex) (i : Nat) (s : Sr) (c : Ot)
  | call (f : Str) (es : Es)
  | callk (f : Str) (es : Es) (ks : List Str) (kes : Es) (fl : List (Nat ⊕ Str))
  | blt (f : Bf) (es : Es)
  | bty1 (f : Bt) (es : Es)
  | fld (e : Ex) (n : Str)
  | isx (e : Ex) (cs : List Cn) (tup : Bool)
  | mkx (c : Str) (es : Es) (ks : List Str) (kes : Es) (fl : List (Nat ⊕ Str))
  | lcU (e : Ex) (is : List Nat) (s : Sr) (c : Ot)
  | mth (o : Ex) (m : Mt) (es : Es)
  | mut (o : Ex) (m : Mt) (es : Es)
inductive Es where
  | nil | cons (e : Ex) (es : Es)
inductive Oe where
  | no | ex (e : Ex)
inductive Ps where
  | nil | cons (k : Str) (e : Ex) (ps : Ps)
inductive Te where
  | val (e : Ex) | and (a b : Te) | or (a b : Te) | not (a : Te)
inductive Ot where
  | no | ex (e : Te)
inductive Sr where
  | seq (e : Ex) | rng (a : Ex) | rng2 (a b : Ex) | enu (e : Ex)
end

/-- an except suite -/
inductive Su where
  /-- x = e -/
  | keep (j : Nat)
  /-- x.append(e.f) or x.append((e.f, ..)) -/
  | app (j : Nat) (fs : List Str) (tup : Bool)

inductive Sm where
  | set (i : Nat) (own : Bool) (e : Ex)
  | par (i j : Nat) (o1 o2 : Bool) (a b : Ex)
  | unp (is : List Nat) (e : Ex)
  | put (d k e : Ex)
  | exp (e : Ex)
  | ret (e : Ex)
  | retN
  | ife (c : Te) (a b : List Sm)
  | for_ (i : Nat) (s : Sr) (b : List Sm)
  | whl (c : Te) (b : List Sm)
  | pas | brk | cnt
  | forU (is : List Nat) (s : Sr) (b : List Sm)
  | rai (c : Str) (es : Es)
  | trk (n : Nat) (cs : List Str) (tup : Bool) (su : Su) (b : List Sm)

def Es.len : Es → Nat
  | .nil => 0
  | .cons _ r => r.len + 1
/-- what an expression gives: data of what is frozen; the object of a slot of one's own; a new object that is nobody's yet -/
inductive RV where
  | v (d : D) | o (i : Nat) | f (d : D)

def slotD : Slot → Option D
  | .val d => some d | .own d => some d | .io d => some d | .un => none
/-- the data of an object of one's own -/
def ownD (en : Ee) (i : Nat) : Option D := match en[i]? with
  | some (.own d) => some d
  | some (.io d) => some d
  | _ => none
def drf (en : Ee) : RV → Option D
  | .v d => some d
  | .o i => ownD en i
  | .f d => some d
def frz : RV → RV
  | .f d => .v d
  | r => r

abbrev KR := RV → Prop
def sz (n : Nat) : Prop := n ≤ sizeLine
/-- a op b -/
def binD : Operator → D → D → KR → Prop
  | .Add, .int i, .int j, Q => Q (.v (.int (i + j)))
  | .Sub, .int i, .int j, Q => Q (.v (.int (i - j)))
  | .Mult, .int i, .int j, Q => CMul i j ∧ Q (.v (.int (i * j)))
  | .FloorDiv, .int i, .int j, Q => CDiv i j ∧ Q (.v (.int (i / j)))
  | .Mod, .int i, .int j, Q => 0 < j ∧ Q (.v (.int (i % j)))
  | .Pow, .int i, .int j, Q => CPow i j ∧ Q (.v (.int (i ^ j.toNat)))
  | .Add, .str i, .str j, Q => sz (i.length + j.length) ∧ Q (.v (.str (i ++ j)))
  | .Add, .scr ns, .lst ys, Q => sz (ns.length + ys.length) ∧ Q (.f (.lst (ns.map .int ++ ys)))
  | .Add, .lst xs, .lst ys, Q => sz (xs.length + ys.length) ∧ Q (.f (.lst (xs ++ ys)))
  | .Add, .tup xs, .tup ys, Q => sz (xs.length + ys.length) ∧ Q (.v (.tup (xs ++ ys)))
  | .Mult, .lst xs, .int k, Q => -(2 ^ 63) ≤ k ∧ k < 2 ^ 63 ∧ sz (xs.length * k.toNat) ∧ Q (.f (.lst (List.replicate k.toNat xs).flatten))
  | .Mult, .str x, .int k, Q => 1 < k ∧ k < 100000 ∧ 0 < x.length ∧ x.length < 100 ∧ Q (.v (.str ⟨(List.replicate k.toNat x.cps).foldl (· ++ ·) #[]⟩))
  | _, _, _, _ => False

mutual
/-- data that == compares as data -/
def toPy : D → Option PyData
  | .non => some .none
  | .bl b => some (.bool b)
  | .int i => some (.int i)
  | .str x => some (.str x)
  | .lst xs => (toPys xs).map .list
  | .tup xs => (toPys xs).map .tuple
  | _ => none
def toPys : List D → Option (List PyData)
  | [] => some []
  | d :: ds => match toPy d, toPys ds with
    | some x, some xs => some (x :: xs)
    | _, _ => none
end
/-- flat things, as `in` compares them -/
def flatD : D → Option V
  | .non => some .non
  | .bl b => some (.bl b)
  | .int i => some (.int i)
  | .str x => some (.str x)
  | _ => none
def flatsD : List D → Option (List V)
  | [] => some []
  | d :: ds => match flatD d, flatsD ds with
    | some x, some xs => some (x :: xs)
    | _, _ => none
def keyD : D → Option Key
  | .int i => some (.inl i)
  | .str x => some (.inr x)
  | _ => none
def look (kvs : List (Key × D)) (k : Key) : Option D := (kvs.find? fun kv => decide (kv.1 = k)).map (·.2)
def putD (kvs : List (Key × D)) (k : Key) (v : D) : List (Key × D) :=
  if kvs.any (fun kv => decide (kv.1 = k)) then kvs.map (fun kv => if kv.1 = k then (kv.1, v) else kv) else kvs ++ [(k, v)]
/-- a == b -/
@[irreducible] def eqD (x y : D) (Q : Bool → Prop) : Prop := ∃ d e, toPy x = some d ∧ toPy y = some e ∧ SeqAt.shaped d = true ∧ SeqAt.shaped e = true ∧ Q (PyData.eqv d e)
/-- x in y -/
def inD (x y : D) (Q : Bool → Prop) : Prop := match y with
  | .lst ds => ∃ v vs, flatD x = some v ∧ flatsD ds = some vs ∧ flatV v = true ∧ vs.all flatV = true ∧ Q (inV v vs)
  | .tup ds => ∃ v vs, flatD x = some v ∧ flatsD ds = some vs ∧ flatV v = true ∧ vs.all flatV = true ∧ Q (inV v vs)
  | .str z => ∃ c, x = .str ⟨#[c]⟩ ∧ Q (decide (c ∈ z.cps.toList))
  | .dct kvs => ∃ k, keyD x = some k ∧ Q (look kvs k).isSome
  | _ => False
def cmpD : CmpOp → D → D → (Bool → Prop) → Prop
  | .Lt, .int i, .int j, Q => Q (decide (i < j))
  | .LtE, .int i, .int j, Q => Q (decide (i ≤ j))
  | .Gt, .int i, .int j, Q => Q (decide (j < i))
  | .GtE, .int i, .int j, Q => Q (decide (j ≤ i))
  | .Eq, .int i, .int j, Q => Q (decide (i = j))
  | .NotEq, .int i, .int j, Q => Q (!decide (i = j))
  | .Eq, .str i, .str j, Q => Q (decide (i = j))
  | .NotEq, .str i, .str j, Q => Q (!decide (i = j))
  | .Eq, x, y, Q => eqD x y Q
  | .NotEq, x, y, Q => eqD x y fun b => Q (!b)
  | .In, x, y, Q => inD x y Q
  | .NotIn, x, y, Q => inD x y fun b => Q (!b)
  | .Is, .ty a, .ty b, Q => Q (decide (a = b))
  | .IsNot, .ty a, .ty b, Q => Q (!decide (a = b))
  | .Is, x, .non, Q => match x with
    | .non => Q true
    | _ => Q false
  | .IsNot, x, .non, Q => match x with
    | .non => Q false
    | _ => Q true
  | _, _, _, _ => False
/-- truth -/
def truD : D → (Bool → Prop) → Prop
  | .non, Q => Q false
  | .bl b, Q => Q b
  | .int i, Q => Q (i != 0)
  | .str y, Q => sz y.length ∧ Q ((y.length : Int) != 0)
  | .lst xs, Q => Q (!xs.isEmpty)
  | .tup xs, Q => Q (!xs.isEmpty)
  | _, _ => False
/-- x[i] -/
def idxD : D → D → KR → Prop
  | .lst xs, .int i, Q => ∃ d, atI xs i = some d ∧ Q (.v d)
  | .tup xs, .int i, Q => ∃ d, atI xs i = some d ∧ Q (.v d)
  | .str z, .int i, Q => sz z.length ∧ ∃ c, atI z.cps.toList i = some c ∧ Q (.v (.str ⟨#[c]⟩))
  | .dct kvs, k, Q => ∃ q d, keyD k = some q ∧ look kvs q = some d ∧ Q (.v d)
  | _, _, _ => False
def cutD {α : Type} (xs : List α) (lo hi : Option Int) : List α := (xs.drop (HT.sIx xs.length 0 lo)).take (HT.sIx xs.length xs.length hi - HT.sIx xs.length 0 lo)
def slcD : D → Option Int → Option Int → KR → Prop
  | .lst xs, lo, hi, Q => Q (.f (.lst (cutD xs lo hi)))
  | .tup xs, lo, hi, Q => Q (.v (.tup (cutD xs lo hi)))
  | .str z, lo, hi, Q => sz z.length ∧ Q (.v (.str ⟨(cutD z.cps.toList lo hi).toArray⟩))
  | _, _, _, _ => False
/-- the type of data -/
def tyD : D → String
  | .non => "NoneType" | .bl _ => "bool" | .int _ => "int" | .str _ => "str" | .tup _ => "tuple" | .lst _ => "list" | .dct _ => "dict" | .fn _ => "function" | .ty _ => "type" | .scr _ => "script" | .exc _ _ => "exception"

/-- what type and isinstance are asked of -/
def plainD : D → Prop
  | .ty _ => False | .fn _ => False | .exc _ _ => False | .scr _ => False
  | _ => True
/-- a built-in called by its name -/
def bltD : Bf → List D → KR → Prop
  | .len, [.str y], Q => sz y.length ∧ Q (.v (.int y.length))
  | .len, [.lst xs], Q => Q (.v (.int xs.length))
  | .len, [.tup xs], Q => Q (.v (.int xs.length))
  | .len, [.scr xs], Q => Q (.v (.int xs.length))
  | .min, [.int i, .int j], Q => Q (.v (.int (if j < i then j else i)))
  | .max, [.int i, .int j], Q => Q (.v (.int (if j > i then j else i)))
  | .all, [.lst xs], Q => ∃ bs : List Bool, xs = bs.map .bl ∧ Q (.v (.bl (bs.all id)))
  | .any, [.lst xs], Q => ∃ bs : List Bool, xs = bs.map .bl ∧ Q (.v (.bl (bs.any id)))
  | .sum, [.lst xs], Q => ∃ ns : List Int, xs = ns.map .int ∧ Q (.v (.int ns.sum))
  | .isinstance, [x, .ty t], Q => ∃ b, kitB (tyD x) t = some b ∧ plainD x ∧ Q (.v (.bl b))
  | .repr, [x], Q => ∃ d, toPy x = some d ∧ PyProof.Rows.isDisplay d = true ∧ d.showable = true ∧ d.hasDict = false ∧ d.depth ≤ 40 ∧ d.shown.length ≤ sizeLine ∧ Q (.v (.str d.shown))
  | _, _, _ => False
/-- a built-in class called -/
def btyD : Bt → List D → KR → Prop
  | .int, [.int i], Q => Q (.v (.int i))
  | .int, [.bl k], Q => Q (.v (.int (if k then 1 else 0)))
  | .int, [.str a], Q => a.length ≤ 640 ∧ ∃ n, PySem.intText? a = some n ∧ Q (.v (.int n))
  | .str, [.int i], Q => i.natAbs.log2 < 1920 ∧ Q (.v (.str (toString i)))
  | .list, [.lst xs], Q => Q (.f (.lst xs))
  | .list, [.tup xs], Q => Q (.f (.lst xs))
  | .tuple, [.lst xs], Q => Q (.v (.tup xs))
  | .tuple, [.tup xs], Q => Q (.v (.tup xs))
  | .type, [x], Q => plainD x ∧ Q (.v (.ty (tyD x)))
  | _, _, _ => False
/-- a method that changes nothing -/
def mthD : Mt → D → List D → KR → Prop
  | .join, .str s, [.lst xs], Q => ∃ ys : List Str, xs = ys.map .str ∧ (ys.map (·.length)).sum + ys.length * s.length ≤ 16777216 ∧ Q (.v (.str (Txt.join s ys)))
  | .rmpre, .str s, [.str p], Q => sz s.length ∧ Q (.v (.str (Txt.removeprefix s p)))
  | .sindex, .str s, [.str p], Q => ∃ k : Nat, Txt.index0 s p = some k ∧ Q (.v (.int k))
  | _, _, _, _ => False
/-- a method of an object of one's own: what it gives, and what the object then holds -/
def mutD : Mt → D → List D → (RV → D → Prop) → Prop
  | .append, .lst xs, [d], Q => xs.length < sizeLine ∧ Q (.v .non) (.lst (xs ++ [d]))
  | .pop, .lst xs, [], Q => ∃ y, xs[xs.length - 1]? = some y ∧ Q (.v y) (.lst xs.dropLast)
  | .popAt, .lst xs, [.int i], Q => ∃ k y, -(2 ^ 63) ≤ i ∧ i < 2 ^ 63 ∧ seqIndex? i xs.length = some k ∧ xs[k]? = some y ∧ Q (.v y) (.lst (xs.eraseIdx k))
  | _, _, _, _ => False

abbrev KX := Str → List (Str × D) → Ee → Prop
abbrev KQ := RV → Ee → Prop
/-- a def: whether it changes its first argument in place, whether its answer is new, what it promises (the answer; what the first argument then holds) -/
structure Ct where
  io : Bool
  fr : Bool
  wp : List D → (D → D → Prop) → (Str → List (Str × D) → D → Prop) → Prop
  mono : ∀ ds Q Q' X X', (∀ r d, Q r d → Q' r d) → (∀ x fs d, X x fs d → X' x fs d) → wp ds Q X → wp ds Q' X'
/-- the defs and the constants of the module -/
structure Cts where
  fn : Str → Option Ct
  gt : Str → Option D
  /-- own exception classes: the fields that an own __init__ stores, in order -/
  xk : Str → Option (List Str) := fun _ => none
  /-- whether an own class lies under a class -/
  sub : Str → Cn → Option Bool := fun _ _ => none

/-- whether a class lies under one of these -/
def subs (C : Cts) (c : Str) : List Cn → Option Bool
  | [] => some false
  | d :: r => match C.sub c d with
    | some b => (match subs C c r with
      | some b' => some (b || b')
      | none => none)
    | none => none
def isxOk (cs : List Cn) (tup : Bool) : Bool := decide (cs.length ≤ 10) && (tup || decide (cs.length = 1))
/-- an argument handed in to be read: an object of one's own is frozen from then on -/
def give (r : RV) (en : Ee) : Option (D × Ee) := match r with
  | .v d => some (d, en)
  | .f d => some (d, en)
  | .o i => match en[i]? with
    | some (.own d) => some (d, en.set i (.val d))
    | _ => none
def gives : List RV → Ee → Option (List D × Ee)
  | [], en => some ([], en)
  | .f _ :: _, _ => none
  | r :: rs, en => match give r en with
    | some (d, e1) => (match gives rs e1 with
      | some (ds, e2) => some (d :: ds, e2)
      | none => none)
    | none => none
/-- another content for a slot's object -/
def reOwn (en : Ee) (i : Nat) (d : D) : Ee := match en[i]? with
  | some (.own _) => en.set i (.own d)
  | some (.io _) => en.set i (.io d)
  | _ => en
/-- what may be changed in place -/
def isMut : D → Bool
  | .lst _ => true
  | .dct _ => true
  | _ => false
def resD (c : Ct) (r : D) : RV := if c.fr && isMut r then .f r else .v r
@[irreducible] def callD (c : Ct) (rs : List RV) (en : Ee) (Q : KQ) (X : KX) : Prop :=
  match c.io with
  | true => ∃ i rs' ds e1 d, rs = .o i :: rs' ∧ gives rs' en = some (ds, e1) ∧ ownD e1 i = some d ∧ c.wp (d :: ds) (fun r d' => Q (resD c r) (reOwn e1 i d')) (fun x fs d' => X x fs (reOwn e1 i d'))
  | false => ∃ ds e1, gives rs en = some (ds, e1) ∧ c.wp ds (fun r _ => Q (resD c r) e1) (fun x fs _ => X x fs e1)

/-- values that are frozen -/
def valsR : List RV → Option (List D)
  | [] => some []
  | .v d :: r => (match valsR r with
    | some ds => some (d :: ds)
    | none => none)
  | _ => none
/-- the values of the parameters behind the written ones: of a keyword, or a default -/
def fillD (gt : Str → Option D) : List (Nat ⊕ Str) → List D → Option (List D)
  | [], _ => some []
  | .inl j :: r, zs => (match zs[j]?, fillD gt r zs with
    | some d, some ds => some (d :: ds)
    | _, _ => none)
  | .inr y :: r, zs => (match gt y, fillD gt r zs with
    | some d, some ds => some (d :: ds)
    | _, _ => none)
def fillW (gt : Str → Option D) : List (Nat ⊕ Str) → List D → (List D → Prop) → Prop
  | [], _, k => k []
  | .inl j :: r, zs, k => ∃ d, zs[j]? = some d ∧ fillW gt r zs fun ds => k (d :: ds)
  | .inr y :: r, zs, k => ∃ d, gt y = some d ∧ fillW gt r zs fun ds => k (d :: ds)
theorem fillW_ex {gt : Str → Option D} {zs : List D} : ∀ {fl : List (Nat ⊕ Str)} {k : List D → Prop}, fillW gt fl zs k → ∃ dd, fillD gt fl zs = some dd ∧ k dd
  | [], _, h => ⟨[], rfl, h⟩
  | .inl j :: r, k, h => by
    obtain ⟨d, e, h⟩ := h
    obtain ⟨dd, e2, h⟩ := fillW_ex h
    refine ⟨d :: dd, ?_, h⟩
    unfold fillD
    rw [e, e2]
  | .inr y :: r, k, h => by
    obtain ⟨d, e, h⟩ := h
    obtain ⟨dd, e2, h⟩ := fillW_ex h
    refine ⟨d :: dd, ?_, h⟩
    unfold fillD
    rw [e, e2]
theorem fillW_mono {gt : Str → Option D} {zs : List D} : ∀ {fl : List (Nat ⊕ Str)} {k k' : List D → Prop}, (∀ x, k x → k' x) → fillW gt fl zs k → fillW gt fl zs k'
  | [], _, _, g, h => g _ h
  | .inl _ :: _, _, _, g, h => by
    obtain ⟨d, e, h⟩ := h
    exact ⟨d, e, fillW_mono (fun x => g _) h⟩
  | .inr _ :: _, _, _, g, h => by
    obtain ⟨d, e, h⟩ := h
    exact ⟨d, e, fillW_mono (fun x => g _) h⟩

def goL (body : D → Ee → (Option D → Ee → Prop) → Prop) : List D → List D → Ee → (List D → Ee → Prop) → Prop
  | [], acc, en, K => K acc en
  | x :: xs, acc, en, K => body x en fun o e => goL body xs (match o with | some d => acc ++ [d] | none => acc) e K

structure Kx where
  nx : Ee → Prop
  rt : RV → Ee → Prop
  bk : Ee → Prop
  ct : Ee → Prop
  xq : KX
def goF (body : D → Ee → Kx → Prop) : List D → Ee → Kx → Prop
  | [], en, K => K.nx en
  | x :: xs, en, K => body x en { K with nx := fun e => goF body xs e K, ct := fun e => goF body xs e K, bk := K.nx }

def rngD (lo : Int) (n : Nat) : List D := (List.range n).map fun k => .int (lo + (k : Nat))

/-- what is walked, one by one -/
def walkD : D → Option (List D)
  | .lst ds => some ds
  | .tup ds => some ds
  | .str z => some (z.cps.toList.map fun c => .str ⟨#[c]⟩)
  | _ => none
/-- the slot i set to a value, if it is no object that a caller holds -/
def setV (en : Ee) (i : Nat) (d : D) : Option Ee := match en[i]? with
  | some (.io _) => none
  | none => none
  | some _ => some (en.set i (.val d))

/-- several slots set for a while, and as they were -/
def freeS (en : Ee) : List Nat → Option (List Slot)
  | [] => some []
  | i :: is => match en[i]?, freeS en is with
    | some .un, some r => some (.un :: r)
    | some (.val d), some r => some (.val d :: r)
    | _, _ => none
def putS : List Nat → List D → Ee → Ee
  | i :: is, d :: ds, en => putS is ds (en.set i (.val d))
  | _, _, en => en
def rstS : List Nat → List Slot → Ee → Ee
  | i :: is, o :: os, en => (rstS is os en).set i o
  | _, _, en => en

section
variable (C : Cts)
mutual
def wE : Ex → Ee → KQ → KX → Prop
  | .var i, en, Q, _ => match en[i]? with
    | some (.val d) => Q (.v d) en
    | some (.own _) => Q (.o i) en
    | some (.io _) => Q (.o i) en
    | _ => False
  | .cst d, en, Q, _ => Q (.v d.d) en
  | .gl x, en, Q, _ => ∃ d, C.gt x = some d ∧ Q (.v d) en
  | .bty n, en, Q, _ => Q (.v (.ty n.nm)) en
  | .bin o a b, en, Q, X => wE a en (fun r e1 => wE b e1 (fun s e2 => ∃ x y, drf e2 r = some x ∧ drf e2 s = some y ∧ binD o x y fun t => Q t e2) X) X
  | .neg a, en, Q, X => wE a en (fun r e1 => ∃ i, r = .v (.int i) ∧ Q (.v (.int (-i))) e1) X
  | .cmp o a b, en, Q, X => wE a en (fun r e1 => wE b e1 (fun s e2 => ∃ x y, drf e2 r = some x ∧ drf e2 s = some y ∧ cmpD o x y fun t => Q (.v (.bl t)) e2) X) X
  | .cmp2 o p a b c, en, Q, X => wE a en (fun r e1 => wE b e1 (fun s e2 => ∃ x y, drf e2 r = some x ∧ drf e2 s = some y ∧ cmpD o x y fun t =>
      (t = true → wE c e2 (fun u e3 => ∃ y z, drf e3 s = some y ∧ drf e3 u = some z ∧ cmpD p y z fun t => Q (.v (.bl t)) e3) X) ∧ (t = false → Q (.v (.bl false)) e2)) X) X
  | .and a b, en, Q, X => wE a en (fun r e1 => ∃ k, r = .v (.bl k) ∧ (k = true → wE b e1 Q X) ∧ (k = false → Q (.v (.bl false)) e1)) X
  | .or a b, en, Q, X => wE a en (fun r e1 => ∃ k, r = .v (.bl k) ∧ (k = false → wE b e1 Q X) ∧ (k = true → Q (.v (.bl true)) e1)) X
  | .not a, en, Q, X => wE a en (fun r e1 => ∃ k, r = .v (.bl k) ∧ Q (.v (.bl (!k))) e1) X
  | .ife c a b, en, Q, X => wT c en (fun k e1 => (k = true → wE a e1 Q X) ∧ (k = false → wE b e1 Q X)) X
  | .idx a i, en, Q, X => wE a en (fun r e1 => wE i e1 (fun s e2 => ∃ x y, drf e2 r = some x ∧ drf e2 s = some y ∧ idxD x y fun t => Q t e2) X) X
  | .slc a lo hi, en, Q, X => wE a en (fun r e1 => wO lo e1 (fun l e2 => wO hi e2 (fun h e3 => ∃ x, drf e3 r = some x ∧ slcD x l h fun t => Q t e3) X) X) X
  | .tup es, en, Q, X => wEs es en (fun ds e1 => sz ds.length ∧ Q (.v (.tup ds)) e1) X
  | .lst es, en, Q, X => wEs es en (fun ds e1 => sz ds.length ∧ Q (.f (.lst ds)) e1) X
  | .dct ps, en, Q, X => wP ps en (fun kvs e1 => (kvs.map (·.1)).Nodup ∧ kvs.length ≤ 15 ∧ Q (.f (.dct kvs)) e1) X
  | .lc e i s c, en, Q, X => wS s en (fun r ds e0 => sz ds.length ∧ goL (fun d en K => ∃ old, en[i]? = some old ∧ (old = .un ∨ ∃ z, old = .val z) ∧
      wC c (en.set i (.val d)) (fun k e2 => (k = true → wE e e2 (fun t e3 => ∃ x e4, give t e3 = some (x, e4) ∧ drf (e4.set i old) r = drf e0 r ∧ K (some x) (e4.set i old)) fun _ _ _ => False) ∧ (k = false → drf (e2.set i old) r = drf e0 r ∧ K none (e2.set i old))) fun _ _ _ => False) ds [] e0
        (fun acc e1 => Q (.f (.lst acc)) e1)) X
  | .call f es, en, Q, X => ∃ c, C.fn f = some c ∧ wRs es en (fun rs e1 => callD c rs e1 Q X) X
  | .callk f es ks kes fl, en, Q, X => ∃ c, C.fn f = some c ∧ wRs es en (fun rs e1 => wRs kes e1 (fun zs e2 => rs.length = es.len ∧ ∃ dz, valsR zs = some dz ∧ dz.length = ks.length ∧ fillW C.gt fl dz fun dd =>
      callD c (rs ++ dd.map .v) e2 Q X) X) X
  | .blt f es, en, Q, X => wRs es en (fun rs e1 => ∃ ds, rs.mapM (drf e1) = some ds ∧ bltD f ds fun t => Q t e1) X
  | .bty1 f es, en, Q, X => wRs es en (fun rs e1 => ∃ ds, rs.mapM (drf e1) = some ds ∧ btyD f ds fun t => Q t e1) X
  | .fld e n, en, Q, X => wE e en (fun r e1 => ∃ c fs d ns, drf e1 r = some (.exc c fs) ∧ C.xk c = some ns ∧ n ∈ ns ∧ fs.lookup n = some d ∧ Q (.v d) e1) X
  | .isx e cs tup, en, Q, X => wE e en (fun r e1 => ∃ c fs b ns, drf e1 r = some (.exc c fs) ∧ C.xk c = some ns ∧ subs C c cs = some b ∧ isxOk cs tup = true ∧ Q (.v (.bl b)) e1) X
  | .mkx c es ks kes fl, en, Q, X => (C.xk c).isSome = true ∧ wEs es en (fun ds e1 => wEs kes e1 (fun dz e2 => ds.length = es.len ∧ dz.length = ks.length ∧ sz ds.length ∧ fillW C.gt fl dz fun dd => ∃ ns, C.xk c = some ns ∧ ns.length = (ds ++ dd).length ∧
      Q (.v (.exc c (ns.zip (ds ++ dd)))) e2) X) X
  | .lcU e is s c, en, Q, X => wS s en (fun r ds e0 => sz ds.length ∧ is.Nodup ∧ goL (fun d en K => ∃ olds xs, freeS en is = some olds ∧ d = .tup xs ∧ xs.length = is.length ∧
      wC c (putS is xs en) (fun k e2 => (k = true → wE e e2 (fun t e3 => ∃ x e4, give t e3 = some (x, e4) ∧ drf (rstS is olds e4) r = drf e0 r ∧ K (some x) (rstS is olds e4)) fun _ _ _ => False) ∧ (k = false → drf (rstS is olds e2) r = drf e0 r ∧ K none (rstS is olds e2))) fun _ _ _ => False) ds [] e0
        (fun acc e1 => Q (.f (.lst acc)) e1)) X
  | .mut o m es, en, Q, X => wE o en (fun r e1 => ∃ i d1, r = .o i ∧ ownD e1 i = some d1 ∧ tyD d1 = m.T ∧ wEs es e1 (fun ds e2 => ∃ d, ownD e2 i = some d ∧ mutD m d ds fun t d' => Q t (reOwn e2 i d')) X) X
  | .mth o m es, en, Q, X => wE o en (fun r e1 => ∃ x1, drf e1 r = some x1 ∧ tyD x1 = m.T ∧ wRs es e1 (fun rs e2 => ∃ x ds, drf e2 r = some x ∧ rs.mapM (drf e2) = some ds ∧ mthD m x ds fun t => Q t e2) X) X
/-- a test -/
def wT : Te → Ee → (Bool → Ee → Prop) → KX → Prop
  | .val e, en, Q, X => wE e en (fun r e1 => ∃ x, drf e1 r = some x ∧ truD x fun k => Q k e1) X
  | .and a b, en, Q, X => wT a en (fun k e1 => (k = true → wT b e1 Q X) ∧ (k = false → Q false e1)) X
  | .or a b, en, Q, X => wT a en (fun k e1 => (k = false → wT b e1 Q X) ∧ (k = true → Q true e1)) X
  | .not a, en, Q, X => wT a en (fun k e1 => Q (!k) e1) X
/-- values in a row, frozen -/
def wEs : Es → Ee → (List D → Ee → Prop) → KX → Prop
  | .nil, en, Q, _ => Q [] en
  | .cons e es, en, Q, X => wE e en (fun r e1 => ∃ d e2, give r e1 = some (d, e2) ∧ wEs es e2 (fun ds e3 => Q (d :: ds) e3) X) X
/-- written pairs -/
def wP : Ps → Ee → (List (Key × D) → Ee → Prop) → KX → Prop
  | .nil, en, Q, _ => Q [] en
  | .cons k e ps, en, Q, X => wE e en (fun r e1 => ∃ d e2, give r e1 = some (d, e2) ∧ wP ps e2 (fun kvs e3 => Q ((.inr k, d) :: kvs) e3) X) X
/-- values in a row, as they come -/
def wRs : Es → Ee → (List RV → Ee → Prop) → KX → Prop
  | .nil, en, Q, _ => Q [] en
  | .cons e es, en, Q, X => wE e en (fun r e1 => wRs es e1 (fun rs e2 => Q (frz r :: rs) e2) X) X
def wO : Oe → Ee → (Option Int → Ee → Prop) → KX → Prop
  | .no, en, Q, _ => Q none en
  | .ex e, en, Q, X => wE e en (fun r e1 => ∃ i, r = .v (.int i) ∧ Q (some i) e1) X
def wC : Ot → Ee → (Bool → Ee → Prop) → KX → Prop
  | .no, en, Q, _ => Q true en
  | .ex e, en, Q, X => wT e en Q X
/-- what is walked -/
def wS : Sr → Ee → (RV → List D → Ee → Prop) → KX → Prop
  | .seq e, en, Q, X => wE e en (fun r e1 => ∃ x ds, drf e1 r = some x ∧ walkD x = some ds ∧ Q (frz r) ds e1) X
  | .enu e, en, Q, X => wE e en (fun r e1 => ∃ ds, drf e1 r = some (.lst ds) ∧ sz ds.length ∧ Q (frz r) ((List.range ds.length).zip ds |>.map fun p => .tup [.int (p.1 : Nat), p.2]) e1) X
  | .rng a, en, Q, X => wE a en (fun r e1 => ∃ j : Int, r = .v (.int j) ∧ -(2 ^ 62) ≤ j ∧ j < 2 ^ 62 ∧ Q (.v .non) (rngD 0 j.toNat) e1) X
  | .rng2 a b, en, Q, X => wE a en (fun r e1 => wE b e1 (fun s e2 => ∃ i j : Int, r = .v (.int i) ∧ s = .v (.int j) ∧ (-(2 ^ 62) ≤ i ∧ i < 2 ^ 62 ∧ -(2 ^ 62) ≤ j ∧ j < 2 ^ 62) ∧ Q (.v .non) (rngD i (j - i).toNat) e2) X) X
end
/-- the slot i gets what came -/
def asgS (own : Bool) (r : RV) (i : Nat) (en : Ee) : Option Ee := match own, r with
  | true, .f d => (match en[i]? with
    | some (.io _) => none
    | none => none
    | some _ => some (en.set i (.own d)))
  | _, r => match give r en with
    | some (d, e2) => setV e2 i d
    | none => none
/-- d[k] = x -/
def putO (d k x : D) (Q : D → Prop) : Prop := match d with
  | .dct kvs => ∃ q, keyD k = some q ∧ kvs.length < sizeLine ∧ Q (.dct (putD kvs q x))
  | _ => False
/-- several slots set in a row -/
def setAll : List Nat → List D → Ee → Option Ee
  | [], [], en => some en
  | i :: is, d :: ds, en => match setV en i d with
    | some e1 => setAll is ds e1
    | none => none
  | _, _, _ => none
/-- the value that an except suite adds -/
def fldsD (fs : List (Str × D)) : List Str → Option (List D)
  | [] => some []
  | n :: r => match fs.lookup n, fldsD fs r with
    | some d, some ds => some (d :: ds)
    | _, _ => none
/-- an except suite: the slot n is the exception's, and nothing behind it -/
def suW (su : Su) (fl : List Str) (n : Nat) (x : Str) (fs : List (Str × D)) (en : Ee) (Q : Ee → Prop) : Prop := (∃ d, setV en n d = some (en.set n (.val d))) ∧ match su with
  | .keep j => n ≠ j ∧ ∃ e2, setV en j (.exc x fs) = some e2 ∧ Q (e2.set n .un)
  | .app j ns tup => n ≠ j ∧ ∃ xs ds, ownD en j = some (.lst xs) ∧ xs.length < sizeLine ∧ fldsD fs ns = some ds ∧ (∀ f ∈ ns, f ∈ fl) ∧ ns.length ≤ 10 ∧ (match tup with
    | true => Q ((reOwn en j (.lst (xs ++ [.tup ds]))).set n .un)
    | false => ∃ d, ds = [d] ∧ Q ((reOwn en j (.lst (xs ++ [d]))).set n .un))
mutual
def wM : Sm → Ee → Kx → Prop
  | .set i own e, en, K => wE C e en (fun r e1 => ∃ e2, asgS own r i e1 = some e2 ∧ K.nx e2) K.xq
  | .par i j o1 o2 a b, en, K => wE C a en (fun r e1 => wE C b e1 (fun s e2 => i ≠ j ∧ (∀ k, s = .o k → k ≠ i) ∧ ∃ e3 e4, asgS o1 r i e2 = some e3 ∧ asgS o2 s j e3 = some e4 ∧ K.nx e4) K.xq) K.xq
  | .unp is e, en, K => wE C e en (fun r e1 => ∃ ds e2, r = .v (.tup ds) ∧ setAll is ds e1 = some e2 ∧ K.nx e2) K.xq
  | .put d k e, en, K => wE C e en (fun r e1 => ∃ x e2, give r e1 = some (x, e2) ∧ wE C d e2 (fun s e3 => ∃ i, s = .o i ∧ wE C k e3 (fun u e4 => ∃ c y, ownD e4 i = some c ∧ drf e4 u = some y ∧ putO c y x fun c' => K.nx (reOwn e4 i c')) K.xq) K.xq) K.xq
  | .exp e, en, K => wE C e en (fun _ e1 => K.nx e1) K.xq
  | .ret e, en, K => wE C e en (fun r e1 => K.rt r e1) K.xq
  | .retN, en, K => K.rt (.v .non) en
  | .ife c a b, en, K => wT C c en (fun k e1 => (k = true → wMs a e1 K) ∧ (k = false → wMs b e1 K)) K.xq
  | .for_ i s b, en, K => wS C s en (fun r ds e0 => ∃ x e1, give r e0 = some (x, e1) ∧ goF (fun d en K' => ∃ e1, setV en i d = some e1 ∧ wMs b e1 K') ds e1 K) K.xq
  | .whl c b, en, K => ∃ I : Nat → Ee → Prop, (∃ m, I m en) ∧ ∀ m e, I m e → wT C c e (fun k e1 =>
      (k = true → wMs b e1 { K with nx := fun e2 => ∃ m', m' < m ∧ I m' e2, ct := fun e2 => ∃ m', m' < m ∧ I m' e2, bk := K.nx }) ∧ (k = false → K.nx e1)) K.xq
  | .forU is s b, en, K => wS C s en (fun r ds e0 => ∃ x e1, give r e0 = some (x, e1) ∧ goF (fun d en K' => ∃ xs e1, d = .tup xs ∧ setAll is xs en = some e1 ∧ wMs b e1 K') ds e1 K) K.xq
  | .rai c es, en, K => (C.xk c).isSome = true ∧ wEs C es en (fun ds e1 => ∃ ns, C.xk c = some ns ∧ ns.length = ds.length ∧ ds.length = es.len ∧ sz ds.length ∧ K.xq c (ns.zip ds) e1) K.xq
  | .trk n cs _ su b, en, K => wMs b en { K with xq := fun x fs e1 => ∃ k ns, C.xk x = some ns ∧ subs C x (cs.map .own) = some k ∧ (k = true → suW su ns n x fs e1 K.nx) ∧ (k = false → K.xq x fs e1) }
  | .pas, en, K => K.nx en
  | .brk, en, K => K.bk en
  | .cnt, en, K => K.ct en
def wMs : List Sm → Ee → Kx → Prop
  | [], en, K => K.nx en
  | s :: r, en, K => wM s en { K with nx := fun e => wMs r e K }
end
end
end Vg

set_option Elab.async false
set_option linter.all false
set_option maxRecDepth 100000
namespace Vg
open PySem PySem.Spec PyProof.Rows L2

/-- a result as it stands -/
def RpR (K : PySem.W.Frag) (σ : L2.St) (en : Ee) (H F : Hp) : RV → V → Prop
  | .v d, v => Rp K F v d
  | .o i, v => σ[i]? = some (some v)
  | .f d, v => ∃ p, v = .ref p ∧ F p = none ∧ ¬ Own en σ p ∧ ∃ o, H p = some o ∧ RpO K F o d

/-- data whose top object stands in H, all else in F -/
def RpT (K : PySem.W.Frag) (H F : Hp) (v : V) (d : D) : Prop := Rp K F v d ∨ ∃ p o, v = .ref p ∧ H p = some o ∧ RpO K F o d

section
variable {K : PySem.W.Frag} {en en1 : Ee} {σ : L2.St} {H F H1 F1 : Hp} {r : RV} {v : V} {d : D}
theorem ownD_own {i : Nat} (h : ownD en i = some d) : en[i]? = some (.own d) ∨ en[i]? = some (.io d) := by
  unfold ownD at h
  split at h
  · rename_i q; cases h; exact .inl q
  · rename_i q; cases h; exact .inr q
  · cases h
theorem own_ownD {i : Nat} (h : en[i]? = some (.own d) ∨ en[i]? = some (.io d)) : ownD en i = some d := by
  unfold ownD
  rcases h with h | h <;> rw [h]
theorem RpR.step (h : RpR K σ en H F r v) (s : Step en σ H F en1 σ H1 F1) : RpR K σ en1 H1 F1 r v := by
  cases r with
  | v d => exact Rp.mono s.grow h
  | o i => exact h
  | f d =>
    obtain ⟨p, e, hf, n, o, ho, q⟩ := h
    refine ⟨p, e, ?_, fun w => ?_, o, s.keep p o ho hf n, q.mono s.grow⟩
    · cases e1 : F1 p with
      | none => rfl
      | some u =>
        rcases s.fresh p hf (by rw [e1]; simp) with z | z
        · rw [ho] at z; cases z
        · exact absurd z n
    · rcases s.sub p w with z | z
      · rw [ho] at z; cases z
      · exact n z
theorem RpR.deref (R : Rel K en σ H F) (h : RpR K σ en H F r v) (e : drf en r = some d) : RpT K H F v d := by
  cases r with
  | v d0 => cases e; exact .inl h
  | o i =>
    obtain ⟨p, q, hf, o, ho, ro⟩ := R.own i d (ownD_own e)
    have h' : σ[i]? = some (some v) := h
    rw [q] at h'; cases h'
    exact .inr ⟨p, o, rfl, ho, ro⟩
  | f d0 =>
    cases e
    obtain ⟨p, e, hf, n, o, ho, q⟩ := h
    exact .inr ⟨p, o, e, ho, q⟩
theorem RpT.weak (R : Rel K en σ H F) (h : RpT K H F v d) : Rp K H v d := by
  have L := Leq.of R.sub
  rcases h with h | ⟨p, o, rfl, ho, q⟩
  · exact h.mono L
  · cases q with
    | lst a => exact .lst ho (a.mono L)
    | dct a => exact .dct (.inl ho) (a.mono L)
theorem RpT.lst {ds : List D} (R : Rel K en σ H F) (h : RpT K H F v (.lst ds)) : ∃ p vs, v = .ref p ∧ H p = some (.lst vs) ∧ RpAll K F vs ds := by
  rcases h with h | ⟨p, o, rfl, ho, q⟩
  · cases h with
    | lst a b => exact ⟨_, _, rfl, R.sub _ _ a, b⟩
  · cases q with
    | lst a => exact ⟨_, _, rfl, ho, a⟩
theorem RpT.tup {ds : List D} (R : Rel K en σ H F) (h : RpT K H F v (.tup ds)) : ∃ p vs, v = .ref p ∧ SqT K H p vs ∧ RpAll K F vs ds := by
  rcases h with h | ⟨p, o, rfl, ho, q⟩
  · cases h with
    | tup a b => exact ⟨_, _, rfl, seqT R.sub a, b⟩
  · cases q
theorem RpT.scr {ns : List Int} (R : Rel K en σ H F) (h : RpT K H F v (.scr ns)) : ∃ p, v = .ref p ∧ SqL K H p (ns.map V.int) := by
  rcases h with h | ⟨p, o, rfl, ho, q⟩
  · cases h with
    | scr a => exact ⟨_, rfl, R.sub.seq a⟩
  · cases q
theorem RpT.tupF {ds : List D} (h : RpT K H F v (.tup ds)) : Rp K F v (.tup ds) := by
  rcases h with h | ⟨p, o, rfl, ho, q⟩
  · exact h
  · cases q
theorem RpT.dct {ds : List (Key × D)} (R : Rel K en σ H F) (h : RpT K H F v (.dct ds)) : ∃ p vs, v = .ref p ∧ Rd H p (.dK vs) ∧ RpKV K F vs ds := by
  rcases h with h | ⟨p, o, rfl, ho, q⟩
  · cases h with
    | dct a b => exact ⟨_, _, rfl, rdS R.sub a, b⟩
  · cases q with
    | dct a => exact ⟨_, _, rfl, .inl ho, a⟩
theorem RpT.int {i : Int} (h : RpT K H F v (.int i)) : v = .int i := by
  rcases h with h | ⟨p, o, rfl, ho, q⟩
  · cases h; rfl
  · cases q
theorem RpT.str {x : Str} (h : RpT K H F v (.str x)) : v = .str x := by
  rcases h with h | ⟨p, o, rfl, ho, q⟩
  · cases h; rfl
  · cases q
theorem RpT.bl {x : Bool} (h : RpT K H F v (.bl x)) : v = .bl x := by
  rcases h with h | ⟨p, o, rfl, ho, q⟩
  · cases h; rfl
  · cases q
theorem RpT.non (h : RpT K H F v .non) : v = .non := by
  rcases h with h | ⟨p, o, rfl, ho, q⟩
  · cases h; rfl
  · cases q
theorem RpT.ty {x : String} (h : RpT K H F v (.ty x)) : v = .ty x := by
  rcases h with h | ⟨p, o, rfl, ho, q⟩
  · cases h; rfl
  · cases q
end

/-- how an exception of a class with those fields lies -/
def RpX (K : PySem.W.Frag) (H F : Hp) (oa : Option Addr) (fs : List (Str × D)) : Prop :=
  (fs = [] ∧ oa = none) ∨ ∃ d vs, oa = some d ∧ H d = some (.xd vs) ∧ F d = none ∧ RpFs K F vs fs
/-- the surroundings: what exceptions are wished for, the addresses of classes -/
structure Sr0 where
  K : PySem.W.Frag
  W : WX
  cl : Str → Option Addr
  C : Cts
  gv : Str → V
def GvOk (S : Sr0) : Prop := ∀ x d, S.C.gt x = some d → ∀ F, Rp S.K F (S.gv x) d
/-- the exception's own dict is new since H -/
def NewX (H : Hp) (oa : Option Addr) : Prop := ∀ d, oa = some d → H d = none
theorem NewX.back {en en1 : Ee} {σ σ1 : L2.St} {H F H1 F1 : Hp} {oa : Option Addr} (n : NewX H1 oa) (s : Step en σ H F en1 σ1 H1 F1) : NewX H oa := fun d e => s.there d (n d e)
def XPost (S : Sr0) (en : Ee) (σ : L2.St) (H F : Hp) (Xq : KX) : Prop :=
  ∀ x c fs oa en' H' F', Xq x fs en' → S.cl x = some c → Rel S.K en' σ H' F' → Step en σ H F en' σ H' F' → RpX S.K H' F' oa fs → NewX H oa → S.W (.ref c) oa σ H'
theorem XPost.step {S : Sr0} {en en1 : Ee} {σ : L2.St} {H F H1 F1 : Hp} {Xq : KX} (h : XPost S en σ H F Xq) (s : Step en σ H F en1 σ H1 F1) : XPost S en1 σ H1 F1 Xq :=
  fun x c fs oa en' H' F' a b R t r n => h x c fs oa en' H' F' a b R (s.trans t) r (n.back s)
/-- a new object is new since H -/
def New (H : Hp) (r : RV) (v : V) : Prop := ∀ d p, r = .f d → v = .ref p → H p = none
def QPost (S : Sr0) (en : Ee) (σ : L2.St) (H F : Hp) (Kq : KQ) (Q : VK) : Prop :=
  ∀ r en' v H' F', Kq r en' → Rel S.K en' σ H' F' → Step en σ H F en' σ H' F' → RpR S.K σ en' H' F' r v → New H r v → Q v H'
theorem QPost.step {S : Sr0} {en en1 : Ee} {σ : L2.St} {H F H1 F1 : Hp} {Kq : KQ} {Q : VK} (h : QPost S en σ H F Kq Q) (s : Step en σ H F en1 σ H1 F1) : QPost S en1 σ H1 F1 Kq Q :=
  fun r en' v H' F' a R t q n => h r en' v H' F' a R (s.trans t) q fun d p e1 e2 => s.there p (n d p e1 e2)
def LE (S : Sr0) (w : Ee → KQ → KX → Prop) (t : TE) : Prop :=
  ∀ en σ H F Q Kq Xq, Rel S.K en σ H F → w en Kq Xq → XPost S en σ H F Xq → QPost S en σ H F Kq Q → t σ H Q
def LT (S : Sr0) (w : Ee → (Bool → Ee → Prop) → KX → Prop) (t : TT) : Prop :=
  ∀ en σ H F (Q : Bool → Hp → Prop) (Kq : Bool → Ee → Prop) Xq, Rel S.K en σ H F → w en Kq Xq → XPost S en σ H F Xq → (∀ k en' H' F', Kq k en' → Rel S.K en' σ H' F' → Step en σ H F en' σ H' F' → Q k H') → t σ H Q
/-- data values in a row -/
def LA (S : Sr0) (w : Ee → (List D → Ee → Prop) → KX → Prop) (t : TA) : Prop :=
  ∀ en σ H F (Q : List V → Hp → Prop) (Kq : List D → Ee → Prop) Xq, Rel S.K en σ H F → w en Kq Xq → XPost S en σ H F Xq →
    (∀ ds en' vs H' F', Kq ds en' → Rel S.K en' σ H' F' → Step en σ H F en' σ H' F' → RpAll S.K F' vs ds → Q vs H') → t σ H Q
inductive RpRs (K : PySem.W.Frag) (σ : L2.St) (en : Ee) (H F : Hp) : List RV → List V → Prop where
  | nil : RpRs K σ en H F [] []
  | cons {r : RV} {rs : List RV} {v : V} {vs : List V} : RpR K σ en H F r v → RpRs K σ en H F rs vs → RpRs K σ en H F (r :: rs) (v :: vs)
theorem RpRs.step {K : PySem.W.Frag} {en en1 : Ee} {σ : L2.St} {H F H1 F1 : Hp} (s : Step en σ H F en1 σ H1 F1) : ∀ {rs : List RV} {vs : List V}, RpRs K σ en H F rs vs → RpRs K σ en1 H1 F1 rs vs
  | _, _, .nil => .nil
  | _, _, .cons h a => .cons (h.step s) (a.step s)
def LRs (S : Sr0) (w : Ee → (List RV → Ee → Prop) → KX → Prop) (t : TA) : Prop :=
  ∀ en σ H F (Q : List V → Hp → Prop) (Kq : List RV → Ee → Prop) Xq, Rel S.K en σ H F → w en Kq Xq → XPost S en σ H F Xq →
    (∀ rs en' vs H' F', Kq rs en' → Rel S.K en' σ H' F' → Step en σ H F en' σ H' F' → RpRs S.K σ en' H' F' rs vs → Q vs H') → t σ H Q

section
variable {S : Sr0} {en en' : Ee} {σ σ0 : L2.St} {H F H' F' : Hp}
theorem New.v {d : D} {v : V} : New H (.v d) v := fun _ _ e => by cases e
theorem New.o {i : Nat} {v : V} : New H (.o i) v := fun _ _ e => by cases e
/-- what is nobody's yet is frozen -/
theorem froze {r : RV} {v : V} (R : Rel S.K en' σ H' F') (s : Step en σ0 H F en' σ H' F') (h : RpR S.K σ en' H' F' r v) (n : New H r v) :
    ∃ F2, Rel S.K en' σ H' F2 ∧ Step en σ0 H F en' σ H' F2 ∧ RpR S.K σ en' H' F2 (frz r) v := by
  cases r with
  | v d => exact ⟨F', R, s, h⟩
  | o i => exact ⟨F', R, s, h⟩
  | f d =>
    obtain ⟨p, e, hf, no, o, ho, q⟩ := h
    subst e
    refine ⟨upd F' p o, R.freeze hf ho no, s.freeze hf (.inl (n d p rfl rfl)), ?_⟩
    cases q with
    | lst a => exact .lst upd_same (a.mono (leqUpd hf))
    | dct a => exact .dct (.inl upd_same) (a.mono (leqUpd hf))
/-- an argument to be read -/
theorem give_ex {r : RV} {v : V} {d : D} {e2 : Ee} (R : Rel S.K en' σ H' F') (s : Step en σ0 H F en' σ H' F') (h : RpR S.K σ en' H' F' r v) (n : New H r v) (g : give r en' = some (d, e2)) :
    (∃ F2, Rel S.K e2 σ H' F2 ∧ Step en σ0 H F e2 σ H' F2 ∧ Rp S.K F2 v d ∧ Leq F' F2 ∧ (∀ a, F' a = none → F2 a ≠ none → v = .ref a ∧ ((∃ d, r = .f d) ∨ Own en' σ a))) ∧ ∀ a, Own e2 σ a → Own en' σ a := by
  cases r with
  | v d0 => cases g; exact ⟨⟨F', R, s, h, Leq.refl _, fun a z1 z2 => absurd z1 z2⟩, fun _ w => w⟩
  | f d0 =>
    cases g
    obtain ⟨p, e, hf, no, o, ho, q⟩ := h
    subst e
    refine ⟨⟨upd F' p o, R.freeze hf ho no, s.freeze hf (.inl (n _ p rfl rfl)), ?_, leqUpd hf, fun a z1 z2 => ?_⟩, fun _ w => w⟩
    · cases q with
      | lst a => exact .lst upd_same (a.mono (leqUpd hf))
      | dct a => exact .dct (.inl upd_same) (a.mono (leqUpd hf))
    · by_cases ha : a = p
      · rw [ha]; exact ⟨rfl, .inl ⟨_, rfl⟩⟩
      · rw [upd_ne ha] at z2; exact absurd z1 z2
  | o i =>
    unfold give at g
    simp only at g
    split at g
    · rename_i dq hd
      cases g
      obtain ⟨p, e, hf, o, ho, q⟩ := R.own i d (.inl hd)
      have e' : σ[i]? = some (some v) := h
      rw [e] at e'; cases e'
      have hlt : i < en'.length := (List.getElem?_eq_some_iff.mp hd).1
      have own' : ∀ a, Own (en'.set i (.val d)) σ a → Own en' σ a ∧ a ≠ p := fun a ⟨j, dj, hj, ej⟩ => by
        by_cases hij : i = j
        · subst hij
          rw [List.getElem?_set_self hlt] at hj
          rcases hj with z | z <;> cases z
        · rw [List.getElem?_set_ne hij] at hj
          refine ⟨⟨j, dj, hj, ej⟩, fun z => ?_⟩
          subst z
          exact hij (R.inj i j d dj a (.inl hd) hj e ej)
      have R2 : Rel S.K (en'.set i (.val d)) σ H' (upd F' p o) :=
        { sub := fun b u w => by
            by_cases hb : b = p
            · subst hb; rw [upd_same] at w; cases w; exact ho
            · rw [upd_ne hb] at w; exact R.sub b u w
          len := by rw [List.length_set]; exact R.len
          val := fun j dj hj => by
            by_cases hij : i = j
            · subst hij
              rw [List.getElem?_set_self hlt] at hj
              cases hj
              refine ⟨.ref p, e, ?_⟩
              cases q with
              | lst a => exact .lst upd_same (a.mono (leqUpd hf))
              | dct a => exact .dct (.inl upd_same) (a.mono (leqUpd hf))
            · rw [List.getElem?_set_ne hij] at hj
              obtain ⟨w, ew, rw'⟩ := R.val j dj hj
              exact ⟨w, ew, rw'.mono (leqUpd hf)⟩
          own := fun j dj hj => by
            by_cases hij : i = j
            · subst hij
              rw [List.getElem?_set_self hlt] at hj
              rcases hj with z | z <;> cases z
            · rw [List.getElem?_set_ne hij] at hj
              obtain ⟨w, ew, fw, u, hu, ru⟩ := R.own j dj hj
              have hwp : w ≠ p := fun z => by
                subst z
                exact hij (R.inj i j d dj w (.inl hd) hj e ew)
              exact ⟨w, ew, by rw [upd_ne hwp]; exact fw, u, hu, ru.mono (leqUpd hf)⟩
          inj := fun j k dj dk w hj hk ej ek => by
            have h1 : en'[j]? = some (.own dj) ∨ en'[j]? = some (.io dj) := by
              by_cases hij : i = j
              · subst hij
                rw [List.getElem?_set_self hlt] at hj
                rcases hj with z | z <;> cases z
              · rw [List.getElem?_set_ne hij] at hj; exact hj
            have h2 : en'[k]? = some (.own dk) ∨ en'[k]? = some (.io dk) := by
              by_cases hij : i = k
              · subst hij
                rw [List.getElem?_set_self hlt] at hk
                rcases hk with z | z <;> cases z
              · rw [List.getElem?_set_ne hij] at hk; exact hk
            exact R.inj j k dj dk w h1 h2 ej ek }
      refine ⟨⟨upd F' p o, R2, ?_, ?_, leqUpd hf, fun a z1 z2 => ?_⟩, fun a w => (own' a w).1⟩
      · have ownp : Own en' σ p := ⟨i, d, .inl hd, e⟩
        have s2 := s.freeze (o := o) hf (s.sub p ownp)
        exact { grow := s2.grow, fresh := s2.fresh, keep := s2.keep, sub := fun a w => s.sub a (own' a w).1,
                io := fun j dj hj => by
                  obtain ⟨e1, d1, h1⟩ := s.io j dj hj
                  refine ⟨e1, d1, ?_⟩
                  by_cases hij : i = j
                  · subst hij; rw [hd] at h1; cases h1
                  · rw [List.getElem?_set_ne hij]; exact h1
                there := s.there }
      · cases q with
        | lst a => exact .lst upd_same (a.mono (leqUpd hf))
        | dct a => exact .dct (.inl upd_same) (a.mono (leqUpd hf))
      · by_cases ha : a = p
        · rw [ha]; exact ⟨rfl, .inr ⟨i, d, .inl hd, e⟩⟩
        · rw [upd_ne ha] at z2; exact absurd z1 z2
    · cases g
theorem give_ok {r : RV} {v : V} {d : D} {e2 : Ee} (R : Rel S.K en' σ H' F') (s : Step en σ0 H F en' σ H' F') (h : RpR S.K σ en' H' F' r v) (n : New H r v) (g : give r en' = some (d, e2)) :
    ∃ F2, Rel S.K e2 σ H' F2 ∧ Step en σ0 H F e2 σ H' F2 ∧ Rp S.K F2 v d := by
  obtain ⟨⟨F2, a, b, c, _⟩, _⟩ := give_ex R s h n g
  exact ⟨F2, a, b, c⟩
end
end Vg

set_option Elab.async false
set_option linter.all false
set_option maxRecDepth 100000
namespace Vg
open PySem PySem.Spec PyProof.Rows L2
theorem rep_size (a : Array Nat) : ∀ (n : Nat) (b : Array Nat), (List.foldl (fun x1 x2 => x1 ++ x2) b (List.replicate n a)).size = b.size + a.size * n
  | 0, b => by simp
  | n + 1, b => by
    rw [List.replicate_succ, List.foldl_cons, rep_size a n, Array.size_append, Nat.mul_succ]
    omega
section
variable {X : Cx}
def rCatL (K : PySem.W.Frag) : R2 := fun x y H Q => ∃ a b xs ys, x = .ref a ∧ y = .ref b ∧ SqL K H a xs ∧ SqL K H b ys ∧ xs.length + ys.length ≤ sizeLine ∧ ∀ p, H p = none → Q (.ref p) (upd H p (.lst (xs ++ ys)))
theorem op_catL : OpR X (binaryOp .Add) (rCatL X.K) := by
  intro pins s σ H x y v u Q I rx ry h
  obtain ⟨a, b, xs, ys, rfl, rfl, ha, hb, hz, q⟩ := h
  cases rx
  cases ry
  obtain ⟨its, r, ⟨⟨cls, dd, data, sl⟩, n, ho, hc, hdd, hd⟩, z⟩ := I.list ha
  obtain ⟨its2, r2, ⟨⟨cls2, dd2, data2, sl2⟩, n2, ho2, hc2, hdd2, hd2⟩, z2⟩ := I.list hb
  simp only at hc hd hc2 hd2 hdd hdd2
  subst hc hd hc2 hd2 hdd hdd2
  have e : its.toArray ++ its2.toArray = (its ++ its2).toArray := by simp
  have l1 := r.length
  have l2 := r2.length
  refine concat_meets ⟨_, ho, rfl⟩ ⟨_, ho2, rfl⟩ noFill_list_add seq_list_add PySem.F.slot_list_add PySem.F.entry_list_add (PySem.F.args_list_add_2 _ _) (list_addW a b its.toArray its2.toArray n n2 _ _ sl sl2 (by simp; omega)) ⟨ho, ho2, ?_⟩
  rw [e]
  exact ⟨.ref _, _, I.lnew (t' := s.toks) (r.append r2) (by rw [List.length_append]; omega), rfl, q _ I.fresh⟩
def rAddAll (K : PySem.W.Frag) : R2 := fun x y H Q => rI0 (fun i j => .int (i + j)) x y H Q ∨ (∃ i j, x = .str i ∧ y = .str j ∧ i.length + j.length ≤ sizeLine ∧ Q (.str (i ++ j)) H) ∨ rCatL K x y H Q ∨ rCatA K x y H Q
theorem op_addAll : OpR X (binaryOp .Add) (rAddAll X.K) := op_add.or (op_add_str.or (op_catL.or op_catA))
def rMulS : R2 := fun x y H Q => ∃ z k, x = .str z ∧ y = .int k ∧ 1 < k ∧ k < 100000 ∧ 0 < z.length ∧ z.length < 100 ∧ Q (.str ⟨(List.replicate k.toNat z.cps).foldl (· ++ ·) #[]⟩) H
theorem op_mulS : OpR X (binaryOp .Mult) rMulS := by
  intro pins s σ H x y v u Q I rx ry h
  obtain ⟨z, k, rfl, rfl, h1, h2, h3, h4, q⟩ := h
  obtain ⟨t, rfl⟩ := rx
  obtain ⟨t', rfl⟩ := ry
  have hl : sizeLine = 16777216 := sizeLine_eq
  refine PySem.P.mul_str ?_ (fun _ _ => ?_) (fun _ _ => ?_) ?_
  · rw [decide_eq_false (by omega), decide_eq_false (by omega)]; rfl
  · have e : (92233720368547 : Int) ≤ (2 ^ 63 - 1) / k := (Int.le_ediv_iff_mul_le (by omega)).mpr (by omega)
    omega
  · have hz : z.length * k.toNat ≤ 100 * 100000 := Nat.mul_le_mul (by omega) (by omega)
    unfold Builtin.Str.tooLong
    rw [decide_eq_false (by omega)]
  · rw [if_neg (by omega), if_neg (by
      have : (k == 1) = false := by simp; omega
      have h5 : (z.length == 0) = false := by simp; omega
      rw [this, h5]; simp)]
    refine ⟨?_, ⟨.str _, H, I.tok _, ⟨_, rfl⟩, q⟩⟩
    have hz : z.length * k.toNat ≤ 100 * 100000 := Nat.mul_le_mul (by omega) (by omega)
    have e := rep_size z.cps k.toNat #[]
    show Array.size (List.foldl (fun x1 x2 => x1 ++ x2) #[] (List.replicate k.toNat z.cps)) ≤ sizeLine
    rw [e]
    have : z.cps.size = z.length := rfl
    rw [this]
    simp
    omega
def rBin (K : PySem.W.Frag) : Operator → R2
  | .Add => rAddAll K
  | .Sub => rI0 fun i j => .int (i - j)
  | .Mult => fun x y H Q => rI CMul (fun i j => .int (i * j)) x y H Q ∨ rMulS x y H Q ∨ rRep x y H Q
  | .FloorDiv => rI CDiv fun i j => .int (i / j)
  | .Mod => rI (fun _ j => 0 < j) fun i j => .int (i % j)
  | .Pow => rI CPow fun i j => .int (i ^ j.toNat)
  | _ => fun _ _ _ _ => False
theorem op_bin : ∀ o, OpR X (binaryOp o) (rBin X.K o)
  | .Add => op_addAll
  | .Sub => op_sub
  | .Mult => op_mul.or (op_mulS.or op_rep)
  | .FloorDiv => op_fdiv
  | .Mod => op_mod
  | .Pow => op_pow
  | .MatMult => fun _ _ _ _ _ _ _ _ _ _ _ _ h => h.elim
  | .Div => fun _ _ _ _ _ _ _ _ _ _ _ _ h => h.elim
  | .LShift => fun _ _ _ _ _ _ _ _ _ _ _ _ h => h.elim
  | .RShift => fun _ _ _ _ _ _ _ _ _ _ _ _ h => h.elim
  | .BitOr => fun _ _ _ _ _ _ _ _ _ _ _ _ h => h.elim
  | .BitXor => fun _ _ _ _ _ _ _ _ _ _ _ _ h => h.elim
  | .BitAnd => fun _ _ _ _ _ _ _ _ _ _ _ _ h => h.elim
/-- comparisons -/
def rEqAll (K : PySem.W.Frag) : R2 := fun x y H Q => rEq x y H Q ∨ rEqD K x y H Q
def rNeAll (K : PySem.W.Frag) : R2 := fun x y H Q => rNe x y H Q ∨ rNeD K x y H Q
def rInAll (K : PySem.W.Frag) : R2 := fun x y H Q => rIn K false x y H Q ∨ (∃ (c : Nat) (z : Str), x = .str ⟨#[c]⟩ ∧ y = .str z ∧ Q (.bl (decide (c ∈ z.cps.toList))) H) ∨ (∃ a o, y = .ref a ∧ DGet H a x o ∧ Q (.bl o.isSome) H)
def rNotInAll (K : PySem.W.Frag) : R2 := fun x y H Q => rIn K true x y H Q ∨ (∃ (c : Nat) (z : Str), x = .str ⟨#[c]⟩ ∧ y = .str z ∧ Q (.bl (!decide (c ∈ z.cps.toList))) H) ∨ (∃ a o, y = .ref a ∧ DGet H a x o ∧ Q (.bl (!o.isSome)) H)
def rIsAll : R2 := fun x y H Q => (∃ a b, x = .ty a ∧ y = .ty b ∧ Q (.bl (decide (a = b))) H) ∨ (y = .non ∧ Q (.bl (decide (x = .non))) H)
def rIsNotAll : R2 := fun x y H Q => (∃ a b, x = .ty a ∧ y = .ty b ∧ Q (.bl (!decide (a = b))) H) ∨ (y = .non ∧ Q (.bl (!decide (x = .non))) H)
def rCmp (K : PySem.W.Frag) : CmpOp → R2
  | .Lt => rI0 fun i j => .bl (decide (i < j))
  | .LtE => rI0 fun i j => .bl (decide (i ≤ j))
  | .Gt => rI0 fun i j => .bl (decide (j < i))
  | .GtE => rI0 fun i j => .bl (decide (j ≤ i))
  | .Eq => rEqAll K
  | .NotEq => rNeAll K
  | .In => rInAll K
  | .NotIn => rNotInAll K
  | .Is => rIsAll
  | .IsNot => rIsNotAll
theorem op_din (hu : X.A.units + 1 < cLine) : OpR X (compareOp .In) (fun x y H Q => ∃ a o, y = .ref a ∧ DGet H a x o ∧ Q (.bl o.isSome) H) := by
  intro pins s σ H x y v u Q I rx ry h
  obtain ⟨a, o, rfl, g, q⟩ := h
  cases ry
  exact d_in hu I g rx fun s' I' => ⟨.bl _, H, I', rfl, q⟩
theorem op_dnotin (hu : X.A.units + 1 < cLine) : OpR X (compareOp .NotIn) (fun x y H Q => ∃ a o, y = .ref a ∧ DGet H a x o ∧ Q (.bl (!o.isSome)) H) := by
  intro pins s σ H x y v u Q I rx ry h
  obtain ⟨a, o, rfl, g, q⟩ := h
  cases ry
  exact d_notIn hu I g rx fun s' I' => ⟨.bl _, H, I', rfl, q⟩
theorem op_cmp (hu : X.A.units + 64 < cLine) : ∀ o, OpR X (compareOp o) (rCmp X.K o)
  | .Lt => op_lt
  | .LtE => op_le
  | .Gt => op_gt
  | .GtE => op_ge
  | .Eq => op_eq.or (op_eqD hu)
  | .NotEq => op_ne.or (op_neD hu)
  | .In => op_in_seq.or (op_in_sign.or (op_din (by omega)))
  | .NotIn => op_notIn_seq.or (op_notIn_sign.or (op_dnotin (by omega)))
  | .Is => op_isTyB.or op_isN
  | .IsNot => op_notTyB.or op_notN
end

section
variable {S : Sr0} {en : Ee} {σ : L2.St} {H F : Hp} {v w : V} {x y : D} {Kq : RV → Prop} {Q : VK}
/-- the end of an operation: the slots stay -/
def OPost (S : Sr0) (en : Ee) (σ : L2.St) (H F : Hp) (Kq : RV → Prop) (Q : VK) : Prop :=
  ∀ r v H' F', Kq r → Rel S.K en σ H' F' → Step en σ H F en σ H' F' → RpR S.K σ en H' F' r v → New H r v → Q v H'
theorem OPost.here {d : D} (h : OPost S en σ H F Kq Q) (R : Rel S.K en σ H F) (k : Kq (.v d)) (r : Rp S.K F v d) : Q v H := h (.v d) v H F k R (Step.refl ..) r New.v
/-- a new list -/
theorem OPost.lst {ds : List D} {vs : List V} (h : OPost S en σ H F Kq Q) (R : Rel S.K en σ H F) (k : Kq (.f (.lst ds))) (a : RpAll S.K F vs ds) {p : Addr} (hp : H p = none) : Q (.ref p) (upd H p (.lst vs)) := by
  refine h (.f (.lst ds)) _ _ F k (R.alloc hp) (Step.alloc hp) ⟨p, rfl, R.nF hp, R.notOwn hp, _, upd_same, .lst a⟩ ?_
  intro d q _ e
  cases e
  exact hp
theorem OPost.dct {ds : List (Key × D)} {vs : List (Key × V)} (h : OPost S en σ H F Kq Q) (R : Rel S.K en σ H F) (k : Kq (.f (.dct ds))) (a : RpKV S.K F vs ds) {p : Addr} (hp : H p = none) : Q (.ref p) (upd H p (.dK vs)) := by
  refine h (.f (.dct ds)) _ _ F k (R.alloc hp) (Step.alloc hp) ⟨p, rfl, R.nF hp, R.notOwn hp, _, upd_same, .dct a⟩ ?_
  intro d q _ e
  cases e
  exact hp
/-- a new tuple -/
theorem OPost.tup {ds : List D} {vs : List V} (h : OPost S en σ H F Kq Q) (R : Rel S.K en σ H F) (k : Kq (.v (.tup ds))) (a : RpAll S.K F vs ds) {p : Addr} (hp : H p = none) : Q (.ref p) (upd H p (.tup vs)) := by
  have hF := R.nF hp
  have R1 := R.alloc (o := .tup vs) hp
  refine h (.v (.tup ds)) _ _ (upd F p (.tup vs)) k (R1.freeze hF upd_same (R.notOwn hp)) ((Step.alloc hp).freeze hF (.inl hp)) ?_ New.v
  exact .tup (SqT.of upd_same) (a.mono (leqUpd hF))
theorem ints_rp {K : PySem.W.Frag} {F : Hp} : ∀ ns : List Int, RpAll K F (ns.map V.int) (ns.map D.int)
  | [] => .nil
  | n :: ns => .cons (.int n) (ints_rp ns)
theorem bin_ok {o : Operator} (R : Rel S.K en σ H F) (rx : RpT S.K H F v x) (ry : RpT S.K H F w y) (h : binD o x y Kq) (q : OPost S en σ H F Kq Q) : rBin S.K o v w H Q := by
  unfold binD at h
  split at h
  · exact .inl ⟨_, _, rx.int, ry.int, q.here R h (.int _)⟩
  · exact ⟨_, _, rx.int, ry.int, q.here R h (.int _)⟩
  · exact .inl ⟨_, _, rx.int, ry.int, h.1, q.here R h.2 (.int _)⟩
  · exact ⟨_, _, rx.int, ry.int, h.1, q.here R h.2 (.int _)⟩
  · exact ⟨_, _, rx.int, ry.int, h.1, q.here R h.2 (.int _)⟩
  · exact ⟨_, _, rx.int, ry.int, h.1, q.here R h.2 (.int _)⟩
  · exact .inr (.inl ⟨_, _, rx.str, ry.str, h.1, q.here R h.2 (.str _)⟩)
  · obtain ⟨p, e1, r1⟩ := rx.scr R
    obtain ⟨p2, vs2, e2, r2, a2⟩ := ry.lst R
    exact .inr (.inr (.inl ⟨p, p2, _, vs2, e1, e2, r1, SqL.of r2, by rw [List.length_map, a2.length]; exact h.1, fun pn hp => q.lst R h.2 ((ints_rp _).app a2) hp⟩))
  · obtain ⟨p, vs, e1, r1, a1⟩ := rx.lst R
    obtain ⟨p2, vs2, e2, r2, a2⟩ := ry.lst R
    exact .inr (.inr (.inl ⟨p, p2, vs, vs2, e1, e2, SqL.of r1, SqL.of r2, by rw [a1.length, a2.length]; exact h.1, fun pn hp => q.lst R h.2 (a1.app a2) hp⟩))
  · obtain ⟨p, vs, e1, r1, a1⟩ := rx.tup R
    obtain ⟨p2, vs2, e2, r2, a2⟩ := ry.tup R
    refine .inr (.inr (.inr ⟨p, p2, vs, vs2, e1, e2, r1, r2, by rw [a1.length, a2.length]; exact h.1, fun z => ?_, fun z1 z2 => ?_, fun z1 z2 pn hp => q.tup R h.2 (a1.app a2) hp⟩))
    · subst z
      cases a1
      rw [← e2]
      exact q.here R h.2 ry.tupF
    · subst z2
      cases a2
      rw [← e1]
      refine q.here R h.2 ?_
      rw [List.append_nil]
      exact rx.tupF
  · obtain ⟨p, vs, e1, r1, a1⟩ := rx.lst R
    exact .inr (.inr ⟨p, _, vs, e1, ry.int, r1, h.1, h.2.1, by rw [a1.length]; exact h.2.2.1, fun pn hp => q.lst R h.2.2.2 (a1.rep _) hp⟩)
  · exact .inr (.inl ⟨_, _, rx.str, ry.int, h.1, h.2.1, h.2.2.1, h.2.2.2.1, q.here R h.2.2.2.2 (.str _)⟩)
  · exact h.elim

mutual
theorem toPy_ok {K : PySem.W.Frag} {H : Hp} : ∀ {d : D} {v : V} {p : PyData}, Rp K H v d → toPy d = some p → Dp K H v p
  | .non, _, _, .non, e => by cases e; exact .non
  | .bl b, _, _, .bl _, e => by cases e; exact .bl b
  | .int b, _, _, .int _, e => by cases e; exact .int b
  | .str b, _, _, .str _, e => by cases e; exact .str b
  | .lst ds, _, p, .lst r a, e => by
    unfold toPy at e
    cases q : toPys ds with
    | none => rw [q] at e; cases e
    | some ps =>
      rw [q] at e
      cases e
      exact .lst (SqL.of r) (toPys_ok a q)
  | .tup ds, _, p, .tup r a, e => by
    unfold toPy at e
    cases q : toPys ds with
    | none => rw [q] at e; cases e
    | some ps =>
      rw [q] at e
      cases e
      exact .tup r (toPys_ok a q)
  | .dct _, _, _, _, e => by unfold toPy at e; cases e
  | .ty _, _, _, _, e => by unfold toPy at e; cases e
  | .scr _, _, _, _, e => by unfold toPy at e; cases e
  | .fn _, _, _, _, e => by unfold toPy at e; cases e
  | .exc _ _, _, _, _, e => by unfold toPy at e; cases e
theorem toPys_ok {K : PySem.W.Frag} {H : Hp} : ∀ {ds : List D} {vs : List V} {ps : List PyData}, RpAll K H vs ds → toPys ds = some ps → DpAll K H vs ps
  | [], _, _, .nil, e => by cases e; exact .nil
  | d :: ds, _, ps, .cons h a, e => by
    unfold toPys at e
    cases q1 : toPy d with
    | none => rw [q1] at e; cases e
    | some x =>
      cases q2 : toPys ds with
      | none => rw [q1, q2] at e; cases e
      | some xs =>
        rw [q1, q2] at e
        cases e
        exact .cons (toPy_ok h q1) (toPys_ok a q2)
end
theorem flat_ok {K : PySem.W.Frag} {F : Hp} : ∀ {d : D} {v u : V}, Rp K F v d → flatD d = some u → v = u := by
  intro d v u r e
  cases r <;> first | (cases e; rfl) | (unfold flatD at e; cases e)
theorem flats_ok {K : PySem.W.Frag} {F : Hp} : ∀ {ds : List D} {vs us : List V}, RpAll K F vs ds → flatsD ds = some us → vs = us
  | [], _, _, .nil, e => by cases e; rfl
  | d :: ds, _, us, .cons h a, e => by
    unfold flatsD at e
    cases q1 : flatD d with
    | none => rw [q1] at e; cases e
    | some x =>
      cases q2 : flatsD ds with
      | none => rw [q1, q2] at e; cases e
      | some xs =>
        rw [q1, q2] at e
        cases e
        rw [flat_ok h q1, flats_ok a q2]
theorem look_ok {K : PySem.W.Frag} {F : Hp} (k : Key) : ∀ {vs : List (Key × V)} {ds : List (Key × D)}, RpKV K F vs ds → (match look ds k with | some d => ∃ v, valV vs k = some v ∧ Rp K F v d | none => valV vs k = none)
  | _, _, .nil => rfl
  | (k1, v1) :: vs, (_, d1) :: ds, .cons h a => by
    have ih := look_ok k a
    by_cases e : k1 = k
    · have e1 : look ((k1, d1) :: ds) k = some d1 := by simp [look, List.find?_cons, e]
      rw [e1]
      exact ⟨v1, valV_pos e, h⟩
    · have e1 : look ((k1, d1) :: ds) k = look ds k := by simp [look, List.find?_cons, e]
      rw [e1, valV_neg (p := (k1, v1)) e]
      exact ih
theorem key_ok {K : PySem.W.Frag} {F : Hp} {d : D} {v : V} {k : Key} (r : Rp K F v d) (e : keyD d = some k) : v = kV k := by
  cases r <;> first | (cases e; rfl) | (unfold keyD at e; cases e)
theorem RpT.key (h : RpT S.K H F v x) {k : Key} (e : keyD x = some k) : v = kV k := by
  rcases h with h | ⟨p, o, rfl, ho, q⟩
  · exact key_ok h e
  · cases q <;> (unfold keyD at e; cases e)
theorem RpT.flat (h : RpT S.K H F v x) {u : V} (e : flatD x = some u) : v = u := by
  rcases h with h | ⟨p, o, rfl, ho, q⟩
  · exact flat_ok h e
  · cases q <;> (unfold flatD at e; cases e)
theorem dgetR {H : Hp} {a : Addr} {kvs : List (Key × V)} {k : Key} (e : Rd H a (.dK kvs)) : DGet H a (kV k) (valV kvs k) := .inl ⟨kvs, k, e, rfl, rfl⟩
/-- in -/
theorem in_ok {Kb : Bool → Prop} {g : Bool → Bool} (R : Rel S.K en σ H F) (rx : RpT S.K H F v x) (ry : RpT S.K H F w y) (h : inD x y Kb) (q : ∀ b, Kb b → Q (.bl (g b)) H) :
    (∃ p xs, w = .ref p ∧ (SqL S.K H p xs ∨ SqT S.K H p xs) ∧ flatV v = true ∧ xs.all flatV = true ∧ Q (.bl (g (inV v xs))) H) ∨
      (∃ (c : Nat) (z : Str), v = .str ⟨#[c]⟩ ∧ w = .str z ∧ Q (.bl (g (decide (c ∈ z.cps.toList)))) H) ∨ (∃ a o, w = .ref a ∧ DGet H a v o ∧ Q (.bl (g o.isSome)) H) := by
  unfold inD at h
  split at h
  · obtain ⟨u, us, e1, e2, f1, f2, k⟩ := h
    obtain ⟨p, vs, e3, r3, a3⟩ := ry.lst R
    have z1 := rx.flat e1
    have z2 := flats_ok a3 e2
    subst z1 z2
    exact .inl ⟨p, _, e3, .inl (SqL.of r3), f1, f2, q _ k⟩
  · obtain ⟨u, us, e1, e2, f1, f2, k⟩ := h
    obtain ⟨p, vs, e3, r3, a3⟩ := ry.tup R
    have z1 := rx.flat e1
    have z2 := flats_ok a3 e2
    subst z1 z2
    exact .inl ⟨p, _, e3, .inr r3, f1, f2, q _ k⟩
  · obtain ⟨c, rfl, k⟩ := h
    exact .inr (.inl ⟨c, _, rx.str, ry.str, q _ k⟩)
  · obtain ⟨k, e1, k2⟩ := h
    obtain ⟨p, vs, e3, r3, a3⟩ := ry.dct R
    have z := look_ok k a3
    refine .inr (.inr ⟨p, valV vs k, e3, by rw [rx.key e1]; exact dgetR r3, ?_⟩)
    split at z
    · rename_i d ed
      obtain ⟨u, hu, _⟩ := z
      rw [hu]
      rw [ed] at k2
      exact q _ k2
    · rename_i ed
      rw [z]
      rw [ed] at k2
      exact q _ k2
  · exact h.elim
theorem eq_ok {Kb : Bool → Prop} {g : Bool → Bool} (R : Rel S.K en σ H F) (rx : RpT S.K H F v x) (ry : RpT S.K H F w y) (h : eqD x y Kb) (q : ∀ b, Kb b → Q (.bl (g b)) H) :
    ∃ d e, Dp S.K H v d ∧ Dp S.K H w e ∧ SeqAt.shaped d = true ∧ SeqAt.shaped e = true ∧ Q (.bl (g (PyData.eqv d e))) H := by
  unfold eqD at h
  obtain ⟨d, e, e1, e2, s1, s2, k⟩ := h
  exact ⟨d, e, toPy_ok (rx.weak R) e1, toPy_ok (ry.weak R) e2, s1, s2, q _ k⟩
theorem RpT.isNon (h : RpT S.K H F v x) : (x = .non → v = .non) ∧ (x ≠ .non → v ≠ .non) := by
  rcases h with h | ⟨p, o, rfl, ho, q⟩
  · cases h <;> exact ⟨fun z => (by first | rfl | (cases z)), fun z => (by first | exact absurd rfl z | (intro y; cases y))⟩
  · cases q <;> exact ⟨fun z => (by cases z), fun z y => (by cases y)⟩
theorem cmp_ok {o : CmpOp} {Kb : Bool → Prop} (R : Rel S.K en σ H F) (rx : RpT S.K H F v x) (ry : RpT S.K H F w y) (h : cmpD o x y Kb) (q : ∀ b, Kb b → Q (.bl b) H) : rCmp S.K o v w H Q := by
  unfold cmpD at h
  split at h
  · exact ⟨_, _, rx.int, ry.int, q _ h⟩
  · exact ⟨_, _, rx.int, ry.int, q _ h⟩
  · exact ⟨_, _, rx.int, ry.int, q _ h⟩
  · exact ⟨_, _, rx.int, ry.int, q _ h⟩
  · refine .inl ⟨by rw [rx.int, ry.int]; rfl, ?_⟩
    rw [rx.int, ry.int, dec_int, Bool.beq_eq_decide_eq]
    exact q _ h
  · refine .inl ⟨by rw [rx.int, ry.int]; rfl, ?_⟩
    rw [rx.int, ry.int, dec_int, Bool.beq_eq_decide_eq]
    exact q _ h
  · refine .inl ⟨by rw [rx.str, ry.str]; rfl, ?_⟩
    rw [rx.str, ry.str, dec_str, Bool.beq_eq_decide_eq]
    exact q _ h
  · refine .inl ⟨by rw [rx.str, ry.str]; rfl, ?_⟩
    rw [rx.str, ry.str, dec_str, Bool.beq_eq_decide_eq]
    exact q _ h
  · exact .inr (eq_ok (g := fun b => b) R rx ry h q)
  · exact .inr (eq_ok (g := fun b => !b) R rx ry h fun b k => q _ k)
  · exact in_ok (g := fun b => b) R rx ry h q
  · exact in_ok (g := fun b => !b) R rx ry h fun b k => q _ k
  · exact .inl ⟨_, _, rx.ty, ry.ty, q _ h⟩
  · exact .inl ⟨_, _, rx.ty, ry.ty, q _ h⟩
  · refine .inr ⟨ry.non, ?_⟩
    split at h
    · rw [rx.non]
      exact q _ h
    · rename_i z
      rw [decide_eq_false (rx.isNon.2 z)]
      exact q _ h
  · refine .inr ⟨ry.non, ?_⟩
    split at h
    · rw [rx.non]
      exact q _ h
    · rename_i z
      rw [decide_eq_false (rx.isNon.2 z)]
      exact q _ h
  · exact h.elim

theorem atI_rp {K : PySem.W.Frag} {F : Hp} {vs : List V} {ds : List D} {i : Int} {d : D} (a : RpAll K F vs ds) (e : atI ds i = some d) : ∃ v, atI vs i = some v ∧ Rp K F v d := by
  unfold atI at e ⊢
  rw [a.length]
  cases q : ixN ds.length i with
  | none => rw [q] at e; cases e
  | some j =>
    rw [q] at e
    obtain ⟨v, h1, h2⟩ := a.get (i := j) (show ds[j]? = some d from e)
    exact ⟨v, h1, h2⟩
def rDGet : R2 := fun x y H Q => ∃ a v, x = .ref a ∧ DGet H a y (some v) ∧ Q v H
theorem ix_dict {X : Cx} (hu : X.A.units + 1 < cLine) : IxR X rDGet := by
  intro value slice pins s σ H x y v u Q I rx ry h hs
  obtain ⟨a, r, rfl, g, q⟩ := h
  obtain rfl : v = Value.ref a := rx
  exact tail_any (dict_typeIs I g) slot_dict_getitem.lookup (d_getItem hu I g ry fun w' s' I' rw' => ⟨r, H, I', rw', q⟩) hs
def rIxAll (K : PySem.W.Frag) : R2 := fun x y H Q => rIx K x y H Q ∨ rDGet x y H Q
theorem ix_all {X : Cx} (hu : X.A.units + 1 < cLine) : IxR X (rIxAll X.K) := ix_seq.or (ix_dict hu)
theorem idx_ok (R : Rel S.K en σ H F) (rx : RpT S.K H F v x) (ry : RpT S.K H F w y) (h : idxD x y Kq) (q : OPost S en σ H F Kq Q) : rIxAll S.K v w H Q := by
  unfold idxD at h
  split at h
  · obtain ⟨d, e, k⟩ := h
    obtain ⟨p, vs, e1, r1, a1⟩ := rx.lst R
    obtain ⟨u, eu, ru⟩ := atI_rp a1 e
    exact .inl (.inl ⟨p, vs, _, u, e1, ry.int, SqL.of r1, eu, q.here R k ru⟩)
  · obtain ⟨d, e, k⟩ := h
    obtain ⟨p, vs, e1, r1, a1⟩ := rx.tup R
    obtain ⟨u, eu, ru⟩ := atI_rp a1 e
    exact .inl (.inr (.inl ⟨p, vs, _, u, e1, ry.int, r1, eu, q.here R k ru⟩))
  · obtain ⟨hz, c, e, k⟩ := h
    exact .inl (.inr (.inr ⟨_, _, c, rx.str, ry.int, hz, e, q.here R k (.str _)⟩))
  · obtain ⟨k, d, e1, e2, kq⟩ := h
    obtain ⟨p, vs, e3, r3, a3⟩ := rx.dct R
    have z := look_ok k a3
    rw [e2] at z
    obtain ⟨u, hu, ru⟩ := z
    refine .inr ⟨p, u, e3, ?_, q.here R kq ru⟩
    rw [ry.key e1, ← hu]
    exact dgetR r3
  · exact h.elim
def rSlAll (K : PySem.W.Frag) : V → Option Int → Option Int → Hp → VK → Prop := fun x lo hi H Q => rSlL K x lo hi H Q ∨ rSlA K x lo hi H Q ∨ rSlS x lo hi H Q
theorem sl_all {X : Cx} : SlR X (rSlAll X.K) := sl_list.or (sl_tupA.or sl_str)
theorem cutA {K : PySem.W.Frag} {F : Hp} {vs : List V} {ds : List D} (a : RpAll K F vs ds) (lo hi : Option Int) : RpAll K F (cutV vs lo hi) (cutD ds lo hi) := by
  unfold cutV cutD
  rw [a.length]
  exact (a.drop _).take _
theorem slc_ok {lo hi : Option Int} (R : Rel S.K en σ H F) (rx : RpT S.K H F v x) (h : slcD x lo hi Kq) (q : OPost S en σ H F Kq Q) : rSlAll S.K v lo hi H Q := by
  unfold slcD at h
  split at h
  · obtain ⟨p, vs, e1, r1, a1⟩ := rx.lst R
    exact .inl ⟨p, vs, e1, SqL.of r1, fun pn hp => q.lst R h (cutA a1 lo hi) hp⟩
  · obtain ⟨p, vs, e1, r1, a1⟩ := rx.tup R
    refine .inr (.inl ⟨p, vs, e1, r1, fun z => ?_, fun _ pn hp => q.tup R h (cutA a1 lo hi) hp⟩)
    rw [← e1]
    refine q.here R h ?_
    have e : ∀ ds : List D, HT.sIx ds.length 0 lo = 0 ∧ HT.sIx ds.length ds.length hi = ds.length → cutD ds lo hi = ds := fun ds ⟨z1, z2⟩ => by
      unfold cutD
      rw [z1, z2]
      simp
    rw [e _ (by rw [← a1.length]; exact z)]
    exact rx.tupF
  · refine .inr (.inr ⟨_, rx.str, h.1, ?_⟩)
    exact q.here R h.2 (.str _)
  · exact h.elim
end
end Vg

set_option Elab.async false
set_option linter.all false
set_option maxRecDepth 100000
namespace Vg
open PySem PySem.Spec PyProof.Rows L2
section
variable {S : Sr0} {ta tb tc : TE} {wa wb wc : Ee → KQ → KX → Prop}
theorem OPost.of {en : Ee} {σ : L2.St} {H F : Hp} {Kq : KQ} {Q : VK} (q : QPost S en σ H F Kq Q) : OPost S en σ H F (fun t => Kq t en) Q := fun r v H' F' k R s rr n => q r en v H' F' k R s rr n
theorem le_var {i : Nat} : LE S (wE S.C (.var i)) (tVar i) := by
  intro en σ H F Q Kq Xq R w _ q
  unfold wE at w
  split at w
  · rename_i d hd
    obtain ⟨v, e, r⟩ := R.val i d hd
    exact ⟨v, e, q (.v d) en v H F w R (Step.refl ..) r New.v⟩
  · rename_i d hd
    obtain ⟨p, e, _⟩ := R.own i d (.inl hd)
    exact ⟨.ref p, e, q (.o i) en _ H F w R (Step.refl ..) e New.o⟩
  · rename_i d hd
    obtain ⟨p, e, _⟩ := R.own i d (.inr hd)
    exact ⟨.ref p, e, q (.o i) en _ H F w R (Step.refl ..) e New.o⟩
  · exact w.elim
theorem le_cst {d : D} {v : V} (h : ∀ F, Rp S.K F v d) : LE S (fun en Q _ => Q (.v d) en) (tC v) := by
  intro en σ H F Q Kq Xq R w _ q
  exact q (.v d) en v H F w R (Step.refl ..) (h F) New.v
/-- two operands, an operation -/
theorem le_two {rr : R2} {body : RV → RV → Ee → KQ → Prop} (ha : LE S wa ta) (hb : LE S wb tb)
    (hop : ∀ r s en σ H F x y Kq Q, Rel S.K en σ H F → RpR S.K σ en H F r x → RpR S.K σ en H F s y → body r s en Kq → QPost S en σ H F Kq Q → rr x y H Q) :
    LE S (fun en Q X => wa en (fun r e1 => wb e1 (fun s e2 => body r s e2 Q) X) X) (tOp rr ta tb) := by
  intro en σ H F Q Kq Xq R w xp q
  refine ha en σ H F _ _ Xq R w xp fun r e1 v H1 F1 k1 R1 s1 r1 n1 => ?_
  refine hb e1 σ H1 F1 _ _ Xq R1 k1 (xp.step s1) fun s e2 u H2 F2 k2 R2 s2 r2 n2 => ?_
  exact hop r s e2 σ H2 F2 v u Kq Q R2 (r1.step s2) r2 k2 (q.step (s1.trans s2))
theorem le_bin {o : Operator} {a b : Ex} (ha : LE S (wE S.C a) ta) (hb : LE S (wE S.C b) tb) : LE S (wE S.C (.bin o a b)) (tOp (rBin S.K o) ta tb) := by
  refine le_two (body := fun r s e2 Q => ∃ x y, drf e2 r = some x ∧ drf e2 s = some y ∧ binD o x y fun t => Q t e2) ha hb ?_
  intro r s en σ H F x y Kq Q R rx ry ⟨dx, dy, e1, e2, h⟩ q
  exact bin_ok R (rx.deref R e1) (ry.deref R e2) h (OPost.of q)
theorem le_cmp {o : CmpOp} {a b : Ex} (ha : LE S (wE S.C a) ta) (hb : LE S (wE S.C b) tb) : LE S (wE S.C (.cmp o a b)) (tOp (rCmp S.K o) ta tb) := by
  refine le_two (body := fun r s e2 Q => ∃ x y, drf e2 r = some x ∧ drf e2 s = some y ∧ cmpD o x y fun t => Q (.v (.bl t)) e2) ha hb ?_
  intro r s en σ H F x y Kq Q R rx ry ⟨dx, dy, e1, e2, h⟩ q
  exact cmp_ok R (rx.deref R e1) (ry.deref R e2) h fun b k => q (.v (.bl b)) en _ H F k R (Step.refl ..) (.bl b) New.v
theorem le_idx {a b : Ex} (ha : LE S (wE S.C a) ta) (hb : LE S (wE S.C b) tb) : LE S (wE S.C (.idx a b)) (tOp (rIxAll S.K) ta tb) := by
  refine le_two (body := fun r s e2 Q => ∃ x y, drf e2 r = some x ∧ drf e2 s = some y ∧ idxD x y fun t => Q t e2) ha hb ?_
  intro r s en σ H F x y Kq Q R rx ry ⟨dx, dy, e1, e2, h⟩ q
  exact idx_ok R (rx.deref R e1) (ry.deref R e2) h (OPost.of q)
theorem le_neg {a : Ex} (ha : LE S (wE S.C a) ta) : LE S (wE S.C (.neg a)) (tUn (rU fun i => .int (-i)) ta) := by
  intro en σ H F Q Kq Xq R w xp q
  refine ha en σ H F _ _ Xq R w xp fun r e1 v H1 F1 ⟨i, e, k1⟩ R1 s1 r1 n1 => ?_
  subst e
  cases (show Rp S.K F1 v (.int i) from r1)
  exact ⟨i, rfl, q _ e1 _ H1 F1 k1 R1 s1 (.int _) New.v⟩
theorem le_not {a : Ex} (ha : LE S (wE S.C a) ta) : LE S (wE S.C (.not a)) (tNotV ta) := by
  intro en σ H F Q Kq Xq R w xp q
  refine ha en σ H F _ _ Xq R w xp fun r e1 v H1 F1 ⟨i, e, k1⟩ R1 s1 r1 n1 => ?_
  subst e
  cases (show Rp S.K F1 v (.bl i) from r1)
  exact ⟨i, rfl, q _ e1 _ H1 F1 k1 R1 s1 (.bl _) New.v⟩
theorem le_and {a b : Ex} (ha : LE S (wE S.C a) ta) (hb : LE S (wE S.C b) tb) : LE S (wE S.C (.and a b)) (tAndV ta tb) := by
  intro en σ H F Q Kq Xq R w xp q
  refine ha en σ H F _ _ Xq R w xp fun r e1 v H1 F1 ⟨i, e, k1, k2⟩ R1 s1 r1 n1 => ?_
  subst e
  cases (show Rp S.K F1 v (.bl i) from r1)
  refine ⟨i, rfl, ?_⟩
  cases i with
  | true => exact iteT (hb e1 σ H1 F1 Q Kq Xq R1 (k1 rfl) (xp.step s1) (q.step s1))
  | false => exact iteF (q _ e1 _ H1 F1 (k2 rfl) R1 s1 (.bl _) New.v)
theorem le_or {a b : Ex} (ha : LE S (wE S.C a) ta) (hb : LE S (wE S.C b) tb) : LE S (wE S.C (.or a b)) (tOrV ta tb) := by
  intro en σ H F Q Kq Xq R w xp q
  refine ha en σ H F _ _ Xq R w xp fun r e1 v H1 F1 ⟨i, e, k1, k2⟩ R1 s1 r1 n1 => ?_
  subst e
  cases (show Rp S.K F1 v (.bl i) from r1)
  refine ⟨i, rfl, ?_⟩
  cases i with
  | false => exact iteF (hb e1 σ H1 F1 Q Kq Xq R1 (k1 rfl) (xp.step s1) (q.step s1))
  | true => exact iteT (q _ e1 _ H1 F1 (k2 rfl) R1 s1 (.bl _) New.v)
theorem le_ife {c : Te} {a b : Ex} {tt : TT} (hc : LT S (wT S.C c) tt) (ha : LE S (wE S.C a) ta) (hb : LE S (wE S.C b) tb) : LE S (wE S.C (.ife c a b)) (tIf tt ta tb) := by
  intro en σ H F Q Kq Xq R w xp q
  refine hc en σ H F _ _ Xq R w xp fun k e1 H1 F1 ⟨k1, k2⟩ R1 s1 => ?_
  cases k with
  | true => exact iteT (ha e1 σ H1 F1 Q Kq Xq R1 (k1 rfl) (xp.step s1) (q.step s1))
  | false => exact iteF (hb e1 σ H1 F1 Q Kq Xq R1 (k2 rfl) (xp.step s1) (q.step s1))
theorem le_cmp2 {o p : CmpOp} {a b c : Ex} (ha : LE S (wE S.C a) ta) (hb : LE S (wE S.C b) tb) (hc : LE S (wE S.C c) tc) : LE S (wE S.C (.cmp2 o p a b c)) (tChain (rCmp S.K o) (rCmp S.K p) ta tb tc) := by
  intro en σ H F Q Kq Xq R w xp q
  refine ha en σ H F _ _ Xq R w xp fun r e1 v H1 F1 k1 R1 s1 r1 n1 => ?_
  refine hb e1 σ H1 F1 _ _ Xq R1 k1 (xp.step s1) fun s e2 u H2 F2 k2 R2 s2 r2 n2 => ?_
  obtain ⟨dx, dy, e1', e2', h⟩ := k2
  refine cmp_ok R2 ((r1.step s2).deref R2 e1') (r2.deref R2 e2') h fun t ⟨z1, z2⟩ => ⟨t, rfl, ?_⟩
  cases t with
  | false => exact iteF (q _ e2 _ H2 F2 (z2 rfl) R2 (s1.trans s2) (.bl _) New.v)
  | true =>
    refine iteT ?_
    refine hc e2 σ H2 F2 _ _ Xq R2 (z1 rfl) (xp.step (s1.trans s2)) fun t e3 w3 H3 F3 k3 R3 s3 r3 n3 => ?_
    obtain ⟨ey, ez, f1, f2, h3⟩ := k3
    exact cmp_ok R3 ((r2.step s3).deref R3 f1) (r3.deref R3 f2) h3 fun b k => q (.v (.bl b)) e3 _ H3 F3 k R3 ((s1.trans s2).trans s3) (.bl b) New.v
theorem tru_ok' {en : Ee} {σ : L2.St} {H F : Hp} {v : V} {x : D} {Kb : Bool → Prop} (R : Rel S.K en σ H F) (rx : RpT S.K H F v x) (h : truD x Kb) : ∃ k, TruV S.K v H k ∧ Kb k := by
  unfold truD at h
  split at h
  · exact ⟨_, by rw [rx.non]; rfl, h⟩
  · exact ⟨_, by rw [rx.bl]; rfl, h⟩
  · exact ⟨_, by rw [rx.int]; rfl, h⟩
  · exact ⟨_, by rw [rx.str]; exact ⟨h.1, rfl⟩, h.2⟩
  · obtain ⟨p, vs, e1, r1, a1⟩ := rx.lst R
    refine ⟨_, ?_, h⟩
    rw [e1]
    refine .inl ⟨vs, SqL.of r1, ?_⟩
    cases a1 <;> rfl
  · obtain ⟨p, vs, e1, r1, a1⟩ := rx.tup R
    refine ⟨_, ?_, h⟩
    rw [e1]
    refine .inr (.inl ⟨vs, r1, ?_⟩)
    cases a1 <;> rfl
  · exact h.elim
/-- a value as a test -/
theorem lt_val {e : Ex} (he : LE S (wE S.C e) ta) : LT S (wT S.C (.val e)) (fun σ H Q => ta σ H fun x H' => ∃ k, TruV S.K x H' k ∧ Q k H') := by
  intro en σ H F Q Kq Xq R w xp q
  refine he en σ H F _ _ Xq R w xp fun r e1 v H1 F1 ⟨x, ex, k1⟩ R1 s1 r1 n1 => ?_
  obtain ⟨k, h1, h2⟩ := tru_ok' R1 (r1.deref R1 ex) k1
  exact ⟨k, h1, q k e1 H1 F1 h2 R1 s1⟩
/-- comparisons as tests -/
theorem lt_cmp {o : CmpOp} {a b : Ex} (ha : LE S (wE S.C a) ta) (hb : LE S (wE S.C b) tb) : LT S (wT S.C (.val (.cmp o a b))) (tTest (tOp (rCmp S.K o) ta tb)) := by
  intro en σ H F Q Kq Xq R w xp q
  refine ha en σ H F _ _ Xq R w xp fun r e1 v H1 F1 k1 R1 s1 r1 n1 => ?_
  refine hb e1 σ H1 F1 _ _ Xq R1 k1 (xp.step s1) fun s e2 u H2 F2 k2 R2 s2 r2 n2 => ?_
  obtain ⟨dx, dy, f1, f2, h⟩ := k2
  exact cmp_ok R2 ((r1.step s2).deref R2 f1) (r2.deref R2 f2) h fun b ⟨x, ex, k⟩ => ⟨b, rfl, by cases ex; exact q b e2 H2 F2 k R2 (s1.trans s2)⟩
theorem lt_cmp2 {o p : CmpOp} {a b c : Ex} (ha : LE S (wE S.C a) ta) (hb : LE S (wE S.C b) tb) (hc : LE S (wE S.C c) tc) : LT S (wT S.C (.val (.cmp2 o p a b c))) (tTest (tChain (rCmp S.K o) (rCmp S.K p) ta tb tc)) := by
  intro en σ H F Q Kq Xq R w xp q
  refine ha en σ H F _ _ Xq R w xp fun r e1 v H1 F1 k1 R1 s1 r1 n1 => ?_
  refine hb e1 σ H1 F1 _ _ Xq R1 k1 (xp.step s1) fun s e2 u H2 F2 k2 R2 s2 r2 n2 => ?_
  obtain ⟨dx, dy, e1', e2', h⟩ := k2
  refine cmp_ok R2 ((r1.step s2).deref R2 e1') (r2.deref R2 e2') h fun t ⟨z1, z2⟩ => ⟨t, rfl, ?_⟩
  cases t with
  | false =>
    obtain ⟨x, ex, k⟩ := z2 rfl
    cases ex
    exact iteF ⟨false, rfl, q _ e2 H2 F2 k R2 (s1.trans s2)⟩
  | true =>
    refine iteT ?_
    refine hc e2 σ H2 F2 _ _ Xq R2 (z1 rfl) (xp.step (s1.trans s2)) fun t e3 w3 H3 F3 k3 R3 s3 r3 n3 => ?_
    obtain ⟨ey, ez, f1, f2, h3⟩ := k3
    exact cmp_ok R3 ((r2.step s3).deref R3 f1) (r3.deref R3 f2) h3 fun b ⟨x, ex, k⟩ => ⟨b, rfl, by cases ex; exact q b e3 H3 F3 k R3 ((s1.trans s2).trans s3)⟩
theorem lt_and {a b : Te} {t u : TT} (ha : LT S (wT S.C a) t) (hb : LT S (wT S.C b) u) : LT S (wT S.C (.and a b)) (tAnd t u) := by
  intro en σ H F Q Kq Xq R w xp q
  refine ha en σ H F _ _ Xq R w xp fun k e1 H1 F1 ⟨k1, k2⟩ R1 s1 => ?_
  cases k with
  | true => exact iteT (hb e1 σ H1 F1 Q Kq Xq R1 (k1 rfl) (xp.step s1) fun k e' H' F' z R' s' => q k e' H' F' z R' (s1.trans s'))
  | false => exact iteF (q false e1 H1 F1 (k2 rfl) R1 s1)
theorem lt_or {a b : Te} {t u : TT} (ha : LT S (wT S.C a) t) (hb : LT S (wT S.C b) u) : LT S (wT S.C (.or a b)) (tOr t u) := by
  intro en σ H F Q Kq Xq R w xp q
  refine ha en σ H F _ _ Xq R w xp fun k e1 H1 F1 ⟨k1, k2⟩ R1 s1 => ?_
  cases k with
  | true => exact iteT (q true e1 H1 F1 (k2 rfl) R1 s1)
  | false => exact iteF (hb e1 σ H1 F1 Q Kq Xq R1 (k1 rfl) (xp.step s1) fun k e' H' F' z R' s' => q k e' H' F' z R' (s1.trans s'))
theorem lt_not {a : Te} {t : TT} (ha : LT S (wT S.C a) t) : LT S (wT S.C (.not a)) (tNot t) := by
  intro en σ H F Q Kq Xq R w xp q
  exact ha en σ H F _ _ Xq R w xp fun k e1 H1 F1 k1 R1 s1 => q (!k) e1 H1 F1 k1 R1 s1
theorem la_nil : LA S (wEs S.C .nil) tNil := by
  intro en σ H F Q Kq Xq R w xp q
  exact q [] en [] H F w R (Step.refl ..) .nil
theorem la_cons {e : Ex} {es : Es} {t : TA} (he : LE S (wE S.C e) ta) (hs : LA S (wEs S.C es) t) : LA S (wEs S.C (.cons e es)) (tCons ta t) := by
  intro en σ H F Q Kq Xq R w xp q
  refine he en σ H F _ _ Xq R w xp fun r e1 v H1 F1 ⟨d, e2, g, k1⟩ R1 s1 r1 n1 => ?_
  obtain ⟨F2, R2, s2, r2⟩ := give_ok R1 s1 r1 n1 g
  exact hs e2 σ H1 F2 _ _ Xq R2 k1 (xp.step s2) fun ds e3 vs H3 F3 k3 R3 s3 a3 => q (d :: ds) e3 _ H3 F3 k3 R3 (s2.trans s3) (.cons (r2.mono s3.grow) a3)
theorem lrs_nil : LRs S (wRs S.C .nil) tNil := by
  intro en σ H F Q Kq Xq R w xp q
  exact q [] en [] H F w R (Step.refl ..) .nil
theorem lrs_cons {e : Ex} {es : Es} {t : TA} (he : LE S (wE S.C e) ta) (hs : LRs S (wRs S.C es) t) : LRs S (wRs S.C (.cons e es)) (tCons ta t) := by
  intro en σ H F Q Kq Xq R w xp q
  refine he en σ H F _ _ Xq R w xp fun r e1 v H1 F1 k1 R1 s1 r1 n1 => ?_
  obtain ⟨F2, R2, s2, r2⟩ := froze R1 s1 r1 n1
  exact hs e1 σ H1 F2 _ _ Xq R2 k1 (xp.step s2) fun rs e3 vs H3 F3 k3 R3 s3 a3 => q (frz r :: rs) e3 _ H3 F3 k3 R3 (s2.trans s3) (.cons (r2.step s3) a3)
theorem le_tup {es : Es} {t : TA} (hs : LA S (wEs S.C es) t) : LE S (wE S.C (.tup es)) (tTup t) := by
  intro en σ H F Q Kq Xq R w xp q
  refine hs en σ H F _ _ Xq R w xp fun ds e1 vs H1 F1 ⟨hz, k1⟩ R1 s1 a1 => ⟨by rw [a1.length]; exact hz, fun p hp => ?_⟩
  exact OPost.tup (OPost.of (q.step s1)) R1 k1 a1 hp
theorem le_lst {es : Es} {t : TA} (hs : LA S (wEs S.C es) t) : LE S (wE S.C (.lst es)) (tLst t) := by
  intro en σ H F Q Kq Xq R w xp q
  refine hs en σ H F _ _ Xq R w xp fun ds e1 vs H1 F1 ⟨hz, k1⟩ R1 s1 a1 => ⟨by rw [a1.length]; exact hz, fun p hp => ?_⟩
  exact OPost.lst (OPost.of (q.step s1)) R1 k1 a1 hp
def LO (S : Sr0) (w : Ee → (Option Int → Ee → Prop) → KX → Prop) (t : TO) : Prop :=
  ∀ en σ H F (Q : Option Int → Hp → Prop) (Kq : Option Int → Ee → Prop) Xq, Rel S.K en σ H F → w en Kq Xq → XPost S en σ H F Xq → (∀ k en' H' F', Kq k en' → Rel S.K en' σ H' F' → Step en σ H F en' σ H' F' → Q k H') → t σ H Q
theorem lo_no : LO S (wO S.C .no) tNoPart := by
  intro en σ H F Q Kq Xq R w xp q
  exact q none en H F w R (Step.refl ..)
theorem lo_ex {e : Ex} (he : LE S (wE S.C e) ta) : LO S (wO S.C (.ex e)) (tPart ta) := by
  intro en σ H F Q Kq Xq R w xp q
  refine he en σ H F _ _ Xq R w xp fun r e1 v H1 F1 ⟨i, e, k1⟩ R1 s1 r1 n1 => ?_
  subst e
  cases (show Rp S.K F1 v (.int i) from r1)
  exact ⟨i, rfl, q (some i) e1 H1 F1 k1 R1 s1⟩
theorem le_slc {a : Ex} {lo hi : Oe} {tl th : TO} (ha : LE S (wE S.C a) ta) (hl : LO S (wO S.C lo) tl) (hh : LO S (wO S.C hi) th) : LE S (wE S.C (.slc a lo hi)) (tSl (rSlAll S.K) ta tl th) := by
  intro en σ H F Q Kq Xq R w xp q
  refine ha en σ H F _ _ Xq R w xp fun r e1 v H1 F1 k1 R1 s1 r1 n1 => ?_
  refine hl e1 σ H1 F1 _ _ Xq R1 k1 (xp.step s1) fun l e2 H2 F2 k2 R2 s2 => ?_
  refine hh e2 σ H2 F2 _ _ Xq R2 k2 (xp.step (s1.trans s2)) fun h e3 H3 F3 k3 R3 s3 => ?_
  obtain ⟨x, ex, k⟩ := k3
  exact slc_ok R3 ((r1.step (s2.trans s3)).deref R3 ex) k (OPost.of (q.step ((s1.trans s2).trans s3)))
end
end Vg

set_option Elab.async false
set_option linter.all false
set_option maxRecDepth 100000
namespace Vg
open PySem PySem.Spec PyProof.Rows L2
inductive RpTs (K : PySem.W.Frag) (H F : Hp) : List V → List D → Prop where
  | nil : RpTs K H F [] []
  | cons {v : V} {vs : List V} {d : D} {ds : List D} : RpT K H F v d → RpTs K H F vs ds → RpTs K H F (v :: vs) (d :: ds)
theorem derefs {K : PySem.W.Frag} {en : Ee} {σ : L2.St} {H F : Hp} (R : Rel K en σ H F) : ∀ {rs : List RV} {vs : List V} {ds : List D}, RpRs K σ en H F rs vs → rs.mapM (drf en) = some ds → RpTs K H F vs ds
  | [], _, _, .nil, e => by
    simp only [List.mapM_nil] at e
    cases e
    exact .nil
  | r :: rs, _, ds, .cons h a, e => by
    rw [List.mapM_cons] at e
    cases q : drf en r with
    | none => rw [q] at e; cases e
    | some d =>
      cases q2 : rs.mapM (drf en) with
      | none => rw [q, q2] at e; cases e
      | some ds' =>
        rw [q, q2] at e
        cases e
        exact .cons (h.deref R q) (derefs R a q2)
theorem RpTs.one {K : PySem.W.Frag} {H F : Hp} {vs : List V} {d : D} (h : RpTs K H F vs [d]) : ∃ v, vs = [v] ∧ RpT K H F v d := by
  cases h with
  | cons a b => cases b; exact ⟨_, rfl, a⟩
theorem RpTs.two {K : PySem.W.Frag} {H F : Hp} {vs : List V} {d e : D} (h : RpTs K H F vs [d, e]) : ∃ v w, vs = [v, w] ∧ RpT K H F v d ∧ RpT K H F w e := by
  cases h with
  | cons a b =>
    cases b with
    | cons a2 b2 => cases b2; exact ⟨_, _, rfl, a, a2⟩
section
variable {K : PySem.W.Frag} {F : Hp}
theorem bls_rp : ∀ {bs : List Bool} {vs : List V}, RpAll K F vs (bs.map D.bl) → vs = bs.map V.bl
  | [], _, .nil => rfl
  | b :: bs, _, .cons h a => by cases h; rw [List.map_cons, bls_rp a]
theorem intsV_rp : ∀ {bs : List Int} {vs : List V}, RpAll K F vs (bs.map D.int) → vs = bs.map V.int
  | [], _, .nil => rfl
  | b :: bs, _, .cons h a => by cases h; rw [List.map_cons, intsV_rp a]
theorem strs_rp : ∀ {bs : List Str} {vs : List V}, RpAll K F vs (bs.map D.str) → vs = bs.map V.str
  | [], _, .nil => rfl
  | b :: bs, _, .cons h a => by cases h; rw [List.map_cons, strs_rp a]
end
section
variable {S : Sr0} {en : Ee} {σ : L2.St} {H F : Hp} {v w : V} {x y : D} {Kq : RV → Prop} {Q : VK}
def FrzD (H : Hp) (v : V) : Prop := ∃ (a : Addr) (o : Obj) (kvs : List (Key × V)), v = .ref a ∧ H a = some (.frz o (.dK kvs))
theorem RpT.tyB (R : Rel S.K en σ H F) (h : RpT S.K H F v x) (p : plainD x) : TyB S.K H v (tyD x) ∨ (FrzD H v ∧ tyD x = "dict") := by
  cases x with
  | non => rw [h.non]; exact .inl .non
  | bl b => rw [h.bl]; exact .inl (.bl b)
  | int b => rw [h.int]; exact .inl (.int b)
  | str b => rw [h.str]; exact .inl (.str b)
  | lst ds => obtain ⟨a, vs, e, r, _⟩ := h.lst R; rw [e]; exact .inl (.lst (SqL.of r))
  | tup ds => obtain ⟨a, vs, e, r, _⟩ := h.tup R; rw [e]; exact .inl (.tup r)
  | dct ds =>
    obtain ⟨a, vs, e, r, _⟩ := h.dct R
    rw [e]
    rcases r with r | ⟨o, r⟩
    · exact .inl (.dK r)
    · exact .inr ⟨⟨a, o, vs, rfl, r⟩, rfl⟩
  | ty _ => exact p.elim
  | fn _ => exact p.elim
  | exc _ _ => exact p.elim
  | scr _ => exact p.elim
theorem RpT.tyX (R : Rel S.K en σ H F) (h : RpT S.K H F v x) (p : plainD x) : TyX S.K H v (.type (tyD x)) := by
  cases x with
  | non => rw [h.non]; exact .base .non
  | bl b => rw [h.bl]; exact .base (.bl b)
  | int b => rw [h.int]; exact .base (.int b)
  | str b => rw [h.str]; exact .base (.str b)
  | lst ds => obtain ⟨a, vs, e, r, _⟩ := h.lst R; rw [e]; exact .base (.lst r)
  | tup ds =>
    obtain ⟨a, vs, e, r, _⟩ := h.tup R
    rw [e]
    rcases r with (r | ⟨o, r⟩) | ⟨o, its, n, hk, hc, _⟩
    · exact .base (.tup r)
    · exact .fTuple r
    · exact .kTuple hk hc
  | dct ds =>
    obtain ⟨a, vs, e, r, _⟩ := h.dct R
    rw [e]
    rcases r with r | ⟨o, r⟩
    · exact .base (.dK r)
    · exact .fDict r
  | ty _ => exact p.elim
  | fn _ => exact p.elim
  | exc _ _ => exact p.elim
  | scr _ => exact p.elim
end
/-- the type of a dict that a walk has told -/
def rTypF : List V → Hp → VK → Prop := fun xs H Q => ∃ x, xs = [x] ∧ FrzD H x ∧ Q (.ty "dict") H
theorem call_typeF {X : Cx} : CallR X (.type "type") rTypF := by
  intro pins s σ H xs us Q I r h
  obtain ⟨x, rfl, ⟨a, o, kvs, rfl, ha⟩, q⟩ := h
  obtain ⟨u, rfl, rx⟩ := vals1 r
  cases (show u = Value.ref a from rx)
  have t : s.TypeIs (.ref a) "dict" := by
    obtain ⟨_, _, _, vs, _, p⟩ := (show ObjOk X.prog X.w H s.heap a (.frz o (.dK kvs)) from I.hok a _ ha)
    exact p.typeIs
  exact call_type_of t (by decide +kernel) ⟨.ty "dict", H, I, rfl, q⟩
/-- repr of data -/
def rRepr (K : PySem.W.Frag) : List V → Hp → VK → Prop := fun xs H Q => ∃ x d, xs = [x] ∧ Dp K H x d ∧ isDisplay d = true ∧ d.showable = true ∧ d.hasDict = false ∧ d.depth ≤ 40 ∧ d.shown.length ≤ sizeLine ∧ Q (.str d.shown) H
def rBlt (K : PySem.W.Frag) : Bf → List V → Hp → VK → Prop
  | .len => fun xs H Q => ∃ x n, xs = [x] ∧ LenV K x H n ∧ Q (.int n) H
  | .min => fun xs H Q => ∃ i j, xs = [.int i, .int j] ∧ Q (.int (if j < i then j else i)) H
  | .max => fun xs H Q => ∃ i j, xs = [.int i, .int j] ∧ Q (.int (if j > i then j else i)) H
  | .all => rAll K
  | .any => rAny K
  | .sum => rSum K
  | .isinstance => rIsi K
  | .repr => rRepr K
section
variable {X : Cx}
theorem call_repr (hg : X.A.guards = some []) (hu : X.A.units + 64 < cLine) : CallR X (.builtin "repr") (rRepr X.K) := by
  intro pins s σ H xs us Q I r h
  obtain ⟨x, d, rfl, hd, h1, h2, h3, h4, h5, q⟩ := h
  obtain ⟨u, rfl, rx⟩ := vals1 r
  obtain ⟨as, r1⟩ := Dp.reads I d x u hd rx
  obtain ⟨a, rfl⟩ := isRef_of_reads r1 h1
  exact repr_of_reads' r1 h2 (PyData.noDict_hsm h3) hg (by omega) (fun _ _ e => e) (fun h' u tk hk => ⟨.str d.shown, H, I.kept hk, ⟨_, rfl⟩, q⟩) h5
theorem call_bf (hc : X.calm = true) (hg : X.A.guards = some []) (hu : X.A.units + 64 < cLine) : ∀ f : Bf, ∃ id, bootBuiltins f.nm = some (.builtin id) ∧ CallR X (.builtin id) (rBlt X.K f)
  | .len => ⟨"len", by decide +kernel, call_len⟩
  | .min => ⟨"min", by decide +kernel, call_min2 hc⟩
  | .max => ⟨"max", by decide +kernel, call_max2 hc⟩
  | .all => ⟨"all", by decide +kernel, cr_all hc⟩
  | .any => ⟨"any", by decide +kernel, cr_any hc⟩
  | .sum => ⟨"sum", by decide +kernel, cr_sum hc⟩
  | .isinstance => ⟨"isinstance", by decide +kernel, call_isi⟩
  | .repr => ⟨"repr", by decide +kernel, call_repr hg hu⟩
def rBty (K : PySem.W.Frag) : Bt → List V → Hp → VK → Prop
  | .int => fun xs H Q => ((∃ i, xs = [.int i] ∧ Q (.int i) H) ∨ ∃ k, xs = [.bl k] ∧ Q (.int (if k then 1 else 0)) H) ∨ ∃ a n, xs = [.str a] ∧ PySem.intText? a = some n ∧ a.length ≤ 640 ∧ Q (.int n) H
  | .str => fun xs H Q => ∃ i, xs = [.int i] ∧ i.natAbs.log2 < 1920 ∧ Q (.str (toString i)) H
  | .list => fun xs H Q => ∃ p ys, xs = [.ref p] ∧ (SqL K H p ys ∨ SqT K H p ys) ∧ ∀ l, H l = none → Q (.ref l) (upd H l (.lst ys))
  | .tuple => fun xs H Q => ∃ p ys, xs = [.ref p] ∧ ((SqL K H p ys ∧ ∀ l, H l = none → Q (.ref l) (upd H l (.tup ys))) ∨ (SqT K H p ys ∧ Q (.ref p) H))
  | .type => fun xs H Q => rTyp K xs H Q ∨ rTypF xs H Q
theorem call_bt : ∀ f : Bt, ∃ T, bootBuiltins f.nm = some (.type T) ∧ CallR X (.type T) (rBty X.K f)
  | .int => ⟨"int", by decide +kernel, call_int1.or call_int_str⟩
  | .str => ⟨"str", by decide +kernel, call_str_int⟩
  | .list => ⟨"list", by decide +kernel, call_list_of⟩
  | .tuple => ⟨"tuple", by decide +kernel, call_tuple_of⟩
  | .type => ⟨"type", by decide +kernel, call_type1.or call_typeF⟩
end
section
variable {S : Sr0} {en : Ee} {σ : L2.St} {H F : Hp} {vs : List V} {ds : List D} {Kq : RV → Prop} {Q : VK}
theorem blt_ok {f : Bf} (R : Rel S.K en σ H F) (rr : RpTs S.K H F vs ds) (h : bltD f ds Kq) (q : OPost S en σ H F Kq Q) : rBlt S.K f vs H Q := by
  unfold bltD at h
  split at h
  · obtain ⟨v, rfl, r⟩ := rr.one
    exact ⟨v, _, rfl, by rw [r.str]; exact ⟨h.1, rfl⟩, q.here R h.2 (.int _)⟩
  · obtain ⟨v, rfl, r⟩ := rr.one
    obtain ⟨p, us, e, hp, a⟩ := r.lst R
    exact ⟨v, _, rfl, by rw [e]; exact .inl ⟨us, SqL.of hp, a.length.symm⟩, q.here R h (.int _)⟩
  · obtain ⟨v, rfl, r⟩ := rr.one
    obtain ⟨p, us, e, hp, a⟩ := r.tup R
    exact ⟨v, _, rfl, by rw [e]; exact .inr ⟨us, hp, a.length.symm⟩, q.here R h (.int _)⟩
  · obtain ⟨v, rfl, r⟩ := rr.one
    obtain ⟨p, e, hp⟩ := r.scr R
    exact ⟨v, _, rfl, by rw [e]; exact .inl ⟨_, hp, by rw [List.length_map]⟩, q.here R h (.int _)⟩
  · obtain ⟨v, w, rfl, r1, r2⟩ := rr.two
    exact ⟨_, _, by rw [r1.int, r2.int], q.here R h (.int _)⟩
  · obtain ⟨v, w, rfl, r1, r2⟩ := rr.two
    exact ⟨_, _, by rw [r1.int, r2.int], q.here R h (.int _)⟩
  · obtain ⟨v, rfl, r⟩ := rr.one
    obtain ⟨bs, rfl, k⟩ := h
    obtain ⟨p, us, e, hp, a⟩ := r.lst R
    have z := bls_rp a
    subst z
    exact ⟨p, bs, by rw [e], SqL.of hp, q.here R k (.bl _)⟩
  · obtain ⟨v, rfl, r⟩ := rr.one
    obtain ⟨bs, rfl, k⟩ := h
    obtain ⟨p, us, e, hp, a⟩ := r.lst R
    have z := bls_rp a
    subst z
    exact ⟨p, bs, by rw [e], SqL.of hp, q.here R k (.bl _)⟩
  · obtain ⟨v, rfl, r⟩ := rr.one
    obtain ⟨bs, rfl, k⟩ := h
    obtain ⟨p, us, e, hp, a⟩ := r.lst R
    have z := intsV_rp a
    subst z
    exact ⟨p, bs, by rw [e], SqL.of hp, q.here R k (.int _)⟩
  · obtain ⟨v, w, rfl, r1, r2⟩ := rr.two
    obtain ⟨b, hb, pl, k⟩ := h
    exact ⟨v, w, _, _, b, rfl, by rw [r2.ty]; exact .ty _, r1.tyX R pl, kit_ty hb, q.here R k (.bl _)⟩
  · obtain ⟨v, rfl, r⟩ := rr.one
    obtain ⟨d, e, h1, h2, h3, h4, h5, k⟩ := h
    exact ⟨v, d, rfl, toPy_ok (r.weak R) e, h1, h2, h3, h4, h5, q.here R k (.str _)⟩
  · exact h.elim
theorem bty_ok {f : Bt} (R : Rel S.K en σ H F) (rr : RpTs S.K H F vs ds) (h : btyD f ds Kq) (q : OPost S en σ H F Kq Q) : rBty S.K f vs H Q := by
  unfold btyD at h
  split at h
  · obtain ⟨v, rfl, r⟩ := rr.one
    exact .inl (.inl ⟨_, by rw [r.int], q.here R h (.int _)⟩)
  · obtain ⟨v, rfl, r⟩ := rr.one
    exact .inl (.inr ⟨_, by rw [r.bl], q.here R h (.int _)⟩)
  · obtain ⟨v, rfl, r⟩ := rr.one
    obtain ⟨hl, n, e, k⟩ := h
    exact .inr ⟨_, n, by rw [r.str], e, hl, q.here R k (.int _)⟩
  · obtain ⟨v, rfl, r⟩ := rr.one
    exact ⟨_, by rw [r.int], h.1, q.here R h.2 (.str _)⟩
  · obtain ⟨v, rfl, r⟩ := rr.one
    obtain ⟨p, us, e, hp, a⟩ := r.lst R
    exact ⟨p, us, by rw [e], .inl (SqL.of hp), fun l hl => q.lst R h a hl⟩
  · obtain ⟨v, rfl, r⟩ := rr.one
    obtain ⟨p, us, e, hp, a⟩ := r.tup R
    exact ⟨p, us, by rw [e], .inr hp, fun l hl => q.lst R h a hl⟩
  · obtain ⟨v, rfl, r⟩ := rr.one
    obtain ⟨p, us, e, hp, a⟩ := r.lst R
    exact ⟨p, us, by rw [e], .inl ⟨SqL.of hp, fun l hl => q.tup R h a hl⟩⟩
  · obtain ⟨v, rfl, r⟩ := rr.one
    obtain ⟨p, us, e, hp, a⟩ := r.tup R
    exact ⟨p, us, by rw [e], .inr ⟨hp, by rw [← e]; exact q.here R h r.tupF⟩⟩
  · obtain ⟨v, rfl, r⟩ := rr.one
    rcases r.tyB R h.1 with z | ⟨z, e⟩
    · exact .inl ⟨v, _, rfl, z, q.here R h.2 (.ty _)⟩
    · refine .inr ⟨v, rfl, z, ?_⟩
      rw [← e]
      exact q.here R h.2 (.ty _)
  · exact h.elim
theorem le_blt {f : Bf} {es : Es} {t : TA} (hs : LRs S (wRs S.C es) t) : LE S (wE S.C (.blt f es)) (tCB (rBlt S.K f) t) := by
  intro en σ H F Q Kq Xq R w xp q
  refine hs en σ H F _ _ Xq R w xp fun rs e1 vs H1 F1 ⟨ds, e, k1⟩ R1 s1 a1 => ?_
  exact blt_ok R1 (derefs R1 a1 e) k1 (OPost.of (q.step s1))
theorem le_bty {f : Bt} {es : Es} {t : TA} (hs : LRs S (wRs S.C es) t) : LE S (wE S.C (.bty1 f es)) (tCB (rBty S.K f) t) := by
  intro en σ H F Q Kq Xq R w xp q
  refine hs en σ H F _ _ Xq R w xp fun rs e1 vs H1 F1 ⟨ds, e, k1⟩ R1 s1 a1 => ?_
  exact bty_ok R1 (derefs R1 a1 e) k1 (OPost.of (q.step s1))
end
end Vg

set_option Elab.async false
set_option linter.all false
set_option maxRecDepth 100000
namespace Vg
open PySem PySem.Spec PyProof.Rows L2
def iAny (K : PySem.W.Frag) (tl : TE) : TI := fun σ H R => tl σ H fun x H1 =>
  (∃ a xs, x = .ref a ∧ SqL K H1 a xs ∧ R (Itl K a) H1) ∨ (∃ a xs, x = .ref a ∧ SqT K H1 a xs ∧ R (Itt K a) H1) ∨ (∃ z, x = .str z ∧ R (Its z) H1)
theorem pi_any {X : Cx} {tg l : Expr} {tl : TE} (hl : PE X l tl) : PI X tg l (iAny X.K tl) := by
  refine ⟨fun pins s σ H R I h => thn (hl.run pins s σ H _ I h) fun v s1 ⟨x, H1, I1, r1, q1⟩ => ?_⟩
  rcases q1 with ⟨a, xs, ex, hq, q⟩ | ⟨a, xs, ex, hq, q⟩ | ⟨z, ex, q⟩
  · subst ex
    cases r1
    obtain ⟨its, rv, p, _⟩ := I1.list hq
    exact wpAny_pyIter_list p.isList (pi_one (tk := s1.toks) I1 _ (turn_list a _) ⟨_, Heap.get?_push_size _ rfl, rfl, rfl⟩ q)
  · subst ex
    cases r1
    obtain ⟨its, rv, p, _⟩ := I1.tuple hq
    exact wpAny_pyIter_tuple (show s1.heap.IsTuple a its.toArray from p) (pi_one (tk := s1.toks) I1 _ (turn_tuple a _) ⟨_, Heap.get?_push_size _ rfl, rfl, rfl⟩ q)
  · subst ex
    obtain ⟨t, et⟩ := r1
    subst et
    cases hz : z.cps.all (· < 128) with
    | false => exact wpAny_pyIter_wide hz (pi_one (tk := s1.toks) I1 _ (turn_str _ z t "str_iterator" (.inr rfl)) ⟨_, Heap.get?_push_size _ rfl, rfl, rfl⟩ q)
    | true => exact wpAny_pyIter_ascii hz (pi_one (tk := s1.toks) I1 _ (turn_str _ z t "str_ascii_iterator" (.inl rfl)) ⟨_, Heap.get?_push_size _ rfl, rfl, rfl⟩ q)
/-- the iterator walks the data ds as long as r gives src -/
def Wk (S : Sr0) (J : It) (v : V) (src : Option D) (ds : List D) : Prop :=
  ∀ (r : RV) en σ H F, Rel S.K en σ H F → RpR S.K σ en H F r v → drf en r = src →
    (∀ i, i < ds.length → J.go i H ∧ ∀ x H', J.yld i H x H' → ∃ F', Rel S.K en σ H' F' ∧ Step en σ H F en σ H' F' ∧ ∃ d, ds[i]? = some d ∧ Rp S.K F' x d) ∧ ∀ i, ds.length ≤ i → J.stop i H
def LI (S : Sr0) (w : Ee → (RV → List D → Ee → Prop) → KX → Prop) (t : TI) : Prop :=
  ∀ en σ H F (R : It → Hp → Prop) (Kq : RV → List D → Ee → Prop) Xq, Rel S.K en σ H F → w en Kq Xq → XPost S en σ H F Xq →
    (∀ r ds en' v H' F' J, Kq r ds en' → Rel S.K en' σ H' F' → Step en σ H F en' σ H' F' → RpR S.K σ en' H' F' r v → Wk S J v (drf en' r) ds → (∀ d, r ≠ .f d) → R J H') → t σ H R
theorem drf_frz {en : Ee} {r : RV} : drf en (frz r) = drf en r := by cases r <;> rfl
section
variable {S : Sr0} {ta tb tc : TE}
theorem li_seq {e : Ex} (he : LE S (wE S.C e) ta) : LI S (wS S.C (.seq e)) (iAny S.K ta) := by
  intro en σ H F R Kq Xq RL w xp q
  refine he en σ H F _ _ Xq RL w xp fun r0 e1 v H1 F1 ⟨x, ds, ex, ew, k1⟩ R1 s1 r1 n1 => ?_
  obtain ⟨F2, R2, s2, r2⟩ := froze R1 s1 r1 n1
  have ex2 : drf e1 (frz r0) = some x := by rw [drf_frz]; exact ex
  have rt := r2.deref R2 ex2
  have nf : ∀ d, frz r0 ≠ .f d := fun d z => by cases r0 <;> cases z
  have go := fun J k a b c w => q (frz r0) ds e1 v H1 F2 J k a b c w nf
  unfold walkD at ew
  split at ew
  · cases ew
    obtain ⟨p, vs, ep, hp, a⟩ := rt.lst R2
    refine .inl ⟨p, vs, ep, SqL.of hp, go _ k1 R2 s2 r2 fun r9 en' σ' H' F' R' r' e' => ?_⟩
    rw [ex2] at e'
    obtain ⟨p', vs', ep', hp', a'⟩ := (r'.deref R' e').lst R'
    rw [ep] at ep'
    cases ep'
    refine ⟨fun i hi => ?_, fun i hi => ⟨vs', SqL.of hp', by rw [a'.length]; exact hi⟩⟩
    obtain ⟨u, hu, ru⟩ := a'.get (List.getElem?_eq_getElem hi)
    refine ⟨⟨vs', u, SqL.of hp', hu⟩, fun y H2 ⟨e2, f2⟩ => ?_⟩
    subst e2
    refine ⟨F', R', Step.refl .., _, List.getElem?_eq_getElem hi, ?_⟩
    have := f2 vs' (SqL.of hp')
    rw [hu] at this
    cases this
    exact ru
  · cases ew
    obtain ⟨p, vs, ep, hp, a⟩ := rt.tup R2
    refine .inr (.inl ⟨p, vs, ep, hp, go _ k1 R2 s2 r2 fun r9 en' σ' H' F' R' r' e' => ?_⟩)
    rw [ex2] at e'
    obtain ⟨p', vs', ep', hp', a'⟩ := (r'.deref R' e').tup R'
    rw [ep] at ep'
    cases ep'
    refine ⟨fun i hi => ?_, fun i hi => ⟨vs', hp', by rw [a'.length]; exact hi⟩⟩
    obtain ⟨u, hu, ru⟩ := a'.get (List.getElem?_eq_getElem hi)
    refine ⟨⟨vs', u, hp', hu⟩, fun y H2 ⟨e2, f2⟩ => ?_⟩
    subst e2
    refine ⟨F', R', Step.refl .., _, List.getElem?_eq_getElem hi, ?_⟩
    have := f2 vs' hp'
    rw [hu] at this
    cases this
    exact ru
  · rename_i z
    cases ew
    refine .inr (.inr ⟨z, rt.str, go _ k1 R2 s2 r2 fun r9 en' σ' H' F' R' r' e' => ?_⟩)
    refine ⟨fun i hi => ?_, fun i hi => ?_⟩
    · have hi' : i < z.cps.size := by simpa using hi
      refine ⟨hi', fun y H2 ⟨e2, c, hc, ey⟩ => ?_⟩
      subst e2
      refine ⟨F', R', Step.refl .., .str ⟨#[c]⟩, ?_, by rw [ey]; exact .str _⟩
      rw [List.getElem?_map, Array.getElem?_toList, hc]
      rfl
    · show z.cps.size ≤ i
      simpa using hi
  · cases ew
theorem rng_len (lo : Int) (n : Nat) : (rngD lo n).length = n := by unfold rngD; rw [List.length_map, List.length_range]
theorem rng_wk {lo : Int} {n : Nat} {v : V} {src : Option D} : Wk S (Itr lo n) v src (rngD lo n) := by
  intro r en σ H F R _ _
  rw [rng_len]
  refine ⟨fun i hi => ⟨hi, fun x H' ⟨e1, e2⟩ => ?_⟩, fun i hi => hi⟩
  subst e1
  refine ⟨F, R, Step.refl .., .int (lo + i), ?_, by rw [e2]; exact .int _⟩
  unfold rngD
  rw [List.getElem?_map, List.getElem?_range hi]
  rfl
theorem li_rng {a : Ex} (ha : LE S (wE S.C a) ta) : LI S (wS S.C (.rng a)) (iRng1 (tCons ta tNil)) := by
  intro en σ H F R Kq Xq RL w xp q
  refine ha en σ H F _ _ Xq RL w xp fun r e1 v H1 F1 ⟨j, e, h1, h2, k1⟩ R1 s1 r1 n1 => ?_
  subst e
  cases (show Rp S.K F1 v (.int j) from r1)
  exact ⟨j, rfl, h1, h2, q (.v .non) _ e1 .non H1 F1 _ k1 R1 s1 .non rng_wk (fun d z => by cases z)⟩
theorem li_rng2 {a b : Ex} (ha : LE S (wE S.C a) ta) (hb : LE S (wE S.C b) tb) : LI S (wS S.C (.rng2 a b)) (iRng2 (tCons ta (tCons tb tNil))) := by
  intro en σ H F R Kq Xq RL w xp q
  refine ha en σ H F _ _ Xq RL w xp fun r e1 v H1 F1 k1 R1 s1 r1 n1 => ?_
  refine hb e1 σ H1 F1 _ _ Xq R1 k1 (xp.step s1) fun s e2 u H2 F2 k2 R2 s2 r2 n2 => ?_
  obtain ⟨i, j, e1', e2', hz, k⟩ := k2
  subst e1' e2'
  cases (show Rp S.K F1 v (.int i) from r1)
  cases (show Rp S.K F2 u (.int j) from r2)
  exact ⟨i, j, rfl, hz, q (.v .non) _ e2 .non H2 F2 _ k R2 (s1.trans s2) .non rng_wk (fun d z => by cases z)⟩
end
end Vg

set_option Elab.async false
set_option linter.all false
set_option maxRecDepth 100000
namespace Vg
open PySem PySem.Spec PyProof.Rows L2
section
variable {K : PySem.W.Frag} {en e3 : Ee} {σ : L2.St} {H F H3 F3 : Hp} {i : Nat} {old : Slot}
/-- a slot that is no object's -/
def Free0 (old : Slot) : Prop := old = .un ∨ ∃ z, old = .val z
theorem Free0.no (h : Free0 old) {d : D} : ¬ (some old = some (Slot.own d) ∨ some old = some (Slot.io d)) := by
  rcases h with rfl | ⟨z, rfl⟩ <;> (intro q; rcases q with q | q <;> cases q)
theorem own_set {x : Option V} {d : D} {a : Addr} (ho : en[i]? = some old) (hf : Free0 old) : Own (en.set i (.val d)) (σ.set i x) a ↔ Own en σ a := by
  have hlt : i < en.length := (List.getElem?_eq_some_iff.mp ho).1
  constructor
  · rintro ⟨j, e, hj, ej⟩
    by_cases hij : i = j
    · subst hij
      rw [List.getElem?_set_self hlt] at hj
      rcases hj with z | z <;> cases z
    · rw [List.getElem?_set_ne hij] at hj ej
      exact ⟨j, e, hj, ej⟩
  · rintro ⟨j, e, hj, ej⟩
    by_cases hij : i = j
    · subst hij
      rw [ho] at hj
      exact absurd hj hf.no
    · exact ⟨j, e, by rw [List.getElem?_set_ne hij]; exact hj, by rw [List.getElem?_set_ne hij]; exact ej⟩
/-- the slot set to a value -/
theorem Rel.setV {d : D} {v : V} (R : Rel K en σ H F) (hlt : i < en.length) (r : Rp K F v d) : Rel K (en.set i (.val d)) (σ.set i (some v)) H F where
  sub := R.sub
  len := by rw [List.length_set, List.length_set]; exact R.len
  val := fun j e hj => by
    by_cases hij : i = j
    · subst hij
      rw [List.getElem?_set_self hlt] at hj
      cases hj
      exact ⟨v, List.getElem?_set_self (by rw [R.len]; exact hlt), r⟩
    · rw [List.getElem?_set_ne hij] at hj
      obtain ⟨u, eu, ru⟩ := R.val j e hj
      exact ⟨u, by rw [List.getElem?_set_ne hij]; exact eu, ru⟩
  own := fun j e hj => by
    by_cases hij : i = j
    · subst hij
      rw [List.getElem?_set_self hlt] at hj
      rcases hj with z | z <;> cases z
    · rw [List.getElem?_set_ne hij] at hj
      obtain ⟨p, ep, rp⟩ := R.own j e hj
      exact ⟨p, by rw [List.getElem?_set_ne hij]; exact ep, rp⟩
  inj := fun j k d1 d2 p hj hk ej ek => by
    by_cases h1 : i = j
    · subst h1
      rw [List.getElem?_set_self hlt] at hj
      rcases hj with z | z <;> cases z
    · by_cases h2 : i = k
      · subst h2
        rw [List.getElem?_set_self hlt] at hk
        rcases hk with z | z <;> cases z
      · rw [List.getElem?_set_ne h1] at hj ej
        rw [List.getElem?_set_ne h2] at hk ek
        exact R.inj j k d1 d2 p hj hk ej ek
/-- the slot as it was -/
theorem Rel.back {x : Option V} (R : Rel K e3 (σ.set i x) H3 F3) (hf : Free0 old) (hv : ∀ z, old = .val z → ∃ v, σ[i]? = some (some v) ∧ Rp K F3 v z) (hlt : i < e3.length) : Rel K (e3.set i old) σ H3 F3 where
  sub := R.sub
  len := by
    have := R.len
    rw [List.length_set] at this
    rw [List.length_set]; exact this
  val := fun j e hj => by
    by_cases hij : i = j
    · subst hij
      rw [List.getElem?_set_self hlt] at hj
      cases hj
      exact hv e rfl
    · rw [List.getElem?_set_ne hij] at hj
      obtain ⟨u, eu, ru⟩ := R.val j e hj
      rw [List.getElem?_set_ne hij] at eu
      exact ⟨u, eu, ru⟩
  own := fun j e hj => by
    by_cases hij : i = j
    · subst hij
      rw [List.getElem?_set_self hlt] at hj
      exact absurd hj hf.no
    · rw [List.getElem?_set_ne hij] at hj
      obtain ⟨p, ep, rp⟩ := R.own j e hj
      rw [List.getElem?_set_ne hij] at ep
      exact ⟨p, ep, rp⟩
  inj := fun j k d1 d2 p hj hk ej ek => by
    by_cases h1 : i = j
    · subst h1
      rw [List.getElem?_set_self hlt] at hj
      exact absurd hj hf.no
    · by_cases h2 : i = k
      · subst h2
        rw [List.getElem?_set_self hlt] at hk
        exact absurd hk hf.no
      · rw [List.getElem?_set_ne h1] at hj
        rw [List.getElem?_set_ne h2] at hk
        exact R.inj j k d1 d2 p hj hk (by rw [List.getElem?_set_ne h1]; exact ej) (by rw [List.getElem?_set_ne h2]; exact ek)
theorem Step.back {x : Option V} {d : D} (s : Step (en.set i (.val d)) (σ.set i x) H F e3 (σ.set i x) H3 F3) (ho : en[i]? = some old) (hf : Free0 old) (hlt : i < e3.length) : Step en σ H F (e3.set i old) σ H3 F3 where
  grow := s.grow
  fresh := fun a h h' => (s.fresh a h h').imp id fun w => (own_set ho hf).mp w
  keep := fun a o e f n => s.keep a o e f fun w => n ((own_set ho hf).mp w)
  sub := fun a ⟨j, e, hj, ej⟩ => by
    by_cases hij : i = j
    · subst hij
      rw [List.getElem?_set_self hlt] at hj
      exact absurd hj hf.no
    · rw [List.getElem?_set_ne hij] at hj
      exact (s.sub a ⟨j, e, hj, by rw [List.getElem?_set_ne hij]; exact ej⟩).imp id fun w => (own_set ho hf).mp w
  io := fun j e hj => by
    have hij : i ≠ j := fun z => by
      subst z
      rw [ho] at hj
      exact absurd (.inr hj) (hf.no (d := e))
    obtain ⟨e1, d', h'⟩ := s.io j e (by rw [List.getElem?_set_ne hij]; exact hj)
    exact ⟨rfl, d', by rw [List.getElem?_set_ne hij]; exact h'⟩
  there := s.there
theorem wipe1 (σ : L2.St) (i : Nat) (v : V) : (wipe σ [i]).set i (some v) = σ.set i (some v) := by
  show (σ.set i none).set i (some v) = _
  rw [List.set_set]
theorem wipe2 (σ : L2.St) (i : Nat) (v : V) : wipe (σ.set i (some v)) [i] = wipe σ [i] := by
  show (σ.set i (some v)).set i none = σ.set i none
  rw [List.set_set]
end
section
variable {S : Sr0} {ta : TE}
def LC (S : Sr0) (w : Ee → (Bool → Ee → Prop) → KX → Prop) (t : TT) : Prop := LT S w t
theorem lc_no : LC S (wC S.C .no) tYes := by
  intro en σ H F Q Kq Xq R w xp q
  exact q true en H F w R (Step.refl ..)
theorem lc_ex {c : Te} {t : TT} (h : LT S (wT S.C c) t) : LC S (wC S.C (.ex c)) t := h
/-- the surroundings in a comprehension: no exception is wished for -/
abbrev Sr0.blk (S : Sr0) : Sr0 := { S with W := fun _ _ _ _ => False }
theorem xFalse {en : Ee} {σ : L2.St} {H F : Hp} : XPost S en σ H F (fun _ _ _ => False) := fun _ _ _ _ _ _ _ z => z.elim
theorem le_lc {e : Ex} {i : Nat} {s : Sr} {c : Ot} {wi : TI} {tt : TT} (hs : LI S (wS S.C s) wi) (hc : LC S.blk (wC S.C c) tt) (he : LE S.blk (wE S.C e) ta) :
    LE S (wE S.C (.lc e i s c)) (tLc wi (gName i) tt ta [i]) := by
  intro en σ H F Q Kq Xq R w xp q
  refine hs en σ H F _ _ Xq R w xp fun r ds e0 v H1 F1 J ⟨hz, k1⟩ R1 s1 r1 wk _ D hD => ?_
  let Wv : Nat → Nat → Hp → Prop := fun n m Hc => m = ds.length - n ∧ n ≤ ds.length ∧ ∃ e1 F' acc vs, Rel S.K e1 σ Hc F' ∧ Step e0 σ H1 F1 e1 σ Hc F' ∧ Hc D = some (.lst vs) ∧ F' D = none ∧ ¬ Own e1 σ D ∧ RpAll S.K F' vs acc ∧
    drf e1 r = drf e0 r ∧ vs.length ≤ n ∧ goL (fun d en K => ∃ old, en[i]? = some old ∧ (old = .un ∨ ∃ z, old = .val z) ∧
      wC S.C c (en.set i (.val d)) (fun k e2 => (k = true → wE S.C e e2 (fun t e3 => ∃ x e4, give t e3 = some (x, e4) ∧ drf (e4.set i old) r = drf e0 r ∧ K (some x) (e4.set i old)) fun _ _ _ => False) ∧ (k = false → drf (e2.set i old) r = drf e0 r ∧ K none (e2.set i old))) fun _ _ _ => False)
      (ds.drop n) acc e1 (fun acc e1 => Kq (.f (.lst acc)) e1)
  refine ⟨Wv, ⟨_, rfl, Nat.zero_le _, e0, F1, [], [], R1.alloc hD, Step.alloc hD, upd_same, R1.nF hD, R1.notOwn hD, .nil, rfl, Nat.le_refl _, by rw [List.drop_zero]; exact k1⟩, ?_⟩
  rintro n m Hc ⟨rfl, hn, e1, F', acc, vs, R', s', hDc, hDF, nO, ra, er, hvl, g⟩
  obtain ⟨w1, w2⟩ := wk r e1 σ Hc F' R' (r1.step s') er
  by_cases hlt : n < ds.length
  · obtain ⟨jg, jy⟩ := w1 n hlt
    refine .inr ⟨jg, Wv (n + 1) (ds.length - (n + 1)), fun H' p' => ⟨_, by omega, p'⟩, fun x H' y => ?_⟩
    obtain ⟨F0, R0, s0, d, hd, rd⟩ := jy x H' y
    have nOw := nO
    have h0D : H' D = some (.lst vs) ∧ F0 D = none := by
      refine ⟨s0.keep D _ hDc hDF nO, ?_⟩
      cases q1 : F0 D with
      | none => rfl
      | some u =>
        rcases s0.fresh D hDF (by rw [q1]; simp) with z | z
        · rw [hDc] at z; cases z
        · exact absurd z nO
    replace s' := s'.trans s0
    replace ra := ra.mono s0.grow
    replace hDc := h0D.1
    replace hDF := h0D.2
    clear R' h0D
    have R' := R0
    rw [List.drop_eq_getElem_cons hlt] at g
    obtain ⟨old, ho, hf, g2⟩ := g
    rw [List.getElem?_eq_getElem hlt] at hd
    have ed : ds[n] = d := Option.some.inj hd
    rw [ed] at g2
    have hlt1 : i < e1.length := (List.getElem?_eq_some_iff.mp ho).1
    show wipe ((wipe σ [i]).set i (some x)) [i] = wipe σ [i] ∧ tt ((wipe σ [i]).set i (some x)) H' _
    rw [wipe1]
    refine ⟨wipe2 σ i x, ?_⟩
    have Rs := R'.setV hlt1 rd
    have oldv : ∀ z, old = .val z → ∃ v0, σ[i]? = some (some v0) ∧ Rp S.K F0 v0 z := fun z ez => by
      rw [ez] at ho
      exact R'.val i z ho
    refine hc _ (σ.set i (some x)) H' F0 _ _ _ Rs g2 (xFalse (S := S.blk)) fun k e2 H2 F2 ⟨g3, g4⟩ R2 s2 => ?_
    have keepD : ∀ {ex : Ee} {Hx Fx : Hp}, Step (e1.set i (.val d)) (σ.set i (some x)) H' F0 ex (σ.set i (some x)) Hx Fx → Hx D = some (.lst vs) ∧ Fx D = none := fun {ex Hx Fx} sx => by
      have nO' : ¬ Own (e1.set i (.val d)) (σ.set i (some x)) D := fun w => nO ((own_set ho hf).mp w)
      refine ⟨sx.keep D _ hDc hDF nO', ?_⟩
      cases q1 : Fx D with
      | none => rfl
      | some u =>
        rcases sx.fresh D hDF (by rw [q1]; simp) with z | z
        · rw [hDc] at z; cases z
        · exact absurd z nO'
    have len2 : ∀ {ex : Ee} {Hx Fx : Hp}, Rel S.K ex (σ.set i (some x)) Hx Fx → i < ex.length := fun {ex Hx Fx} Rx => by
      have a := Rx.len
      have b := R'.len
      rw [List.length_set] at a
      omega
    cases k with
    | false =>
      refine iteF ?_
      obtain ⟨er2, g5⟩ := g4 rfl
      have hl2 := len2 R2
      obtain ⟨h1, h2⟩ := keepD s2
      refine ⟨rfl, hlt, e2.set i old, F2, acc, vs, R2.back hf (fun z ez => ?_) hl2, s'.trans (s2.back ho hf hl2), h1, h2, ?_, ra.mono s2.grow, er2, by omega, g5⟩
      · obtain ⟨v0, ev0, rv0⟩ := oldv z ez
        exact ⟨v0, ev0, rv0.mono s2.grow⟩
      · intro w
        rcases (s2.back ho hf hl2).sub D w with z | z
        · rw [hDc] at z; cases z
        · exact nO z
    | true =>
      refine iteT ?_
      refine he e2 (σ.set i (some x)) H2 F2 _ _ _ R2 (g3 rfl) (xFalse (S := S.blk)) fun t e3 y H3 F3 ⟨xd, e4, gv, er4, g5⟩ R3 s3 r3 n3 => ?_
      obtain ⟨F4, R4, s4, r4⟩ := give_ok R3 (s2.trans s3) r3 (fun d p z1 z2 => s2.there p (n3 d p z1 z2)) gv
      have hl4 := len2 R4
      obtain ⟨h1, h2⟩ := keepD s4
      refine ⟨vs, h1, Nat.lt_of_le_of_lt hvl (Nat.lt_of_lt_of_le hlt hz), ?_⟩
      have sb := s4.back ho hf hl4
      have Rb : Rel S.K (e4.set i old) σ H3 F4 := R4.back hf (fun z ez => by
        obtain ⟨v0, ev0, rv0⟩ := oldv z ez
        exact ⟨v0, ev0, rv0.mono s4.grow⟩) hl4
      have nO4 : ¬ Own (e4.set i old) σ D := fun w => by
        rcases sb.sub D w with z | z
        · rw [hDc] at z; cases z
        · exact nO z
      -- the new list with one item more
      have Rw : Rel S.K (e4.set i old) σ (upd H3 D (.lst (vs ++ [y]))) F4 :=
        { sub := fun b u e => by
            have hb : b ≠ D := fun z => by rw [z, h2] at e; cases e
            rw [upd_ne hb]
            exact Rb.sub b u e
          len := Rb.len
          val := Rb.val
          own := fun j dj hj => by
            obtain ⟨p, ep, fp, u, hu, ru⟩ := Rb.own j dj hj
            have hp : p ≠ D := fun z => nO4 ⟨j, dj, hj, by rw [← z]; exact ep⟩
            exact ⟨p, ep, fp, u, by rw [upd_ne hp]; exact hu, ru⟩
          inj := Rb.inj }
      have sF := s'.trans sb
      have H1D : H1 D = none := hD
      refine ⟨rfl, hlt, e4.set i old, F4, acc ++ [xd], vs ++ [y], Rw, ?_, upd_same, h2, nO4, (ra.mono s4.grow).snoc r4, er4, by rw [List.length_append, List.length_singleton]; omega, g5⟩
      exact
        { grow := sF.grow
          fresh := sF.fresh
          keep := fun a o e f n => by
            have ha : a ≠ D := fun z => by rw [z, H1D] at e; cases e
            rw [upd_ne ha]
            exact sF.keep a o e f n
          sub := sF.sub
          io := sF.io
          there := fun a e => by
            by_cases ha : a = D
            · rw [ha]; exact H1D
            · rw [upd_ne ha] at e; exact sF.there a e }
  · have en' : n = ds.length := by omega
    refine .inl ⟨w2 n (by omega), ?_⟩
    rw [en', List.drop_length] at g
    have g' : Kq (.f (.lst acc)) e1 := g
    refine q (.f (.lst acc)) e1 (.ref D) Hc F' g' R' (s1.trans s') ⟨D, rfl, hDF, nO, _, hDc, .lst ra⟩ ?_
    intro d p _ ep
    cases ep
    exact s1.there D hD
end
end Vg

set_option Elab.async false
set_option linter.all false
set_option maxRecDepth 100000
namespace Vg
open PySem PySem.Spec PyProof.Rows L2
def rMth (K : PySem.W.Frag) : Mt → V → List V → Hp → VK → Prop
  | .append => rAppend
  | .pop => rPop
  | .popAt => rPopAt
  | .join => fun x xs H Q => ∃ a p, ∃ ys : List Str, x = .str a ∧ xs = [.ref p] ∧ (SqL K H p (ys.map V.str) ∨ SqT K H p (ys.map V.str)) ∧ (ys.map (·.length)).sum + ys.length * a.length ≤ 16777216 ∧ Q (.str (Txt.join a ys)) H
  | .rmpre => fun x xs H Q => ∃ a b, x = .str a ∧ xs = [.str b] ∧ a.length ≤ sizeLine ∧ Q (.str (Txt.removeprefix a b)) H
  | .sindex => fun x xs H Q => ∃ a b k, x = .str a ∧ xs = [.str b] ∧ Txt.index0 a b = some k ∧ Q (.int (k : Nat)) H
section
variable {X : Cx}
theorem mt_sindex (hc : X.calm = true) : MtR X "str.index" (rMth X.K .sindex) := by
  intro pins s σ H x xs v us Q I rx rs h
  obtain ⟨a, b, k, e1, e2, e3, q⟩ := h
  refine mt_indexX (W := fun _ _ _ _ => False) hc (fun u s' z => ?_) pins s σ H x xs v us Q I rx rs ⟨a, b, e1, e2, fun j ej => ?_, fun z => ?_⟩
  · obtain ⟨_, _, _, _, _, _, _, _, _, _, _, _, _, _, _, _, w⟩ := z
    exact w.elim
  · rw [e3] at ej
    cases ej
    exact q
  · rw [e3] at z
    cases z
structure MFact (X : Cx) (m : Mt) : Prop where
  ex : ∃ id, PlainAttrs m.T ∧ PySem.Slot m.T m.nm id ∧ typeOf (.builtin id) = pure (.type "method_descriptor") ∧ MtR X id (rMth X.K m)
theorem mfact (hc : X.calm = true) : ∀ m, MFact X m
  | .append => ⟨"list.append", F.plainAttrs_list, F.slot_list_append, F.type_list_append, mt_append⟩
  | .pop => ⟨"list.pop", F.plainAttrs_list, F.slot_list_pop, F.type_list_pop, mt_pop⟩
  | .popAt => ⟨"list.pop", F.plainAttrs_list, F.slot_list_pop, F.type_list_pop, mt_popAt⟩
  | .join => ⟨"str.join", F.plainAttrs_str, F.slot_str_join, F.type_str_join, mt_join⟩
  | .rmpre => ⟨"str.removeprefix", F.plainAttrs_str, F.slot_str_removeprefix, F.type_str_removeprefix, mt_removeprefix⟩
  | .sindex => ⟨"str.index", F.plainAttrs_str, F.slot_str_index, F.type_str_index, mt_sindex hc⟩
end
section
variable {S : Sr0} {ta : TE} {en : Ee} {σ : L2.St} {H F : Hp} {v : V} {x : D} {vs : List V} {ds : List D} {Q : VK}
theorem mth_ok {m : Mt} {Kq : RV → Prop} (R : Rel S.K en σ H F) (rx : RpT S.K H F v x) (rr : RpTs S.K H F vs ds) (h : mthD m x ds Kq) (q : OPost S en σ H F Kq Q) : rMth S.K m v vs H Q := by
  unfold mthD at h
  split at h
  · obtain ⟨w, rfl, r⟩ := rr.one
    obtain ⟨ys, rfl, hz, k⟩ := h
    obtain ⟨p, us, e, hp, a⟩ := r.lst R
    have z := strs_rp a
    subst z
    exact ⟨_, p, ys, rx.str, by rw [e], .inl (SqL.of hp), hz, q.here R k (.str _)⟩
  · obtain ⟨w, rfl, r⟩ := rr.one
    exact ⟨_, _, rx.str, by rw [r.str], h.1, q.here R h.2 (.str _)⟩
  · obtain ⟨w, rfl, r⟩ := rr.one
    obtain ⟨k, e, kk⟩ := h
    exact ⟨_, _, k, rx.str, by rw [r.str], e, q.here R kk (.int _)⟩
  · exact h.elim
theorem tyV_of {T : String} (R : Rel S.K en σ H F) (rx : RpT S.K H F v x) (e : tyD x = T) (hT : T = "list" ∨ T = "str") : tyV S.K T v H := by
  subst e
  cases x with
  | str z => rw [rx.str]; rfl
  | lst ds => obtain ⟨p, us, e, hp, a⟩ := rx.lst R; rw [e]; exact .inl ⟨rfl, us, SqL.of hp⟩
  | scr _ => rcases hT with z | z <;> simp [tyD] at z
  | non => rcases hT with z | z <;> simp [tyD] at z
  | bl _ => rcases hT with z | z <;> simp [tyD] at z
  | int _ => rcases hT with z | z <;> simp [tyD] at z
  | tup _ => rcases hT with z | z <;> simp [tyD] at z
  | dct _ => rcases hT with z | z <;> simp [tyD] at z
  | fn _ => rcases hT with z | z <;> simp [tyD] at z
  | ty _ => rcases hT with z | z <;> simp [tyD] at z
  | exc _ _ => rcases hT with z | z <;> simp [tyD] at z
theorem Mt.TT (m : Mt) : m.T = "list" ∨ m.T = "str" := by cases m <;> first | exact .inl rfl | exact .inr rfl
/-- a slot's object written -/
theorem Rel.write {i : Nat} {p : Addr} {o : HO} {d d' : D} (R : Rel S.K en σ H F) (hd : ownD en i = some d) (ep : σ[i]? = some (some (.ref p))) (ro : RpO S.K F o d') : Rel S.K (reOwn en i d') σ (upd H p o) F := by
  have hi := ownD_own hd
  have hlt : i < en.length := by rcases hi with h | h <;> exact (List.getElem?_eq_some_iff.mp h).1
  have pF : F p = none := by
    obtain ⟨p', e', hf, _⟩ := R.own i d hi
    rw [ep] at e'
    cases e'
    exact hf
  have same : ∀ (j : Nat) (e : D), (reOwn en i d')[j]? = some (.own e) ∨ (reOwn en i d')[j]? = some (.io e) → (j = i ∧ e = d') ∨ (j ≠ i ∧ (en[j]? = some (.own e) ∨ en[j]? = some (.io e))) := by
    intro j e hj
    by_cases hij : i = j
    · subst hij
      refine .inl ⟨rfl, ?_⟩
      unfold reOwn at hj
      rcases hi with h | h <;> (rw [h] at hj; simp only at hj; rw [List.getElem?_set_self hlt] at hj; rcases hj with z | z <;> cases z <;> rfl)
    · refine .inr ⟨fun z => hij z.symm, ?_⟩
      unfold reOwn at hj
      rcases hi with h | h <;> (rw [h] at hj; simp only at hj; rw [List.getElem?_set_ne hij] at hj; exact hj)
  have valS : ∀ (j : Nat) (e : D), (reOwn en i d')[j]? = some (.val e) → en[j]? = some (.val e) := by
    intro j e hj
    by_cases hij : i = j
    · subst hij
      unfold reOwn at hj
      rcases hi with h | h <;> (rw [h] at hj; simp only at hj; rw [List.getElem?_set_self hlt] at hj; cases hj)
    · unfold reOwn at hj
      rcases hi with h | h <;> (rw [h] at hj; simp only at hj; rw [List.getElem?_set_ne hij] at hj; exact hj)
  have len : (reOwn en i d').length = en.length := by
    unfold reOwn
    rcases hi with h | h <;> (rw [h]; simp only; rw [List.length_set])
  exact
    { sub := fun b u e => by
        have hb : b ≠ p := fun z => by rw [z, pF] at e; cases e
        rw [upd_ne hb]
        exact R.sub b u e
      len := by rw [len]; exact R.len
      val := fun j e hj => R.val j e (valS j e hj)
      own := fun j e hj => by
        rcases same j e hj with ⟨rfl, rfl⟩ | ⟨hji, hj'⟩
        · exact ⟨p, ep, pF, o, upd_same, ro⟩
        · obtain ⟨p', e', hf, u, hu, ru⟩ := R.own j e hj'
          have hp : p' ≠ p := fun z => by
            subst z
            exact hji (R.inj j i e d p' hj' hi e' ep)
          exact ⟨p', e', hf, u, by rw [upd_ne hp]; exact hu, ru⟩
      inj := fun j k d1 d2 a hj hk ej ek => by
        have h1 : ∃ e, en[j]? = some (.own e) ∨ en[j]? = some (.io e) := by
          rcases same j d1 hj with ⟨rfl, _⟩ | ⟨_, h⟩
          · exact ⟨d, hi⟩
          · exact ⟨d1, h⟩
        have h2 : ∃ e, en[k]? = some (.own e) ∨ en[k]? = some (.io e) := by
          rcases same k d2 hk with ⟨rfl, _⟩ | ⟨_, h⟩
          · exact ⟨d, hi⟩
          · exact ⟨d2, h⟩
        obtain ⟨_, h1⟩ := h1
        obtain ⟨_, h2⟩ := h2
        exact R.inj j k _ _ a h1 h2 ej ek }
theorem own_re {i : Nat} {d' : D} {a : Addr} : Own (reOwn en i d') σ a → Own en σ a := by
  rintro ⟨j, e, hj, ej⟩
  have h1 : ∃ e, en[j]? = some (.own e) ∨ en[j]? = some (.io e) := by
    unfold reOwn at hj
    split at hj
    · rename_i z hz
      by_cases hij : i = j
      · subst hij; exact ⟨z, .inl hz⟩
      · rw [List.getElem?_set_ne hij] at hj; exact ⟨e, hj⟩
    · rename_i z hz
      by_cases hij : i = j
      · subst hij; exact ⟨z, .inr hz⟩
      · rw [List.getElem?_set_ne hij] at hj; exact ⟨e, hj⟩
    · exact ⟨e, hj⟩
  obtain ⟨e', h1⟩ := h1
  exact ⟨j, e', h1, ej⟩
theorem Step.write {i : Nat} {p : Addr} {o : HO} {d d' : D} (R : Rel S.K en σ H F) (hd : ownD en i = some d) (ep : σ[i]? = some (some (.ref p))) : Step en σ H F (reOwn en i d') σ (upd H p o) F where
  grow := Leq.refl F
  fresh := fun a h h' => absurd h h'
  keep := fun a u e _ n => by
    have ha : a ≠ p := fun z => n ⟨i, d, ownD_own hd, by rw [z]; exact ep⟩
    rw [upd_ne ha]
    exact e
  sub := fun a w => .inr (own_re w)
  io := fun j e hj => by
    refine ⟨rfl, ?_⟩
    unfold reOwn
    have hlt : j < en.length := (List.getElem?_eq_some_iff.mp hj).1
    split
    · rename_i z hz
      have hij : i ≠ j := fun q => by subst q; rw [hj] at hz; cases hz
      exact ⟨e, by rw [List.getElem?_set_ne hij]; exact hj⟩
    · rename_i z hz
      by_cases hij : i = j
      · subst hij; exact ⟨d', List.getElem?_set_self hlt⟩
      · exact ⟨e, by rw [List.getElem?_set_ne hij]; exact hj⟩
    · exact ⟨e, hj⟩
  there := fun a e => by
    by_cases ha : a = p
    · subst ha; rw [upd_same] at e; cases e
    · rw [upd_ne ha] at e; exact e
theorem le_mth {m : Mt} {o : Ex} {es : Es} {t : TA} (ho : LE S (wE S.C o) ta) (hs : LRs S (wRs S.C es) t) : LE S (wE S.C (.mth o m es)) (tBM S.K m.T (rMth S.K m) ta t) := by
  intro en σ H F Q Kq Xq R w xp q
  refine ho en σ H F _ _ Xq R w xp fun r e1 v H1 F1 ⟨x1, ex1, et, k1⟩ R1 s1 r1 n1 => ?_
  refine ⟨tyV_of R1 (r1.deref R1 ex1) et m.TT, ?_⟩
  refine hs e1 σ H1 F1 _ _ Xq R1 k1 (xp.step s1) fun rs e2 vs H2 F2 ⟨x, ds, ex, eds, k2⟩ R2 s2 a2 => ?_
  exact mth_ok R2 ((r1.step s2).deref R2 ex) (derefs R2 a2 eds) k2 (OPost.of (q.step (s1.trans s2)))
theorem le_mth0 {m : Mt} {o : Ex} (ho : LE S (wE S.C o) ta) : LE S (wE S.C (.mth o m .nil)) (tBM0 S.K m.T (rMth S.K m) ta) := by
  intro en σ H F Q Kq Xq R w xp q
  refine ho en σ H F _ _ Xq R w xp fun r e1 v H1 F1 ⟨x1, ex1, et, k1⟩ R1 s1 r1 n1 => ?_
  obtain ⟨x, ds, ex, eds, k2⟩ := k1
  exact ⟨tyV_of R1 (r1.deref R1 ex1) et m.TT, mth_ok R1 (r1.deref R1 ex) (derefs R1 .nil eds) k2 (OPost.of (q.step s1))⟩
/-- a method that changes its object -/
theorem mut_ok {m : Mt} {i : Nat} {d : D} {Kq : RV → D → Prop} (R : Rel S.K en σ H F) (hd : ownD en i = some d) (ev : σ[i]? = some (some v)) (rr : RpAll S.K F vs ds) (h : mutD m d ds Kq)
    (q : ∀ t d' u p o, Kq t d' → v = .ref p → RpO S.K F o d' → (∃ x, t = .v x ∧ Rp S.K F u x) → Q u (upd H p o)) : rMth S.K m v vs H Q := by
  obtain ⟨p, ep, hf, o, ho, ro⟩ := R.own i d (ownD_own hd)
  rw [ev] at ep
  cases ep
  unfold mutD at h
  split at h
  · cases ro with
    | lst a =>
      cases rr with
      | cons r1 rn =>
        cases rn
        exact ⟨p, _, _, rfl, rfl, ho, by rw [a.length]; exact h.1, q _ _ _ p _ h.2 rfl (.lst (a.snoc r1)) ⟨_, rfl, .non⟩⟩
  · cases ro with
    | lst a =>
      cases rr
      obtain ⟨y, ey, k⟩ := h
      rw [← a.length] at ey
      obtain ⟨u, eu, ru⟩ := a.get ey
      refine ⟨p, _, u, rfl, rfl, ho, eu, q _ _ _ p _ k rfl (.lst ?_) ⟨_, rfl, ru⟩⟩
      have : ∀ {us : List V} {es : List D}, RpAll S.K F us es → RpAll S.K F us.dropLast es.dropLast := fun {us es} z => by
        rw [List.dropLast_eq_take, List.dropLast_eq_take, z.length]
        exact z.take _
      exact this a
  · cases ro with
    | lst a =>
      cases rr with
      | cons r1 rn =>
        cases rn
        cases r1
        obtain ⟨k, y, h1, h2, hk, ey, kk⟩ := h
        obtain ⟨u, eu, ru⟩ := a.get ey
        exact ⟨p, _, _, k, u, rfl, rfl, ho, h1, h2, by rw [a.length]; exact hk, eu, q _ _ _ p _ kk rfl (.lst (a.erase k)) ⟨_, rfl, ru⟩⟩
  · exact h.elim
theorem le_mut {m : Mt} {o : Ex} {es : Es} {t : TA} (ho : LE S (wE S.C o) ta) (hs : LA S (wEs S.C es) t) : LE S (wE S.C (.mut o m es)) (tBM S.K m.T (rMth S.K m) ta t) := by
  intro en σ H F Q Kq Xq R w xp q
  refine ho en σ H F _ _ Xq R w xp fun r e1 v H1 F1 ⟨i, d1, er, ed1, et, k1⟩ R1 s1 r1 n1 => ?_
  subst er
  refine ⟨tyV_of R1 (RpR.deref (r := .o i) R1 r1 ed1) et m.TT, ?_⟩
  refine hs e1 σ H1 F1 _ _ Xq R1 k1 (xp.step s1) fun ds e2 vs H2 F2 ⟨d, ed, k2⟩ R2 s2 a2 => ?_
  refine mut_ok (Kq := fun t d' => Kq t (reOwn e2 i d')) R2 ed r1 a2 k2 fun t d' u p o kt ep ro ⟨x, et', ru⟩ => ?_
  subst ep et'
  exact q (.v x) _ u _ F2 kt (R2.write ed r1 ro) ((s1.trans s2).trans (Step.write R2 ed r1)) ru New.v
theorem le_mut0 {m : Mt} {o : Ex} (ho : LE S (wE S.C o) ta) : LE S (wE S.C (.mut o m .nil)) (tBM0 S.K m.T (rMth S.K m) ta) := by
  intro en σ H F Q Kq Xq R w xp q
  refine ho en σ H F _ _ Xq R w xp fun r e1 v H1 F1 ⟨i, d1, er, ed1, et, d, ed, k2⟩ R1 s1 r1 n1 => ?_
  subst er
  refine ⟨tyV_of R1 (RpR.deref (r := .o i) R1 r1 ed1) et m.TT, ?_⟩
  refine mut_ok (Kq := fun t d' => Kq t (reOwn e1 i d')) R1 ed r1 .nil k2 fun t d' u p o kt ep ro ⟨x, et', ru⟩ => ?_
  subst ep et'
  exact q (.v x) _ u _ F1 kt (R1.write ed r1 ro) (s1.trans (Step.write R1 ed r1)) ru New.v

theorem gives_ok {en0 : Ee} {H0 F0 : Hp} : ∀ {rs : List RV} {vs : List V} {ds : List D} {en e2 : Ee} {F : Hp}, Rel S.K en σ H F → Step en0 σ H0 F0 en σ H F → RpRs S.K σ en H F rs vs → gives rs en = some (ds, e2) →
    ∃ F2, Rel S.K e2 σ H F2 ∧ Step en0 σ H0 F0 e2 σ H F2 ∧ RpAll S.K F2 vs ds ∧ Step en σ H F e2 σ H F2
  | [], _, _, en, _, F, R, s0, .nil, e => by
    cases e
    exact ⟨F, R, s0, .nil, Step.refl ..⟩
  | .f d :: rs, _, _, _, _, _, _, _, _, e => by cases e
  | .v d :: rs, _, ds, en, e2, F, R, s0, .cons h a, e => by
    unfold gives at e
    simp only [give] at e
    cases q : gives rs en with
    | none => rw [q] at e; cases e
    | some p =>
      obtain ⟨ds', e'⟩ := p
      rw [q] at e
      cases e
      obtain ⟨F2, R2, s2, a2, t2⟩ := gives_ok R s0 a q
      exact ⟨F2, R2, s2, .cons (Rp.mono t2.grow h) a2, t2⟩
  | .o i :: rs, _, ds, en, e2, F, R, s0, .cons h a, e => by
    unfold gives at e
    cases g : give (.o i) en with
    | none => rw [g] at e; cases e
    | some pe =>
      obtain ⟨d, e1⟩ := pe
      rw [g] at e
      simp only at e
      cases q : gives rs e1 with
      | none => rw [q] at e; cases e
      | some p =>
        obtain ⟨ds', e'⟩ := p
        rw [q] at e
        cases e
        obtain ⟨F1, R1, s1, r1⟩ := give_ok R (Step.refl ..) h New.o g
        obtain ⟨F2, R2, s2, a2, t2⟩ := gives_ok R1 (s0.trans s1) (a.step s1) q
        exact ⟨F2, R2, s2, .cons (r1.mono t2.grow) a2, s1.trans t2⟩

/-- what a call leaves of the heap; io: the object changed in place -/
structure CPost (io : Option Addr) (H F H' F' : Hp) : Prop where
  grow : Leq F F'
  sub : Same F' H'
  fresh : ∀ a, F a = none → F' a ≠ none → H a = none
  keep : ∀ a o, H a = some o → F a = none → io ≠ some a → H' a = some o
  there : ∀ a, H' a = none → H a = none
/-- the answer of a call -/
def RpC (K : PySem.W.Frag) (fr : Bool) (H H' F' : Hp) (r : D) (v : V) : Prop := match fr && isMut r with
  | true => ∃ q o, v = .ref q ∧ H q = none ∧ F' q = none ∧ H' q = some o ∧ RpO K F' o r
  | false => Rp K F' v r
/-- the promise of a def, from what is wanted by data -/
def spOf (K : PySem.W.Frag) (cl : Str → Option Addr) (c : Ct) : Sp := fun vs H Q E => ∃ F, Same F H ∧ match c.io with
  | true => ∃ p vs' d ds, vs = .ref p :: vs' ∧ RpS K F H p d ∧ RpAll K F vs' ds ∧
      c.wp (d :: ds) (fun r d' => ∀ v H' F', CPost (some p) H F H' F' → RpS K F' H' p d' → RpC K c.fr H H' F' r v → Q v H')
        (fun x fs d' => ∀ C oa H' F', cl x = some C → CPost (some p) H F H' F' → RpS K F' H' p d' → RpX K H' F' oa fs → NewX H oa → E (.ref C) oa H')
  | false => ∃ ds, RpAll K F vs ds ∧
      c.wp ds (fun r _ => ∀ v H' F', CPost none H F H' F' → RpC K c.fr H H' F' r v → Q v H') (fun x fs _ => ∀ C oa H' F', cl x = some C → CPost none H F H' F' → RpX K H' F' oa fs → NewX H oa → E (.ref C) oa H')
/-- what is one's own stands behind a call -/
theorem CPost.ownK {io : Option Addr} {H' F' : Hp} {p : Addr} {d : D} (c : CPost io H F H' F') (r : RpS S.K F H p d) (hp : io ≠ some p) : RpS S.K F' H' p d := by
  obtain ⟨hf, o, ho, ro⟩ := r
  refine ⟨?_, o, c.keep p o ho hf hp, ro.mono c.grow⟩
  cases q : F' p with
  | none => rfl
  | some u =>
    have := c.fresh p hf (by rw [q]; simp)
    rw [ho] at this; cases this
theorem Rel.call0 {H' F' : Hp} (R : Rel S.K en σ H F) (c : CPost none H F H' F') : Rel S.K en σ H' F' where
  sub := c.sub
  len := R.len
  val := fun j e hj => by
    obtain ⟨v, ev, rv⟩ := R.val j e hj
    exact ⟨v, ev, rv.mono c.grow⟩
  own := fun j e hj => by
    obtain ⟨p, ep, rp⟩ := R.own j e hj
    exact ⟨p, ep, c.ownK rp (by intro z; cases z)⟩
  inj := R.inj
theorem Step.call0 {H' F' : Hp} (c : CPost none H F H' F') : Step en σ H F en σ H' F' where
  grow := c.grow
  fresh := fun a h h' => .inl (c.fresh a h h')
  keep := fun a o e f _ => c.keep a o e f (by intro z; cases z)
  sub := fun a w => .inr w
  io := fun j e hj => ⟨rfl, e, hj⟩
  there := c.there
theorem Rel.call1 {i : Nat} {p : Addr} {d d' : D} {H' F' : Hp} (R : Rel S.K en σ H F) (hd : ownD en i = some d) (ep : σ[i]? = some (some (.ref p))) (c : CPost (some p) H F H' F') (r : RpS S.K F' H' p d') : Rel S.K (reOwn en i d') σ H' F' := by
  obtain ⟨hf, o, ho, ro⟩ := r
  -- as if the object were written first
  have hi := ownD_own hd
  have R1 : Rel S.K en σ H' F' ∨ True := .inr trivial
  have base := R.write (o := o) (d' := d) hd ep
  have hlt : i < en.length := by rcases hi with h | h <;> exact (List.getElem?_eq_some_iff.mp h).1
  have split : ∀ (j : Nat) (e : D), (reOwn en i d')[j]? = some (.own e) ∨ (reOwn en i d')[j]? = some (.io e) → (j = i ∧ e = d') ∨ (j ≠ i ∧ (en[j]? = some (.own e) ∨ en[j]? = some (.io e))) := by
    intro j e hj
    by_cases hij : i = j
    · subst hij
      refine .inl ⟨rfl, ?_⟩
      unfold reOwn at hj
      rcases hi with h | h <;> (rw [h] at hj; simp only at hj; rw [List.getElem?_set_self hlt] at hj; rcases hj with z | z <;> cases z <;> rfl)
    · refine .inr ⟨fun z => hij z.symm, ?_⟩
      unfold reOwn at hj
      rcases hi with h | h <;> (rw [h] at hj; simp only at hj; rw [List.getElem?_set_ne hij] at hj; exact hj)
  have valS : ∀ (j : Nat) (e : D), (reOwn en i d')[j]? = some (.val e) → en[j]? = some (.val e) := by
    intro j e hj
    by_cases hij : i = j
    · subst hij
      unfold reOwn at hj
      rcases hi with h | h <;> (rw [h] at hj; simp only at hj; rw [List.getElem?_set_self hlt] at hj; cases hj)
    · unfold reOwn at hj
      rcases hi with h | h <;> (rw [h] at hj; simp only at hj; rw [List.getElem?_set_ne hij] at hj; exact hj)
  have len : (reOwn en i d').length = en.length := by
    unfold reOwn
    rcases hi with h | h <;> (rw [h]; simp only; rw [List.length_set])
  exact
    { sub := c.sub
      len := by rw [len]; exact R.len
      val := fun j e hj => by
        obtain ⟨v, ev, rv⟩ := R.val j e (valS j e hj)
        exact ⟨v, ev, rv.mono c.grow⟩
      own := fun j e hj => by
        rcases split j e hj with ⟨rfl, rfl⟩ | ⟨hji, hj'⟩
        · exact ⟨p, ep, hf, o, ho, ro⟩
        · obtain ⟨p', e', rp⟩ := R.own j e hj'
          have hp : p' ≠ p := fun z => by
            subst z
            exact hji (R.inj j i e d p' hj' hi e' ep)
          exact ⟨p', e', c.ownK rp fun z => hp (Option.some.inj z).symm⟩
      inj := fun j k d1 d2 a hj hk ej ek => by
        have h1 : ∃ e, en[j]? = some (.own e) ∨ en[j]? = some (.io e) := by
          rcases split j d1 hj with ⟨rfl, _⟩ | ⟨_, h⟩
          · exact ⟨d, hi⟩
          · exact ⟨d1, h⟩
        have h2 : ∃ e, en[k]? = some (.own e) ∨ en[k]? = some (.io e) := by
          rcases split k d2 hk with ⟨rfl, _⟩ | ⟨_, h⟩
          · exact ⟨d, hi⟩
          · exact ⟨d2, h⟩
        obtain ⟨_, h1⟩ := h1
        obtain ⟨_, h2⟩ := h2
        exact R.inj j k _ _ a h1 h2 ej ek }
theorem Step.call1 {i : Nat} {p : Addr} {d d' : D} {H' F' : Hp} (R : Rel S.K en σ H F) (hd : ownD en i = some d) (ep : σ[i]? = some (some (.ref p))) (c : CPost (some p) H F H' F') : Step en σ H F (reOwn en i d') σ H' F' where
  grow := c.grow
  fresh := fun a h h' => .inl (c.fresh a h h')
  keep := fun a u e f n => c.keep a u e f fun z => n ⟨i, d, ownD_own hd, by rw [ep, Option.some.inj z]⟩
  sub := fun a w => .inr (own_re w)
  io := (Step.write (o := .lst []) (d' := d') R hd ep).io
  there := c.there
theorem RpC.rpR {c : Ct} {e1 : Ee} {r : D} {H' F' : Hp} (R : Rel S.K en σ H F) (h : RpC S.K c.fr H H' F' r v) (so : ∀ a, Own e1 σ a → Own en σ a) : RpR S.K σ e1 H' F' (resD c r) v ∧ New H (resD c r) v := by
  unfold RpC at h
  unfold resD
  split at h
  · rename_i e
    rw [e]
    obtain ⟨q, o, ev, hq, fq, ho, ro⟩ := h
    refine ⟨⟨q, ev, fq, fun w => R.notOwn hq (so q w), o, ho, ro⟩, fun d p _ e2 => ?_⟩
    rw [ev] at e2
    cases e2
    exact hq
  · rename_i e
    rw [e]
    exact ⟨h, New.v⟩
theorem call_ok {c : Ct} {rs : List RV} {vs : List V} {e1 : Ee} {H1 F1 : Hp} {Kq : KQ} {Xq : KX} {Q : VK} (xp : XPost S en σ H F Xq) (q : QPost S en σ H F Kq Q) (R1 : Rel S.K e1 σ H1 F1) (s1 : Step en σ H F e1 σ H1 F1) (a1 : RpRs S.K σ e1 H1 F1 rs vs) (k1 : callD c rs e1 Kq Xq) :
    spOf S.K S.cl c vs H1 Q (WE S.W σ) := by
  unfold callD at k1
  split at k1
  · rename_i io
    obtain ⟨i, rs', ds, e2, d, er, g, hd, k2⟩ := k1
    subst er
    cases a1 with
    | cons ri ar =>
      rename_i v0 vs'
      obtain ⟨F2, R2, s2, a2, t2⟩ := gives_ok R1 s1 ar g
      obtain ⟨p, ep, rp⟩ := R2.own i d (ownD_own hd)
      have ev : v0 = .ref p := by
        have ri' : σ[i]? = some (some v0) := ri
        rw [ep] at ri'
        cases ri'
        rfl
      subst ev
      refine ⟨F2, R2.sub, ?_⟩
      rw [io]
      refine ⟨p, vs', d, ds, rfl, rp, a2, c.mono _ _ _ _ _ (fun r d' kr v H' F' cp rs rc => ?_) (fun x fs d' kx C oa H' F' ec cp rs rx nx => ?_) k2⟩
      · obtain ⟨h1, h2⟩ := rc.rpR (e1 := reOwn e2 i d') R2 (fun a w => own_re w)
        exact q _ _ v H' F' kr (R2.call1 hd ep cp rs) (s2.trans (Step.call1 R2 hd ep cp)) h1 fun d p' z1 z2 => s2.there p' (h2 d p' z1 z2)
      · exact xp x C fs oa _ H' F' kx ec (R2.call1 hd ep cp rs) (s2.trans (Step.call1 R2 hd ep cp)) rx (nx.back s2)
  · rename_i io
    obtain ⟨ds, e2, g, k2⟩ := k1
    obtain ⟨F2, R2, s2, a2, t2⟩ := gives_ok R1 s1 a1 g
    refine ⟨F2, R2.sub, ?_⟩
    rw [io]
    refine ⟨ds, a2, c.mono _ _ _ _ _ (fun r d' kr v H' F' cp rc => ?_) (fun x fs d' kx C oa H' F' ec cp rx nx => ?_) k2⟩
    · obtain ⟨h1, h2⟩ := rc.rpR (e1 := e2) R2 (fun a w => w)
      exact q _ _ v H' F' kr (R2.call0 cp) (s2.trans (Step.call0 cp)) h1 fun d p' z1 z2 => s2.there p' (h2 d p' z1 z2)
    · exact xp x C fs oa _ H' F' kx ec (R2.call0 cp) (s2.trans (Step.call0 cp)) rx (nx.back s2)
theorem le_call {f : Str} {c : Ct} {es : Es} {t : TA} (hf : S.C.fn f = some c) (hs : LRs S (wRs S.C es) t) : LE S (wE S.C (.call f es)) (tCallSD (spOf S.K S.cl c) [] (WE S.W) t) := by
  intro en σ H F Q Kq Xq R w xp q
  obtain ⟨c', hc', w⟩ := w
  rw [hf] at hc'
  cases hc'
  refine hs en σ H F _ _ Xq R w xp fun rs e1 vs H1 F1 k1 R1 s1 a1 => ?_
  rw [List.append_nil]
  exact call_ok xp q R1 s1 a1 k1
/-- f(e, .., k = v, ..) -/
def tCallNG (n m : Nat) (sp : Sp) (gV : List V → List V → List V) (E : L2.St → XK) (t tk : TA) : TE := fun σ H Q => t σ H fun vs H1 => tk σ H1 fun zs H2 => (vs.length = n ∧ zs.length = m) ∧ sp (gV vs zs) H2 Q (E σ)
def fillV (gv : Str → V) (fl : List (Nat ⊕ Str)) (zs : List V) : List V := fl.map fun o => match o with
  | .inl j => zs.getD j .non
  | .inr y => gv y
theorem fill_ok (g : GvOk S) {zs : List V} {dz : List D} (a : RpAll S.K F zs dz) : ∀ {fl : List (Nat ⊕ Str)} {dd : List D}, fillD S.C.gt fl dz = some dd → RpAll S.K F (fillV S.gv fl zs) dd
  | [], _, e => by cases e; exact .nil
  | .inl j :: r, dd, e => by
    unfold fillD at e
    split at e
    · rename_i d ds hd hr
      cases e
      obtain ⟨v, ev, rv⟩ := a.get hd
      refine .cons ?_ (fill_ok g a hr)
      show Rp S.K F (zs.getD j .non) d
      rw [List.getD_eq_getElem?_getD, ev]
      exact rv
    · cases e
  | .inr y :: r, dd, e => by
    unfold fillD at e
    split at e
    · rename_i d ds hd hr
      cases e
      exact .cons (g y d hd F) (fill_ok g a hr)
    · cases e
theorem RpRs.vals {en : Ee} : ∀ {rs : List RV} {vs : List V} {ds : List D}, RpRs S.K σ en H F rs vs → valsR rs = some ds → RpAll S.K F vs ds
  | [], _, _, .nil, e => by cases e; exact .nil
  | .v d :: r, _, ds, .cons h a, e => by
    unfold valsR at e
    split at e
    · rename_i q
      cases e
      exact .cons h (a.vals q)
    · cases e
  | .o _ :: _, _, _, _, e => by cases e
  | .f _ :: _, _, _, _, e => by cases e
theorem RpRs.ofAll {en : Ee} : ∀ {ws : List V} {ds : List D}, RpAll S.K F ws ds → RpRs S.K σ en H F (ds.map .v) ws
  | _, _, .nil => .nil
  | _, _, .cons h a => .cons h (RpRs.ofAll a)
theorem RpRs.app {en : Ee} {ws : List V} {ds : List D} (b : RpAll S.K F ws ds) : ∀ {rs : List RV} {vs : List V}, RpRs S.K σ en H F rs vs → RpRs S.K σ en H F (rs ++ ds.map .v) (vs ++ ws)
  | [], _, .nil => RpRs.ofAll b
  | r :: rs, _, .cons h a => .cons h (RpRs.app b a)
theorem RpRs.len {en : Ee} : ∀ {rs : List RV} {vs : List V}, RpRs S.K σ en H F rs vs → vs.length = rs.length
  | _, _, .nil => rfl
  | _, _, .cons _ a => congrArg Nat.succ a.len
theorem le_callk {f : Str} {c : Ct} {es kes : Es} {ks : List Str} {fl : List (Nat ⊕ Str)} {t tk : TA} (g : GvOk S) (hf : S.C.fn f = some c) (hs : LRs S (wRs S.C es) t) (hk : LRs S (wRs S.C kes) tk) :
    LE S (wE S.C (.callk f es ks kes fl)) (tCallNG es.len ks.length (spOf S.K S.cl c) (fun vs zs => vs ++ fillV S.gv fl zs) (WE S.W) t tk) := by
  intro en σ H F Q Kq Xq R w xp q
  obtain ⟨c', hc', w⟩ := w
  rw [hf] at hc'
  cases hc'
  refine hs en σ H F _ _ Xq R w xp fun rs e1 vs H1 F1 k1 R1 s1 a1 => ?_
  refine hk e1 σ H1 F1 _ _ Xq R1 k1 (xp.step s1) fun zs e2 ws H2 F2 ⟨ln, dz, hz, lz, k2⟩ R2 s2 a2 => ?_
  obtain ⟨dd, hd, k2⟩ := fillW_ex k2
  have az := a2.vals hz
  refine ⟨⟨by rw [a1.len]; exact ln, by rw [az.length]; exact lz⟩, ?_⟩
  exact call_ok xp q R2 (s1.trans s2) (RpRs.app (fill_ok g az hd) (a1.step s2)) k2
end
end Vg

set_option Elab.async false
set_option linter.all false
set_option maxRecDepth 100000
namespace Vg
open PySem PySem.Spec PyProof.Rows L2
def XPostS (S : Sr0) (en : Ee) (σ : L2.St) (H F : Hp) (Xq : KX) : Prop :=
  ∀ x c fs oa en' σ' H' F', Xq x fs en' → S.cl x = some c → Rel S.K en' σ' H' F' → Step en σ H F en' σ' H' F' → RpX S.K H' F' oa fs → NewX H oa → S.W (.ref c) oa σ' H'
structure EPost (S : Sr0) (en : Ee) (σ : L2.St) (H F : Hp) (K : Kx) (De : Ends) : Prop where
  nx : ∀ en' σ' H' F', K.nx en' → Rel S.K en' σ' H' F' → Step en σ H F en' σ' H' F' → De.nx σ' H'
  bk : ∀ en' σ' H' F', K.bk en' → Rel S.K en' σ' H' F' → Step en σ H F en' σ' H' F' → De.bk σ' H'
  ct : ∀ en' σ' H' F', K.ct en' → Rel S.K en' σ' H' F' → Step en σ H F en' σ' H' F' → De.ct σ' H'
  rt : ∀ r en' σ' v H' F', K.rt r en' → Rel S.K en' σ' H' F' → Step en σ H F en' σ' H' F' → RpR S.K σ' en' H' F' r v → New H r v → De.rt v H'
  xq : XPostS S en σ H F K.xq
section
variable {S : Sr0} {en en1 : Ee} {σ σ1 : L2.St} {H F H1 F1 : Hp} {K : Kx} {De : Ends}
theorem XPostS.step {Xq : KX} (h : XPostS S en σ H F Xq) (s : Step en σ H F en1 σ1 H1 F1) : XPostS S en1 σ1 H1 F1 Xq :=
  fun x c fs oa en' σ' H' F' a b R t r n => h x c fs oa en' σ' H' F' a b R (s.trans t) r (n.back s)
theorem XPostS.ex {Xq : KX} (h : XPostS S en σ H F Xq) : XPost S en σ H F Xq := fun x c fs oa en' H' F' a b R t r n => h x c fs oa en' σ H' F' a b R t r n
theorem EPost.step (h : EPost S en σ H F K De) (s : Step en σ H F en1 σ1 H1 F1) : EPost S en1 σ1 H1 F1 K De where
  nx := fun en' σ' H' F' k R t => h.nx en' σ' H' F' k R (s.trans t)
  bk := fun en' σ' H' F' k R t => h.bk en' σ' H' F' k R (s.trans t)
  ct := fun en' σ' H' F' k R t => h.ct en' σ' H' F' k R (s.trans t)
  rt := fun r en' σ' v H' F' k R t rr n => h.rt r en' σ' v H' F' k R (s.trans t) rr fun d p e1 e2 => s.there p (n d p e1 e2)
  xq := h.xq.step s
def LS (S : Sr0) (w : Ee → Kx → Prop) (t : TS) : Prop := ∀ en σ H F (De : Ends) (K : Kx), Rel S.K en σ H F → w en K → EPost S en σ H F K De → t De σ H
/-- the slot i set for good -/
theorem Step.setV {en0 : Ee} {σ0 : L2.St} {H0 F0 : Hp} {i : Nat} {d : D} {v : V} {old : Slot} (s : Step en0 σ0 H0 F0 en σ H F) (ho : en[i]? = some old) (hn : ∀ z, old ≠ .io z) : Step en0 σ0 H0 F0 (en.set i (.val d)) (σ.set i (some v)) H F where
  grow := s.grow
  fresh := s.fresh
  keep := s.keep
  sub := fun a ⟨j, e, hj, ej⟩ => by
    have hlt : i < en.length := (List.getElem?_eq_some_iff.mp ho).1
    by_cases hij : i = j
    · subst hij
      rw [List.getElem?_set_self hlt] at hj
      rcases hj with z | z <;> cases z
    · rw [List.getElem?_set_ne hij] at hj ej
      exact s.sub a ⟨j, e, hj, ej⟩
  io := fun j e hj => by
    obtain ⟨e1, d', h'⟩ := s.io j e hj
    have hij : i ≠ j := fun z => by
      subst z
      rw [ho] at h'
      cases h'
      exact hn d' rfl
    exact ⟨by rw [List.getElem?_set_ne hij]; exact e1, d', by rw [List.getElem?_set_ne hij]; exact h'⟩
  there := s.there
theorem setV_some {i : Nat} {d : D} {e2 : Ee} (h : setV en i d = some e2) : ∃ old, en[i]? = some old ∧ (∀ z, old ≠ .io z) ∧ e2 = en.set i (.val d) := by
  unfold setV at h
  split at h
  · cases h
  · cases h
  · rename_i old hn e
    cases h
    exact ⟨old, e, fun z q => hn z q, rfl⟩
/-- what came is put into the slot i -/
theorem asg_ok {en0 : Ee} {σ0 : L2.St} {H0 F0 : Hp} {own : Bool} {r : RV} {i : Nat} {e2 : Ee} {v : V} (R : Rel S.K en σ H F) (s : Step en0 σ0 H0 F0 en σ H F) (h : RpR S.K σ en H F r v) (n : New H0 r v) (g : asgS own r i en = some e2) :
    ∃ F2, Rel S.K e2 (σ.set i (some v)) H F2 ∧ Step en0 σ0 H0 F0 e2 (σ.set i (some v)) H F2 ∧ Leq F F2 ∧ (∀ a, F a = none → F2 a ≠ none → v = .ref a ∧ ((∃ d, r = .f d) ∨ Own en σ a)) ∧
      ∀ a, Own e2 (σ.set i (some v)) a → (v = .ref a ∧ ∃ d, r = .f d) ∨ Own en σ a := by
  unfold asgS at g
  split at g
  · rename_i d
    split at g
    · cases g
    · cases g
    · rename_i old hno0 ho
      have hno : ∀ z, old ≠ .io z := fun z q => hno0 z q
      cases g
      obtain ⟨p, ev, fp, nO, o, hp, ro⟩ := h
      subst ev
      have hlt : i < en.length := (List.getElem?_eq_some_iff.mp ho).1
      have hlt2 : i < σ.length := by rw [R.len]; exact hlt
      have back : ∀ (j : Nat) (e : D), i ≠ j → (en.set i (.own d))[j]? = some (.own e) ∨ (en.set i (.own d))[j]? = some (.io e) → en[j]? = some (.own e) ∨ en[j]? = some (.io e) := fun j e hij hj => by
        rw [List.getElem?_set_ne hij] at hj; exact hj
      refine ⟨F, { sub := R.sub, len := by rw [List.length_set, List.length_set]; exact R.len, val := fun j e hj => ?_, own := fun j e hj => ?_, inj := fun j k d1 d2 a hj hk ej ek => ?_ },
        { grow := s.grow, fresh := s.fresh, keep := s.keep, sub := fun a w => ?_, io := fun j e hj => ?_, there := s.there }, Leq.refl _, fun a z1 z2 => absurd z1 z2, fun a w => ?_⟩
      · by_cases hij : i = j
        · subst hij
          rw [List.getElem?_set_self hlt] at hj
          cases hj
        · rw [List.getElem?_set_ne hij] at hj ⊢
          exact R.val j e hj
      · by_cases hij : i = j
        · subst hij
          rw [List.getElem?_set_self hlt] at hj
          have ed : e = d := by rcases hj with z | z <;> cases z; rfl
          subst ed
          exact ⟨p, List.getElem?_set_self hlt2, fp, o, hp, ro⟩
        · obtain ⟨q, eq, rq⟩ := R.own j e (back j e hij hj)
          exact ⟨q, by rw [List.getElem?_set_ne hij]; exact eq, rq⟩
      · by_cases h1 : i = j
        · by_cases h2 : i = k
          · rw [← h1, ← h2]
          · subst h1
            rw [List.getElem?_set_self hlt2] at ej
            cases ej
            rw [List.getElem?_set_ne h2] at ek
            exact absurd ⟨k, d2, back k d2 h2 hk, ek⟩ nO
        · by_cases h2 : i = k
          · subst h2
            rw [List.getElem?_set_self hlt2] at ek
            cases ek
            rw [List.getElem?_set_ne h1] at ej
            exact absurd ⟨j, d1, back j d1 h1 hj, ej⟩ nO
          · rw [List.getElem?_set_ne h1] at ej
            rw [List.getElem?_set_ne h2] at ek
            exact R.inj j k d1 d2 a (back j d1 h1 hj) (back k d2 h2 hk) ej ek
      · obtain ⟨j, e, hj, ej⟩ := w
        by_cases hij : i = j
        · subst hij
          rw [List.getElem?_set_self hlt2] at ej
          cases ej
          exact .inl (n d _ rfl rfl)
        · rw [List.getElem?_set_ne hij] at ej
          exact s.sub a ⟨j, e, back j e hij hj, ej⟩
      · obtain ⟨e1, d', h'⟩ := s.io j e hj
        have hij : i ≠ j := fun z => by
          subst z
          rw [ho] at h'
          cases h'
          exact hno d' rfl
        exact ⟨by rw [List.getElem?_set_ne hij]; exact e1, d', by rw [List.getElem?_set_ne hij]; exact h'⟩
      · obtain ⟨j, e, hj, ej⟩ := w
        by_cases hij : i = j
        · subst hij
          rw [List.getElem?_set_self hlt2] at ej
          cases ej
          exact .inl ⟨rfl, _, rfl⟩
        · rw [List.getElem?_set_ne hij] at ej
          exact .inr ⟨j, e, back j e hij hj, ej⟩
  · split at g
    · rename_i d e' gv
      obtain ⟨⟨F2, R2, s2, r2, x1, x2⟩, x3⟩ := give_ex R s h n gv
      obtain ⟨old, ho, hno, e⟩ := setV_some g
      subst e
      have hlt : i < e'.length := (List.getElem?_eq_some_iff.mp ho).1
      refine ⟨F2, R2.setV hlt r2, s2.setV ho hno, x1, x2, fun a ⟨j, ej, hj, q⟩ => .inr ?_⟩
      by_cases hij : i = j
      · subst hij
        rw [List.getElem?_set_self hlt] at hj
        rcases hj with z | z <;> cases z
      · rw [List.getElem?_set_ne hij] at hj q
        exact x3 a ⟨j, ej, hj, q⟩
    · cases g

theorem ls_set {i : Nat} {own : Bool} {e : Ex} {te : TE} (he : LE S (wE S.C e) te) : LS S (wM S.C (.set i own e)) (tAsg te (gName i)) := by
  intro en σ H F De K R w ep
  refine he en σ H F _ _ K.xq R w ep.xq.ex fun r e1 v H1 F1 ⟨e2, g, k⟩ R1 s1 r1 n1 => ?_
  obtain ⟨F2, R2, s2, _⟩ := asg_ok R1 s1 r1 n1 g
  exact ep.nx e2 _ H1 F2 k R2 s2
theorem ls_par {i j : Nat} {o1 o2 : Bool} {a b : Ex} {ta tb : TE} (ha : LE S (wE S.C a) ta) (hb : LE S (wE S.C b) tb) : LS S (wM S.C (.par i j o1 o2 a b)) (tPar i j (tCons ta (tCons tb tNil))) := by
  intro en σ H F De K R w ep
  refine ha en σ H F _ _ K.xq R w ep.xq.ex fun r e1 v H1 F1 k1 R1 s1 r1 n1 => ?_
  refine hb e1 σ H1 F1 _ _ K.xq R1 k1 (ep.xq.ex.step s1) fun s e2 u H2 F2 ⟨_, hsi, e3, e4, g1, g2, k⟩ R2 s2 r2 n2 => ?_
  refine ⟨v, u, rfl, ?_⟩
  have r12 := r1.step s2
  obtain ⟨F3, R3, s3, x1, x2, x3⟩ := asg_ok R2 (s1.trans s2) r12 n1 g1
  have q2 : RpR S.K (σ.set i (some v)) e3 H2 F3 s u := by
    cases s with
    | v d => exact Rp.mono x1 r2
    | o k =>
      have r2' : σ[k]? = some (some u) := r2
      have hik : i ≠ k := fun z => hsi k rfl z.symm
      show (σ.set i (some v))[k]? = some (some u)
      rw [List.getElem?_set_ne hik]
      exact r2'
    | f d =>
      obtain ⟨p, eu, fp, nO, o, hp, ro⟩ := r2
      have h1p : H1 p = none := n2 d p rfl eu
      have vp : (∃ d, r = .f d) → v ≠ .ref p := fun ⟨d1, z⟩ z2 => by
        subst z
        obtain ⟨p1, e1', _, _, o1, ho1, _⟩ := r1
        rw [z2] at e1'
        cases e1'
        rw [h1p] at ho1
        cases ho1
      refine ⟨p, eu, ?_, fun w => ?_, o, hp, ro.mono x1⟩
      · cases z : F3 p with
        | none => rfl
        | some u' =>
          obtain ⟨y1, y2⟩ := x2 p fp (by rw [z]; simp)
          rcases y2 with y2 | y2
          · exact absurd y1 (vp y2)
          · exact absurd y2 nO
      · rcases x3 p w with ⟨y1, y2⟩ | y2
        · exact vp y2 y1
        · exact nO y2
  have q3 : New H s u := fun d p z1 z2 => s1.there p (n2 d p z1 z2)
  obtain ⟨F4, R4, s4, _⟩ := asg_ok R3 s3 q2 q3 g2
  exact ep.nx e4 _ H2 F4 k R4 s4
theorem ls_exp {e : Ex} {te : TE} (he : LE S (wE S.C e) te) : LS S (wM S.C (.exp e)) (tDrop te) := by
  intro en σ H F De K R w ep
  exact he en σ H F _ _ K.xq R w ep.xq.ex fun r e1 v H1 F1 k R1 s1 r1 n1 => ep.nx e1 σ H1 F1 k R1 s1
theorem ls_ret {e : Ex} {te : TE} (he : LE S (wE S.C e) te) : LS S (wM S.C (.ret e)) (tRet te) := by
  intro en σ H F De K R w ep
  exact he en σ H F _ _ K.xq R w ep.xq.ex fun r e1 v H1 F1 k R1 s1 r1 n1 => ep.rt r e1 σ v H1 F1 k R1 s1 r1 n1
theorem ls_retN : LS S (wM S.C .retN) tRetN := by
  intro en σ H F De K R w ep
  exact ep.rt (.v .non) en σ .non H F w R (Step.refl ..) .non New.v
theorem ls_pas : LS S (wM S.C .pas) tNext := fun en σ H F De K R w ep => ep.nx en σ H F w R (Step.refl ..)
theorem ls_brk : LS S (wM S.C .brk) tBreak := fun en σ H F De K R w ep => ep.bk en σ H F w R (Step.refl ..)
theorem ls_cnt : LS S (wM S.C .cnt) tCont := fun en σ H F De K R w ep => ep.ct en σ H F w R (Step.refl ..)
theorem ls_ife {c : Te} {a b : List Sm} {tt : TT} {t u : TS} (hc : LT S (wT S.C c) tt) (ha : LS S (wMs S.C a) t) (hb : LS S (wMs S.C b) u) : LS S (wM S.C (.ife c a b)) (tIfS tt t u) := by
  intro en σ H F De K R w ep
  refine hc en σ H F _ _ K.xq R w ep.xq.ex fun k e1 H1 F1 ⟨k1, k2⟩ R1 s1 => ?_
  cases k with
  | true => exact iteT (ha e1 σ H1 F1 De K R1 (k1 rfl) (ep.step s1))
  | false => exact iteF (hb e1 σ H1 F1 De K R1 (k2 rfl) (ep.step s1))
theorem ls_nil : LS S (wMs S.C []) tNext := fun en σ H F De K R w ep => ep.nx en σ H F w R (Step.refl ..)
theorem ls_cons {s : Sm} {r : List Sm} {t u : TS} (hs : LS S (wM S.C s) t) (hr : LS S (wMs S.C r) u) : LS S (wMs S.C (s :: r)) (tSeq t u) := by
  intro en σ H F De K R w ep
  exact hs en σ H F _ _ R w
    { nx := fun e1 σ1 H1 F1 k R1 s1 => hr e1 σ1 H1 F1 De K R1 k (ep.step s1), bk := ep.bk, ct := ep.ct, rt := ep.rt, xq := ep.xq }
theorem ls_whl {c : Te} {b : List Sm} {tt : TT} {t : TS} (hc : LT S (wT S.C c) tt) (hb : LS S (wMs S.C b) t) : LS S (wM S.C (.whl c b)) (tWhile tt t) := by
  intro en σ H F De K R w ep
  obtain ⟨I, ⟨m0, i0⟩, turn⟩ := w
  refine ⟨fun m σ' H' => ∃ e1 F', Rel S.K e1 σ' H' F' ∧ Step en σ H F e1 σ' H' F' ∧ I m e1, ⟨m0, en, F, R, Step.refl .., i0⟩, ?_⟩
  rintro m σ' H' ⟨e1, F', R1, s1, im⟩
  refine hc e1 σ' H' F' _ _ K.xq R1 (turn m e1 im) (ep.xq.step s1).ex fun k e2 H2 F2 ⟨k1, k2⟩ R2 s2 => ?_
  cases k with
  | false => exact iteF (ep.nx e2 σ' H2 F2 (k2 rfl) R2 (s1.trans s2))
  | true =>
    refine iteT ⟨fun σ3 H3 => ∃ m', m' < m ∧ ∃ e3 F3, Rel S.K e3 σ3 H3 F3 ∧ Step en σ H F e3 σ3 H3 F3 ∧ I m' e3, fun σ3 H3 ⟨m', hm, z⟩ => ⟨m', hm, z⟩, ?_⟩
    have s12 := s1.trans s2
    have ep2 := ep.step s12
    exact hb e2 σ' H2 F2 _ _ R2 (k1 rfl)
      { nx := fun e3 σ3 H3 F3 ⟨m', hm, i3⟩ R3 s3 => ⟨m', hm, e3, F3, R3, s12.trans s3, i3⟩
        ct := fun e3 σ3 H3 F3 ⟨m', hm, i3⟩ R3 s3 => ⟨m', hm, e3, F3, R3, s12.trans s3, i3⟩
        bk := fun e3 σ3 H3 F3 k R3 s3 => ep2.nx e3 σ3 H3 F3 k R3 s3
        rt := ep2.rt
        xq := ep2.xq }
theorem give_drf {r : RV} {e0 e1 : Ee} {x : D} (g : give r e0 = some (x, e1)) : drf e0 r = some x := by
  unfold give at g
  split at g
  · cases g; rfl
  · cases g; rfl
  · rename_i i
    split at g
    · rename_i d hd
      cases g
      exact own_ownD (.inl hd)
    · cases g
theorem li_frz {s : Sr} {wi : TI} (hs : LI S (wS S.C s) wi) : LI S (wS S.C s) wi := hs
theorem ls_for {i : Nat} {s : Sr} {b : List Sm} {wi : TI} {t : TS} (hs : LI S (wS S.C s) wi) (hb : LS S (wMs S.C b) t) : LS S (wM S.C (.for_ i s b)) (tFor wi (gName i) t) := by
  intro en σ H F De K R w ep
  refine hs en σ H F _ _ K.xq R w ep.xq.ex fun r ds e0 v H1 F1 J ⟨x, e1, gv, g0⟩ R1 s1 r1 wk nf => ?_
  obtain ⟨F2, R2, s2, rx⟩ := give_ok R1 s1 r1 (fun d p z _ => absurd z (nf d)) gv
  have edr := give_drf gv
  let Wv : Nat → Nat → L2.St → Hp → Prop := fun n m σ' Hc => m = ds.length - n ∧ n ≤ ds.length ∧ ∃ e2 F', Rel S.K e2 σ' Hc F' ∧ Step en σ H F e2 σ' Hc F' ∧ Rp S.K F' v x ∧
    goF (fun d en K' => ∃ e1, setV en i d = some e1 ∧ wMs S.C b e1 K') (ds.drop n) e2 K
  refine ⟨Wv, ⟨_, rfl, Nat.zero_le _, e1, F2, R2, s2, rx, by rw [List.drop_zero]; exact g0⟩, ?_⟩
  rintro n m σ' Hc ⟨rfl, hn, e2, F', R', s', rv, g⟩
  obtain ⟨w1, w2⟩ := wk (.v x) e2 σ' Hc F' R' rv edr.symm
  by_cases hlt : n < ds.length
  · obtain ⟨jg, jy⟩ := w1 n hlt
    refine .inr ⟨jg, Wv (n + 1) (ds.length - (n + 1)), fun σ3 H' p' => ⟨_, by omega, p'⟩, fun y H' z => ?_⟩
    obtain ⟨F0, R0, s0, d, hd, rd⟩ := jy y H' z
    replace s' := s'.trans s0
    replace rv := rv.mono s0.grow
    clear R'
    have R' := R0
    rw [List.drop_eq_getElem_cons hlt] at g
    obtain ⟨e3, sv, g2⟩ := g
    rw [List.getElem?_eq_getElem hlt] at hd
    have ed : ds[n] = d := Option.some.inj hd
    rw [ed] at sv
    obtain ⟨old, ho, hno, e⟩ := setV_some sv
    subst e
    have R3 := R'.setV (List.getElem?_eq_some_iff.mp ho).1 rd
    have s3 := s'.setV (v := y) (d := d) ho hno
    have ep3 := ep.step s3
    exact hb _ _ H' F0 _ _ R3 g2
      { nx := fun e4 σ4 H4 F4 k R4 s4 => ⟨rfl, hlt, e4, F4, R4, s3.trans s4, rv.mono s4.grow, k⟩
        ct := fun e4 σ4 H4 F4 k R4 s4 => ⟨rfl, hlt, e4, F4, R4, s3.trans s4, rv.mono s4.grow, k⟩
        bk := fun e4 σ4 H4 F4 k R4 s4 => ep3.nx e4 σ4 H4 F4 k R4 s4
        rt := ep3.rt
        xq := ep3.xq }
  · have en' : n = ds.length := by omega
    refine .inl ⟨w2 n (by omega), ?_⟩
    rw [en', List.drop_length] at g
    exact ep.nx e2 σ' Hc F' g R' s'
end
end Vg

set_option Elab.async false
set_option linter.all false
set_option maxRecDepth 100000
namespace Vg
open PySem PySem.Spec PyProof.Rows L2
def clV (S : Sr0) : Cn → V
  | .own c => match S.cl c with
    | some C => .ref C
    | none => .non
  | .blt b => .ty b.nm
def clU (S : Sr0) : Cn → Value
  | .own c => match S.cl c with
    | some C => .ref C
    | none => .none
  | .blt b => .type b.nm
/-- what the written part says of the own classes -/
structure ClOk (S : Sr0) : Prop where
  xk : ∀ c ns, S.C.xk c = some ns → ∃ C, S.cl c = some C ∧ clK S.K c = some C ∧ XCls S.K C ∧ ∀ n ∈ ns, PySem.W.findIn S.K (.ref C) n = some none
  sub : ∀ c d b C, S.C.sub c d = some b → S.cl c = some C → (∀ o, d = .own o → (S.cl o).isSome = true) ∧ PySem.W.kitOne S.K (.ref C) (clU S d) = some b
  exm : ∀ c d b C, S.C.sub c (.own d) = some b → S.cl c = some C → PySem.W.exmOne S.K (.ref C) (clU S (.own d)) = some b
theorem clvu {S : Sr0} {d : Cn} (h : ∀ o, d = .own o → (S.cl o).isSome = true) : ClsV (clV S d) (clU S d) := by
  cases d with
  | own c =>
    obtain ⟨C, e⟩ := Option.isSome_iff_exists.mp (h c rfl)
    unfold clV clU
    simp only [e]
    exact .own C
  | blt b => exact .ty b.nm
theorem subs_kit {S : Sr0} (K : ClOk S) {c : Str} {C : Addr} (hc : S.cl c = some C) : ∀ {cs : List Cn} {b : Bool}, subs S.C c cs = some b → Paired ClsV (cs.map (clV S)) (cs.map (clU S)) ∧ PySem.W.kitAny S.K (.ref C) (cs.map (clU S)) = some b
  | [], b, h => by cases h; exact ⟨.nil, rfl⟩
  | d :: cs, b, h => by
    unfold subs at h
    split at h
    · rename_i b1 h1
      split at h
      · rename_i b2 h2
        cases h
        obtain ⟨p1, p2⟩ := K.sub c d b1 C h1 hc
        obtain ⟨q1, q2⟩ := subs_kit K hc h2
        refine ⟨.cons (clvu p1) q1, ?_⟩
        show PySem.W.kitAny S.K (.ref C) (clU S d :: cs.map (clU S)) = some (b1 || b2)
        unfold PySem.W.kitAny
        rw [p2]
        cases b1 with
        | true => rfl
        | false => exact q2
      · cases h
    · cases h
theorem subs_exm {S : Sr0} (K : ClOk S) {c : Str} {C : Addr} (hc : S.cl c = some C) : ∀ {cs : List Str} {b : Bool}, subs S.C c (cs.map .own) = some b → PySem.W.exmAny S.K (.ref C) (cs.map fun d => clU S (.own d)) = some b
  | [], b, h => by cases h; rfl
  | d :: cs, b, h => by
    rw [List.map_cons] at h
    unfold subs at h
    split at h
    · rename_i b1 h1
      split at h
      · rename_i b2 h2
        cases h
        have p := K.exm c d b1 C h1 hc
        have q := subs_exm K hc h2
        rw [List.map_cons]
        unfold PySem.W.exmAny
        rw [p, q]
      · cases h
    · cases h
theorem RpFs.look {K : PySem.W.Frag} {F : Hp} {n : Str} : ∀ {vs : List (Str × V)} {fs : List (Str × D)} {d : D}, RpFs K F vs fs → fs.lookup n = some d → ∃ v, vs.lookup n = some v ∧ Rp K F v d
  | _, _, _, .nil, e => by cases e
  | (k, v) :: vs, (_, d0) :: fs, d, .cons h a, e => by
    rw [List.lookup_cons] at e ⊢
    split at e
    · cases e
      exact ⟨v, rfl, h⟩
    · exact a.look e
theorem RpFs.zip {K : PySem.W.Frag} {F : Hp} : ∀ {ns : List Str} {vs : List V} {ds : List D}, RpAll K F vs ds → RpFs K F (ns.zip vs) (ns.zip ds)
  | [], _, _, _ => .nil
  | n :: ns, _, _, .nil => .nil
  | n :: ns, _, _, .cons h a => .cons h (RpFs.zip a)
section
variable {S : Sr0} {ta tb : TE}
theorem excT {H F : Hp} {v : V} {c : Str} {fs : List (Str × D)} (h : RpT S.K H F v (.exc c fs)) : Rp S.K F v (.exc c fs) := by
  rcases h with h | ⟨p, o, rfl, ho, q⟩
  · exact h
  · cases q
theorem le_fld {e : Ex} {n : Str} (K : ClOk S) (he : LE S (wE S.C e) ta) : LE S (wE S.C (.fld e n)) (tFld S.K n ta) := by
  intro en σ H F Q Kq Xq R w xp q
  refine he en σ H F _ _ Xq R w xp fun r e1 v H1 F1 ⟨c, fs, d, ns, ex, hk, hn, hl, k1⟩ R1 s1 r1 n1 => ?_
  obtain ⟨C, e1c, e2c, T, no⟩ := K.xk c ns hk
  have rx := excT (r1.deref R1 ex)
  cases rx with
  | ex0 _ _ => cases hl
  | @ex1 a C' d' c' vs fs' hc ha hd rf =>
    rw [e2c] at hc
    cases hc
    obtain ⟨u, hu, ru⟩ := rf.look hl
    exact ⟨a, C, d', vs, u, rfl, R1.sub _ _ ha, T, no n hn, R1.sub _ _ hd, hu, q (.v d) e1 u H1 F1 k1 R1 s1 ru New.v⟩
/-- the class, or the display of classes, that isinstance is asked of -/
def tClz (S : Sr0) (cs : List Cn) : Bool → TE
  | false => match cs with
    | [c] => tC (clV S c)
    | _ => fun _ _ _ => False
  | true => tTup (cs.foldr (fun c t => tCons (tC (clV S c)) t) tNil)
theorem consts_run {S : Sr0} {σ : L2.St} {H : Hp} : ∀ {cs : List Cn} {Q : List V → Hp → Prop}, Q (cs.map (clV S)) H → cs.foldr (fun c t => tCons (tC (clV S c)) t) tNil σ H Q
  | [], _, h => h
  | c :: cs, Q, h => consts_run (cs := cs) (Q := fun vs H' => Q (clV S c :: vs) H') h
theorem le_isx {e : Ex} {cs : List Cn} {tup : Bool} (K : ClOk S) (he : LE S (wE S.C e) ta) : LE S (wE S.C (.isx e cs tup)) (tCB (rIsx S.K) (tCons ta (tCons (tClz S cs tup) tNil))) := by
  intro en σ H F Q Kq Xq R w xp q
  refine he en σ H F _ _ Xq R w xp fun r e1 v H1 F1 ⟨c, fs, b, ns, ex, hk, hs, hox, k1⟩ R1 s1 r1 n1 => ?_
  unfold isxOk at hox
  rw [Bool.and_eq_true, decide_eq_true_eq] at hox
  obtain ⟨hz, hox⟩ := hox
  have h1 : tup = false → ∃ c, cs = [c] := fun et => by
    subst et
    rw [Bool.false_or, decide_eq_true_eq] at hox
    exact List.length_eq_one_iff.mp hox
  obtain ⟨C, e1c, e2c, T, no⟩ := K.xk c ns hk
  have rx := excT (r1.deref R1 ex)
  obtain ⟨p1, p2⟩ := subs_kit K e1c hs
  have inst : ∃ a od, v = .ref a ∧ H1 a = some (exV C od a) ∧ ∀ d, od = some d → ∃ fs, H1 d = some (.xd fs) := by
    cases rx with
    | @ex0 a C' _ hc ha =>
      rw [e2c] at hc
      cases hc
      exact ⟨a, none, rfl, R1.sub _ _ ha, fun d z => by cases z⟩
    | @ex1 a C' d' c' vs fs' hc ha hd rf =>
      rw [e2c] at hc
      cases hc
      exact ⟨a, some d', rfl, R1.sub _ _ ha, fun d z => by cases z; exact ⟨vs, R1.sub _ _ hd⟩⟩
  obtain ⟨a, od, ev, ea, hod⟩ := inst
  subst ev
  cases tup with
  | false =>
    obtain ⟨d, ed⟩ := h1 rfl
    subst ed
    refine ⟨a, C, od, clV S d, b, rfl, ea, T, hod, .inl ?_, q (.v (.bl b)) e1 _ H1 F1 k1 R1 s1 (.bl b) New.v⟩
    have one : PySem.W.kitOne S.K (.ref C) (clU S d) = some b := by
      unfold subs at hs
      split at hs
      · rename_i b1 hb1
        obtain ⟨_, z⟩ := K.sub c d b1 C hb1 e1c
        have : subs S.C c [] = some false := rfl
        rw [this] at hs
        simp only at hs
        cases hs
        rw [Bool.or_false]
        exact z
      · cases hs
    cases p1 with
    | cons z _ => exact ⟨_, z, one⟩
  | true =>
    show cs.foldr (fun c t => tCons (tC (clV S c)) t) tNil σ H1 _
    refine consts_run ⟨?_, fun p hp => ?_⟩
    · rw [List.length_map, sizeLine_eq]; omega
    · have hap : a ≠ p := ne_of_none ea hp
      refine ⟨a, C, od, .ref p, b, rfl, by rw [upd_ne hap]; exact ea, T, fun d z => ?_, .inr ⟨p, _, _, rfl, upd_same, p1, p2⟩, ?_⟩
      · obtain ⟨fs', z'⟩ := hod d z
        exact ⟨fs', by rw [upd_ne (ne_of_none z' hp)]; exact z'⟩
      · exact q (.v (.bl b)) e1 _ _ F1 k1 (R1.alloc hp) (s1.trans (Step.alloc hp)) (.bl b) New.v
/-- an own class called, as a value -/
theorem le_mkx {c : Str} {es kes : Es} {ks : List Str} {fl : List (Nat ⊕ Str)} {C : Addr} {ns : List Str} {t tk : TA} (g : GvOk S) (K : ClOk S) (hc : S.cl c = some C) (hk : S.C.xk c = some ns) (hs : LA S (wEs S.C es) t) (hkw : LA S (wEs S.C kes) tk) :
    LE S (wE S.C (.mkx c es ks kes fl)) (tMkx C ns es.len ks.length (fun vs zs => vs ++ fillV S.gv fl zs) t tk) := by
  intro en σ H F Q Kq Xq R ⟨_, w⟩ xp q
  refine hs en σ H F _ _ Xq R w xp fun ds e1 vs H1 F1 k1 R1 s1 a1 => ?_
  refine hkw e1 σ H1 F1 _ _ Xq R1 k1 (xp.step s1) fun dz e2 zs H2 F2 ⟨l1, l2, hz, k2⟩ R2 s2 a2 => ?_
  obtain ⟨dd, hd, ns', hk', hln, k3⟩ := fillW_ex k2
  rw [hk] at hk'
  cases hk'
  obtain ⟨C', e1c, e2c, T, no⟩ := K.xk c ns hk
  rw [hc] at e1c
  cases e1c
  have av := (a1.mono s2.grow).app (fill_ok g a2 hd)
  have s12 := s1.trans s2
  refine ⟨⟨by rw [a1.length]; exact l1, by rw [a2.length]; exact l2, by rw [a1.length]; exact hz, by rw [av.length]; exact hln.symm⟩, ?_⟩
  cases ns with
  | nil =>
    refine .inl ⟨rfl, fun a ha => ?_⟩
    have hF := R2.nF ha
    refine q (.v (.exc c [])) e2 _ _ (upd F2 a (exV C none a)) k3 ((R2.alloc ha).freeze hF upd_same (R2.notOwn ha)) (s12.trans ((Step.alloc ha).freeze hF (.inl ha))) ?_ New.v
    exact .ex0 e2c upd_same
  | cons n ns =>
    refine .inr ⟨by simp, fun a d ha hdn hne => ?_⟩
    have hFd := R2.nF hdn
    have Rd := (R2.alloc (o := .xd ((n :: ns).zip (vs ++ fillV S.gv fl zs))) hdn).freeze hFd upd_same (R2.notOwn hdn)
    have Sd := (Step.alloc (en := e2) (σ := σ) (H := H2) (F := F2) (o := .xd ((n :: ns).zip (vs ++ fillV S.gv fl zs))) hdn).freeze (o := .xd ((n :: ns).zip (vs ++ fillV S.gv fl zs))) hFd (.inl hdn)
    have ha' : upd H2 d (.xd ((n :: ns).zip (vs ++ fillV S.gv fl zs))) a = none := by rw [upd_ne (Ne.symm hne)]; exact ha
    have hFa : upd F2 d (.xd ((n :: ns).zip (vs ++ fillV S.gv fl zs))) a = none := by rw [upd_ne (Ne.symm hne)]; exact R2.nF ha
    refine q (.v (.exc c ((n :: ns).zip (ds ++ dd)))) e2 _ _ (upd (upd F2 d (.xd ((n :: ns).zip (vs ++ fillV S.gv fl zs)))) a (exV C (some d) a)) k3 ((Rd.alloc ha').freeze hFa upd_same (Rd.notOwn ha')) (s12.trans (Sd.trans ((Step.alloc ha').freeze hFa (.inl ha')))) ?_ New.v
    refine .ex1 e2c upd_same (by rw [upd_ne hne]; exact upd_same) ((RpFs.zip av).mono ?_)
    exact (leqUpd hFd).trans (leqUpd hFa)
theorem ls_rai {c : Str} {es : Es} {C : Addr} {ns : List Str} {t : TA} (K : ClOk S) (hc : S.cl c = some C) (hk : S.C.xk c = some ns) (hs : LA S (wEs S.C es) t) : LS S (wM S.C (.rai c es)) (fun _ σ H => tMkr C ns es.len t σ H fun cls d H' => S.W cls d σ H') := by
  intro en σ H F De Kx R ⟨_, w⟩ ep
  refine hs en σ H F _ _ Kx.xq R w ep.xq.ex fun ds e1 vs H1 F1 ⟨ns', hk', hl, hl2, hz, k1⟩ R1 s1 a1 => ?_
  rw [hk] at hk'
  cases hk'
  refine ⟨⟨by rw [a1.length]; exact hl2, by rw [a1.length]; exact hz, by rw [a1.length]; exact hl.symm⟩, ?_⟩
  cases ns with
  | nil => exact .inl ⟨rfl, ep.xq c C _ none e1 σ H1 F1 k1 hc R1 s1 (.inl ⟨rfl, rfl⟩) fun d z => by cases z⟩
  | cons n ns =>
    refine .inr ⟨by simp, fun d hd => ?_⟩
    exact ep.xq c C _ (some d) e1 σ _ F1 k1 hc (R1.alloc hd) (s1.trans (Step.alloc hd)) (.inr ⟨d, _, rfl, upd_same, R1.nF hd, RpFs.zip a1⟩) fun d' z => by
      cases z
      exact s1.there d hd
/-- the reading of a suite; slot n holds the exception -/
def tFlds (K : PySem.W.Frag) (n : Nat) : List Str → TA
  | [] => tNil
  | f :: fs => tCons (tFld K f (tVar n)) (tFlds K n fs)
def suT (S : Sr0) (n : Nat) : Su → TS
  | .keep j => tAsg (tVar n) (gName j)
  | .app j fs tup => tDrop (tBM S.K "list" rAppend (tVar j) (tCons (match tup, fs with
    | true, fs => tTup (tFlds S.K n fs)
    | false, [f] => tFld S.K f (tVar n)
    | false, _ => fun _ _ _ => False) tNil))
theorem flds_run {n : Nat} {σ : L2.St} {H F : Hp} {a C d : Addr} {vs : List (Str × V)} {fs : List (Str × D)} (hv : σ[n]? = some (some (.ref a))) (ea : H a = some (exV C (some d) a)) (T : XCls S.K C) (ed : H d = some (.xd vs)) (rf : RpFs S.K F vs fs) :
    ∀ {ns : List Str} {ds : List D} {Q : List V → Hp → Prop}, (∀ f ∈ ns, PySem.W.findIn S.K (.ref C) f = some none) → fldsD fs ns = some ds → (∀ us, RpAll S.K F us ds → Q us H) → tFlds S.K n ns σ H Q
  | [], _, Q, _, e, q => by cases e; exact q [] .nil
  | f :: ns, ds, Q, no, e, q => by
    unfold fldsD at e
    split at e
    · rename_i x xs h1 h2
      cases e
      obtain ⟨u, hu, ru⟩ := rf.look h1
      refine ⟨.ref a, hv, a, C, d, vs, u, rfl, ea, T, no f (List.mem_cons_self ..), ed, hu, ?_⟩
      exact flds_run hv ea T ed rf (fun g hg => no g (List.mem_cons_of_mem _ hg)) h2 fun us hus => q (u :: us) (.cons ru hus)
    · cases e
/-- a slot that is no object's is emptied -/
theorem Rel.unset {en : Ee} {σ : L2.St} {H F : Hp} {n : Nat} {d : D} (R : Rel S.K en σ H F) (h : en[n]? = some (.val d)) : Rel S.K (en.set n .un) (σ.set n none) H F := by
  have hlt : n < en.length := (List.getElem?_eq_some_iff.mp h).1
  exact
    { sub := R.sub
      len := by rw [List.length_set, List.length_set]; exact R.len
      val := fun j e hj => by
        by_cases hij : n = j
        · subst hij; rw [List.getElem?_set_self hlt] at hj; cases hj
        · rw [List.getElem?_set_ne hij] at hj ⊢; exact R.val j e hj
      own := fun j e hj => by
        by_cases hij : n = j
        · subst hij; rw [List.getElem?_set_self hlt] at hj; rcases hj with z | z <;> cases z
        · rw [List.getElem?_set_ne hij] at hj ⊢; exact R.own j e hj
      inj := fun j k d1 d2 p hj hk ej ek => by
        by_cases h1 : n = j
        · subst h1; rw [List.getElem?_set_self hlt] at hj; rcases hj with z | z <;> cases z
        · by_cases h2 : n = k
          · subst h2; rw [List.getElem?_set_self hlt] at hk; rcases hk with z | z <;> cases z
          · rw [List.getElem?_set_ne h1] at hj ej
            rw [List.getElem?_set_ne h2] at hk ek
            exact R.inj j k d1 d2 p hj hk ej ek }
theorem Step.unset {en0 en : Ee} {σ0 σ : L2.St} {H0 F0 H F : Hp} {n : Nat} {d : D} (s : Step en0 σ0 H0 F0 en σ H F) (h : en[n]? = some (.val d)) : Step en0 σ0 H0 F0 (en.set n .un) (σ.set n none) H F where
  grow := s.grow
  fresh := s.fresh
  keep := s.keep
  sub := fun a ⟨j, e, hj, ej⟩ => by
    have hlt : n < en.length := (List.getElem?_eq_some_iff.mp h).1
    by_cases hij : n = j
    · subst hij; rw [List.getElem?_set_self hlt] at hj; rcases hj with z | z <;> cases z
    · rw [List.getElem?_set_ne hij] at hj ej; exact s.sub a ⟨j, e, hj, ej⟩
  io := fun j e hj => by
    obtain ⟨e1, d', h'⟩ := s.io j e hj
    have hij : n ≠ j := fun z => by subst z; rw [h] at h'; cases h'
    exact ⟨by rw [List.getElem?_set_ne hij]; exact e1, d', by rw [List.getElem?_set_ne hij]; exact h'⟩
  there := s.there
/-- the slot n is no caller's object -/
theorem setN_some {en : Ee} {n : Nat} {d : D} (h : ∃ d, setV en n d = some (en.set n (.val d))) : ∃ old, en[n]? = some old ∧ ∀ z, old ≠ .io z := by
  obtain ⟨d, h⟩ := h
  obtain ⟨old, h1, h2, _⟩ := setV_some h
  exact ⟨old, h1, h2⟩
theorem su_run {su : Su} {n : Nat} {x : Str} {ns : List Str} {fs : List (Str × D)} {en en0 : Ee} {σ σ0 : L2.St} {H0 F0 H F : Hp} {a : Addr} {Kn : Ee → Prop} {De : Ends} (K : ClOk S) (hk : S.C.xk x = some ns) (R : Rel S.K en σ H F) (s : Step en0 σ0 H0 F0 en σ H F) (r : Rp S.K F (.ref a) (.exc x fs))
    (w : suW su ns n x fs en Kn) (q : ∀ e2 σ2 H2 F2, Kn e2 → Rel S.K e2 σ2 H2 F2 → Step en0 σ0 H0 F0 e2 σ2 H2 F2 → De.nx σ2 H2) :
    suT S n su { nx := fun σ' H' => De.nx (σ'.set n none) H', rt := fun _ _ => False, bk := fun _ _ => False, ct := fun _ _ => False } (σ.set n (some (.ref a))) H := by
  obtain ⟨w0, w⟩ := w
  obtain ⟨old, ho, hno⟩ := setN_some (d := .non) w0
  have hlt : n < en.length := (List.getElem?_eq_some_iff.mp ho).1
  have hltσ : n < σ.length := by rw [R.len]; exact hlt
  have R1 := R.setV hlt r
  have s1 := s.setV (v := .ref a) (d := .exc x fs) ho hno
  have at1 : (σ.set n (some (V.ref a)))[n]? = some (some (.ref a)) := List.getElem?_set_self hltσ
  have at2 : (en.set n (Slot.val (.exc x fs)))[n]? = some (.val (.exc x fs)) := List.getElem?_set_self hlt
  cases su with
  | keep j =>
    obtain ⟨hnj, e2, g, k⟩ := w
    obtain ⟨oldj, hoj, hnoj, ee⟩ := setV_some g
    subst ee
    have hoj1 : (en.set n (Slot.val (.exc x fs)))[j]? = some oldj := by rw [List.getElem?_set_ne hnj]; exact hoj
    have hltj : j < (en.set n (Slot.val (.exc x fs))).length := (List.getElem?_eq_some_iff.mp hoj1).1
    have R2 := R1.setV hltj r
    have s2 := s1.setV (v := .ref a) (d := .exc x fs) hoj1 hnoj
    have at3 : ((en.set n (Slot.val (.exc x fs))).set j (.val (.exc x fs)))[n]? = some (.val (.exc x fs)) := by rw [List.getElem?_set_ne (Ne.symm hnj)]; exact at2
    refine ⟨.ref a, at1, ?_⟩
    show De.nx (((σ.set n (some (V.ref a))).set j (some (.ref a))).set n none) H
    refine q _ _ H F ?_ (R2.unset at3) (s2.unset at3)
    have : ((en.set n (Slot.val (.exc x fs))).set j (.val (.exc x fs))).set n .un = (en.set j (.val (.exc x fs))).set n .un := by
      rw [List.set_comm _ _ hnj, List.set_set]
    rw [this]
    exact k
  | app j gs tup =>
    obtain ⟨hnj, xs, ds, hd, hl, hf, hin, hgz, k⟩ := w
    have hd1 : ownD (en.set n (Slot.val (.exc x fs))) j = some (.lst xs) := by
      unfold ownD at hd ⊢
      rw [List.getElem?_set_ne hnj]
      exact hd
    obtain ⟨p, ep, _⟩ := R1.own j _ (ownD_own hd1)
    obtain ⟨C, e1c, e2c, T, no⟩ := K.xk x ns hk
    have back : ∀ (d' : D), (reOwn (en.set n (Slot.val (.exc x fs))) j d').set n .un = (reOwn en j d').set n .un := fun d' => by
      unfold reOwn
      rw [List.getElem?_set_ne hnj]
      rcases ownD_own hd with h | h <;> (rw [h]; simp only; rw [List.set_comm _ _ hnj, List.set_set])
    have at4 : ∀ (d' : D), (reOwn (en.set n (Slot.val (.exc x fs))) j d')[n]? = some (.val (.exc x fs)) := fun d' => by
      unfold reOwn
      split
      · rw [List.getElem?_set_ne (Ne.symm hnj)]; exact at2
      · rw [List.getElem?_set_ne (Ne.symm hnj)]; exact at2
      · exact at2
    refine ⟨.ref p, ep, tyV_of R1 (RpR.deref (r := .o j) R1 ep hd1) rfl (.inl rfl), ?_⟩
    -- the value handed in, and then the append
    have fin : ∀ {d : D} {v : V} {H2 F2 : Hp}, Rel S.K (en.set n (Slot.val (.exc x fs))) (σ.set n (some (.ref a))) H2 F2 → Step en0 σ0 H0 F0 (en.set n (Slot.val (.exc x fs))) (σ.set n (some (.ref a))) H2 F2 → Rp S.K F2 v d → Kn ((reOwn en j (.lst (xs ++ [d]))).set n .un) →
        rAppend (.ref p) [v] H2 fun _ H3 => De.nx ((σ.set n (some (.ref a))).set n none) H3 := fun {d v H2 F2} R2 s2 rv kn => by
      have eA : rMth S.K .append = rAppend := rfl
      rw [← eA]
      refine mut_ok (S := S) (m := .append) (ds := [d]) (Kq := fun t d' => t = .v .non ∧ d' = .lst (xs ++ [d])) R2 hd1 ep (.cons rv .nil) ⟨hl, rfl, rfl⟩ fun t d' u p' o ⟨_, ed⟩ ep' ro _ => ?_
      subst ed
      cases ep'
      refine q _ _ _ F2 ?_ ((R2.write hd1 ep ro).unset (at4 _)) ((s2.trans (Step.write R2 hd1 ep)).unset (at4 _))
      rw [back]
      exact kn
    cases r with
    | ex0 _ _ =>
      -- no fields at all
      cases gs with
      | nil =>
        cases hf
        cases tup with
        | true =>
          refine ⟨by show (0 : Nat) ≤ sizeLine; exact Nat.zero_le _, fun pt hp => ?_⟩
          have R2 := (R1.alloc (o := .tup []) hp).freeze (R1.nF hp) upd_same (R1.notOwn hp)
          have s2 := s1.trans ((Step.alloc (o := .tup []) hp).freeze (o := .tup []) (R1.nF hp) (.inl hp))
          exact fin R2 s2 (.tup (SqT.of upd_same) .nil) k
        | false =>
          obtain ⟨d, ed, _⟩ := k
          cases ed
      | cons f gs => unfold fldsD at hf; cases hf
    | @ex1 a' C' dd c' vs fs' hc ha hdd rf =>
      rw [e2c] at hc
      cases hc
      have run := fun (gs' : List Str) (ds' : List D) (hsub : ∀ f ∈ gs', f ∈ ns) (hf' : fldsD fs gs' = some ds') {Q : List V → Hp → Prop} => flds_run (S := S) (Q := Q) at1 (R1.sub _ _ ha) T (R1.sub _ _ hdd) rf (fun f hm => no f (hsub f hm)) hf'
      cases tup with
      | true =>
        show tFlds S.K n gs _ _ _
        refine run gs ds hin hf fun us hus => ⟨?_, fun pt hp => ?_⟩
        · rw [hus.length]
          have : ∀ {gs : List Str} {ds : List D}, fldsD fs gs = some ds → ds.length = gs.length := by
            intro gs
            induction gs with
            | nil => intro ds h; cases h; rfl
            | cons f gs ih =>
              intro ds h
              unfold fldsD at h
              split at h
              · rename_i h1 h2
                cases h
                rw [List.length_cons, List.length_cons, ih h2]
              · cases h
          rw [this hf]
          rw [sizeLine_eq]; omega
        · have R2 := (R1.alloc (o := .tup us) hp).freeze (R1.nF hp) upd_same (R1.notOwn hp)
          have s2 := s1.trans ((Step.alloc (o := .tup us) hp).freeze (o := .tup us) (R1.nF hp) (.inl hp))
          exact fin R2 s2 (.tup (SqT.of upd_same) (hus.mono (leqUpd (R1.nF hp)))) k
      | false =>
        obtain ⟨d, ed, kn⟩ := k
        subst ed
        cases gs with
        | nil => cases hf
        | cons f gs =>
          cases gs with
          | cons g gs =>
            unfold fldsD at hf
            split at hf
            · rename_i h1 h2
              unfold fldsD at h2
              split at h2 <;> cases h2
              cases hf
            · cases hf
          | nil =>
            refine run [f] [d] hin hf (Q := fun vs H' => rAppend (.ref p) vs H' _) fun us hus => ?_
            cases hus with
            | cons ru rn =>
              cases rn
              exact fin R1 s1 ru kn
end
end Vg
namespace Vg
open PySem PySem.Spec PyProof.Rows L2
section
variable {S : Sr0}
/-- the classes of a clause -/
def csU (S : Sr0) (cs : List Str) : List Value := cs.map fun d => clU S (.own d)
/-- the wish about exceptions within a try -/
def wTry (S : Sr0) (n : Nat) (cs : List Str) (su : Su) (De : Ends) : WX := wTr S.K (csU S cs) n (fun _ _ _ => suT S n su) S.W De
theorem ls_trk {n : Nat} {cs : List Str} {tup : Bool} {su : Su} {b : List Sm} {tb : WX → TS} (K : ClOk S) (hb : ∀ W, LS { S with W := W } (wMs S.C b) (tb W)) : LS S (wM S.C (.trk n cs tup su b)) (fun De σ H => tb (wTry S n cs su De) De σ H) := by
  intro en σ H F De Kx R w ep
  refine hb (wTry S n cs su De) en σ H F De _ R w
    { nx := ep.nx
      bk := ep.bk
      ct := ep.ct
      rt := ep.rt
      xq := fun x c fs oa en' σ' H' F' kx ec R' s' rx nx => ?_ }
  obtain ⟨k, ns, hk, hs, hy, hn⟩ := kx
  have ec' : S.cl x = some c := ec
  refine ⟨k, subs_exm K ec' hs, fun ek a C eC ha => ?_, fun _ => ⟨c, rfl⟩, fun ek => ep.xq x c fs oa en' σ' H' F' (hn ek) ec' R' s' rx nx⟩
  cases eC
  obtain ⟨C', e1c, e2c, T, no⟩ := K.xk x ns hk
  rw [ec'] at e1c
  cases e1c
  have R' : Rel S.K en' σ' H' F' := R'
  rcases rx with ⟨efs, eoa⟩ | ⟨d, vs, eoa, hd, hFd, rf⟩
  · subst efs eoa
    have hF := R'.nF ha
    exact su_run K hk ((R'.alloc (o := exV c none a) ha).freeze hF upd_same (R'.notOwn ha)) (s'.trans ((Step.alloc (o := exV c none a) ha).freeze (o := exV c none a) hF (.inl ha))) (.ex0 e2c upd_same) (hy ek)
      fun e2 σ2 H2 F2 kn R2 s2 => ep.nx e2 σ2 H2 F2 kn R2 s2
  · subst eoa
    have nO : ¬ Own en' σ' d := fun ⟨i, dd, hi, ei⟩ => by
      obtain ⟨p, ep', _, o, ho, ro⟩ := R'.own i dd hi
      rw [ei] at ep'
      cases ep'
      rw [hd] at ho
      cases ho
      cases ro
    have Rd := R'.freeze hFd hd nO
    have Sd := s'.freeze (o := .xd vs) hFd (.inl (nx d rfl))
    have hda : a ≠ d := fun z => by rw [z, hd] at ha; cases ha
    have hFa : upd F' d (.xd vs) a = none := Rd.nF ha
    refine su_run K hk ((Rd.alloc (o := exV c (some d) a) ha).freeze hFa upd_same (Rd.notOwn ha)) (Sd.trans ((Step.alloc (o := exV c (some d) a) ha).freeze (o := exV c (some d) a) hFa (.inl ha))) ?_ (hy ek)
      fun e2 σ2 H2 F2 kn R2 s2 => ep.nx e2 σ2 H2 F2 kn R2 s2
    exact .ex1 e2c upd_same (by rw [upd_ne (Ne.symm hda)]; exact upd_same) (rf.mono ((leqUpd hFd).trans (leqUpd hFa)))
end
end Vg

set_option Elab.async false
set_option linter.all false
set_option maxRecDepth 100000
namespace Vg
open PySem PySem.Spec PyProof.Rows L2
section
variable {S : Sr0}
/-- the targets of an unpacking -/
def gIs : List Nat → TGs
  | [] => gNil
  | i :: is => gCons (gName i) (gIs is)
theorem gIs_ok {De : Ends} {en0 : Ee} {σ0 : L2.St} {H0 F0 : Hp} {P : Ee → Prop} (nx : ∀ en' σ' H' F', P en' → Rel S.K en' σ' H' F' → Step en0 σ0 H0 F0 en' σ' H' F' → De.nx σ' H') : ∀ {is : List Nat} {ds : List D} {vs : List V} {en e2 : Ee} {σ : L2.St} {H F : Hp}, Rel S.K en σ H F → Step en0 σ0 H0 F0 en σ H F → RpAll S.K F vs ds → setAll is ds en = some e2 → P e2 → gIs is vs σ H De.nx
  | [], [], _, en, e2, σ, H, F, R, s, .nil, e, p => by
    cases e
    exact ⟨rfl, nx _ σ H F p R s⟩
  | i :: is, d :: ds, _, en, e2, σ, H, F, R, s, .cons h a, e, p => by
    unfold setAll at e
    cases q : setV en i d with
    | none => rw [q] at e; cases e
    | some e1 =>
      rw [q] at e
      obtain ⟨old, ho, hno, z⟩ := setV_some q
      subst z
      exact ⟨_, _, rfl, gIs_ok nx (R.setV (List.getElem?_eq_some_iff.mp ho).1 h) (s.setV ho hno) a e p⟩
  | [], _ :: _, _, _, _, _, _, _, _, _, _, e, _ => by cases e
  | _ :: _, [], _, _, _, _, _, _, _, _, _, e, _ => by cases e
theorem setAll_len : ∀ {is : List Nat} {ds : List D} {en e2 : Ee}, setAll is ds en = some e2 → is.length = ds.length
  | [], [], _, _, _ => rfl
  | i :: is, d :: ds, en, e2, e => by
    unfold setAll at e
    cases q : setV en i d with
    | none => rw [q] at e; cases e
    | some e1 => rw [q] at e; exact congrArg Nat.succ (setAll_len e)
  | [], _ :: _, _, _, e => by cases e
  | _ :: _, [], _, _, e => by cases e
theorem freeS_get : ∀ {is : List Nat} {olds : List Vg.Slot} {en : Ee}, freeS en is = some olds → is.length = olds.length ∧ ∀ i ∈ is, ∃ o, en[i]? = some o ∧ Free0 o
  | [], _, _, h => by cases h; exact ⟨rfl, fun i hi => by cases hi⟩
  | i :: is, _, en, h => by
    unfold freeS at h
    split at h
    · rename_i r h1 h2
      cases h
      obtain ⟨a, b⟩ := freeS_get h2
      exact ⟨congrArg Nat.succ a, fun j hj => by
        rcases List.mem_cons.mp hj with e | e
        · rw [e]; exact ⟨_, h1, .inl rfl⟩
        · exact b j e⟩
    · rename_i d r h1 h2
      cases h
      obtain ⟨a, b⟩ := freeS_get h2
      exact ⟨congrArg Nat.succ a, fun j hj => by
        rcases List.mem_cons.mp hj with e | e
        · rw [e]; exact ⟨_, h1, .inr ⟨d, rfl⟩⟩
        · exact b j e⟩
    · cases h
/-- several slots set in a row -/
def setsV : List Nat → List V → L2.St → L2.St
  | i :: is, v :: vs, σ => setsV is vs (σ.set i (some v))
  | _, _, σ => σ
theorem freeS_set {i : Nat} {x : Vg.Slot} : ∀ {is : List Nat} {en : Ee}, i ∉ is → freeS (en.set i x) is = freeS en is
  | [], _, _ => rfl
  | j :: is, en, h => by
    rw [List.mem_cons, not_or] at h
    unfold freeS
    rw [List.getElem?_set_ne h.1, freeS_set h.2]
theorem freeS_cons {i : Nat} {is : List Nat} {en : Ee} {olds : List Vg.Slot} (h : freeS en (i :: is) = some olds) : ∃ o os, olds = o :: os ∧ en[i]? = some o ∧ Free0 o ∧ freeS en is = some os := by
  unfold freeS at h
  split at h
  · rename_i r h1 h2
    cases h
    exact ⟨_, _, rfl, h1, .inl rfl, h2⟩
  · rename_i d r h1 h2
    cases h
    exact ⟨_, _, rfl, h1, .inr ⟨d, rfl⟩, h2⟩
  · cases h
theorem putS_len : ∀ {is : List Nat} {ds : List D} {en : Ee}, (putS is ds en).length = en.length
  | [], _, _ => rfl
  | _ :: _, [], _ => rfl
  | i :: is, d :: ds, en => by
    unfold putS
    rw [putS_len, List.length_set]
theorem putS_rel {H F : Hp} : ∀ {is : List Nat} {ds : List D} {vs : List V} {olds : List Vg.Slot} {en : Ee} {σ : L2.St}, Rel S.K en σ H F → freeS en is = some olds → is.Nodup → RpAll S.K F vs ds → Rel S.K (putS is ds en) (setsV is vs σ) H F
  | [], _, _, _, _, _, R, _, _, _ => R
  | _ :: _, [], _, _, _, _, R, _, _, .nil => R
  | i :: is, d :: ds, _, _, en, σ, R, hf, hn, .cons (v := v) (vs := vs) h a => by
    obtain ⟨o, os, _, h1, _, h3⟩ := freeS_cons hf
    rw [List.nodup_cons] at hn
    show Rel S.K (putS is ds (en.set i (.val d))) (setsV is vs (σ.set i (some v))) H F
    exact putS_rel (is := is) (en := en.set i (.val d)) (R.setV (List.getElem?_eq_some_iff.mp h1).1 h) (by rw [freeS_set hn.1]; exact h3) hn.2 a
theorem putS_own {a : Addr} : ∀ {is : List Nat} {ds : List D} {vs : List V} {olds : List Vg.Slot} {en : Ee} {σ : L2.St}, freeS en is = some olds → is.Nodup → vs.length = ds.length → (Own (putS is ds en) (setsV is vs σ) a ↔ Own en σ a)
  | [], _, _, _, _, _, _, _, _ => Iff.rfl
  | _ :: _, [], [], _, _, _, _, _, _ => Iff.rfl
  | _ :: _, [], _ :: _, _, _, _, _, _, h => by cases h
  | _ :: _, _ :: _, [], _, _, _, _, _, h => by cases h
  | i :: is, d :: ds, v :: vs, _, en, σ, hf, hn, hl => by
    obtain ⟨o, os, _, h1, h2, h3⟩ := freeS_cons hf
    rw [List.nodup_cons] at hn
    unfold putS setsV
    rw [putS_own (is := is) (by rw [freeS_set hn.1]; exact h3) hn.2 (by simpa using hl)]
    exact own_set h1 h2
theorem rst_len : ∀ {is : List Nat} {os : List Vg.Slot} {en : Ee}, (rstS is os en).length = en.length
  | [], _, _ => rfl
  | _ :: _, [], _ => rfl
  | i :: is, o :: os, en => by
    unfold rstS
    rw [List.length_set, rst_len]
theorem rst_rel {H3 F3 : Hp} {e4 : Ee} : ∀ {is : List Nat} {vs : List V} {olds : List Vg.Slot} {en : Ee} {σ : L2.St}, Rel S.K e4 (setsV is vs σ) H3 F3 → freeS en is = some olds → is.Nodup → vs.length = is.length → (∀ i z, i ∈ is → en[i]? = some (.val z) → ∃ v, σ[i]? = some (some v) ∧ Rp S.K F3 v z) →
    e4.length = en.length → Rel S.K (rstS is olds e4) σ H3 F3
  | [], _, _, _, _, R, _, _, _, _, _ => R
  | _ :: _, [], _, _, _, _, _, _, h, _, _ => by cases h
  | i :: is, v :: vs, _, en, σ, R, hf, hn, hl, hv, hln => by
    obtain ⟨o, os, ee, h1, h2, h3⟩ := freeS_cons hf
    subst ee
    rw [List.nodup_cons] at hn
    have hlt : i < en.length := (List.getElem?_eq_some_iff.mp h1).1
    have R1 : Rel S.K (rstS is os e4) (σ.set i (some v)) H3 F3 := rst_rel (en := en) (σ := σ.set i (some v)) R h3 hn.2 (by simpa using hl) (fun j z hj ez => by
      have hij : i ≠ j := fun q => hn.1 (by rw [q]; exact hj)
      rw [List.getElem?_set_ne hij]
      exact hv j z (List.mem_cons_of_mem _ hj) ez) hln
    exact R1.back h2 (fun z ez => by
      rw [ez] at h1
      exact hv i z (List.mem_cons_self ..) h1) (by rw [rst_len, hln]; exact hlt)
theorem rst_step {H F H3 F3 : Hp} {e4 : Ee} : ∀ {is : List Nat} {ds : List D} {vs : List V} {olds : List Vg.Slot} {en : Ee} {σ : L2.St}, Step (putS is ds en) (setsV is vs σ) H F e4 (setsV is vs σ) H3 F3 → freeS en is = some olds → is.Nodup → ds.length = is.length → vs.length = is.length →
    e4.length = en.length → Step en σ H F (rstS is olds e4) σ H3 F3
  | [], _, _, _, _, _, s, _, _, _, _, _ => s
  | _ :: _, [], _, _, _, _, _, _, _, h, _, _ => by cases h
  | _ :: _, _ :: _, [], _, _, _, _, _, _, _, h, _ => by cases h
  | i :: is, d :: ds, v :: vs, _, en, σ, s, hf, hn, hl, hl2, hln => by
    obtain ⟨o, os, ee, h1, h2, h3⟩ := freeS_cons hf
    subst ee
    rw [List.nodup_cons] at hn
    have hlt : i < en.length := (List.getElem?_eq_some_iff.mp h1).1
    have s1 : Step (en.set i (.val d)) (σ.set i (some v)) H F (rstS is os e4) (σ.set i (some v)) H3 F3 :=
      rst_step (en := en.set i (.val d)) (σ := σ.set i (some v)) (ds := ds) (vs := vs) s (by rw [freeS_set hn.1]; exact h3) hn.2 (by simpa using hl) (by simpa using hl2) (by rw [List.length_set]; exact hln)
    exact s1.back h1 h2 (by rw [rst_len, hln]; exact hlt)
theorem wipe_ne {i : Nat} {x : Option V} : ∀ {is : List Nat} {σ : L2.St}, i ∉ is → wipe (σ.set i x) is = (wipe σ is).set i x
  | [], _, _ => rfl
  | j :: is, σ, h => by
    rw [List.mem_cons, not_or] at h
    unfold wipe
    rw [wipe_ne h.2, List.set_comm _ _ h.1]
theorem setsV_ne {i : Nat} {x : Option V} : ∀ {is : List Nat} {vs : List V} {σ : L2.St}, i ∉ is → setsV is vs (σ.set i x) = (setsV is vs σ).set i x
  | [], _, _, _ => rfl
  | j :: is, [], σ, _ => rfl
  | j :: is, v :: vs, σ, h => by
    rw [List.mem_cons, not_or] at h
    unfold setsV
    rw [List.set_comm _ _ h.1, setsV_ne h.2]
theorem setsV_wipe : ∀ {is : List Nat} {vs : List V} {σ : L2.St}, is.Nodup → vs.length = is.length → setsV is vs (wipe σ is) = setsV is vs σ
  | [], _, _, _, _ => rfl
  | _ :: _, [], _, _, h => by cases h
  | i :: is, v :: vs, σ, hn, hl => by
    rw [List.nodup_cons] at hn
    show setsV is vs (((wipe σ is).set i none).set i (some v)) = setsV is vs (σ.set i (some v))
    rw [List.set_set, setsV_ne hn.1, setsV_wipe hn.2 (by simpa using hl), setsV_ne hn.1]
theorem wipe_sets : ∀ {is : List Nat} {vs : List V} {σ : L2.St}, is.Nodup → wipe (setsV is vs σ) is = wipe σ is
  | [], _, _, _ => rfl
  | _ :: _, [], _, _ => rfl
  | i :: is, v :: vs, σ, hn => by
    rw [List.nodup_cons] at hn
    show (wipe (setsV is vs (σ.set i (some v))) is).set i none = (wipe σ is).set i none
    rw [wipe_sets hn.2, wipe_ne hn.1, List.set_set]
theorem gIs_run {Q : L2.St → Hp → Prop} : ∀ {is : List Nat} {vs : List V} {σ : L2.St} {H : Hp}, vs.length = is.length → Q (setsV is vs σ) H → gIs is vs σ H Q
  | [], [], _, _, _, q => ⟨rfl, q⟩
  | [], _ :: _, _, _, h, _ => by cases h
  | _ :: _, [], _, _, h, _ => by cases h
  | i :: is, v :: vs, σ, H, h, q => ⟨v, vs, rfl, gIs_run (by simpa using h) q⟩
theorem le_lcU {ta : TE} {e : Ex} {is : List Nat} {s : Sr} {c : Ot} {wi : TI} {tt : TT} (hs : LI S (wS S.C s) wi) (hc : LC S.blk (wC S.C c) tt) (he : LE S.blk (wE S.C e) ta) :
    LE S (wE S.C (.lcU e is s c)) (tLc wi (gTup S.K is.length (gIs is)) tt ta is) := by
  intro en σ H F Q Kq Xq R w xp q
  refine hs en σ H F _ _ Xq R w xp fun r ds e0 v H1 F1 J ⟨hz, hnd, k1⟩ R1 s1 r1 wk _ D hD => ?_
  let Wv : Nat → Nat → Hp → Prop := fun n m Hc => m = ds.length - n ∧ n ≤ ds.length ∧ ∃ e1 F' acc vs, Rel S.K e1 σ Hc F' ∧ Step e0 σ H1 F1 e1 σ Hc F' ∧ Hc D = some (.lst vs) ∧ F' D = none ∧ ¬ Own e1 σ D ∧ RpAll S.K F' vs acc ∧
    drf e1 r = drf e0 r ∧ vs.length ≤ n ∧ goL (fun d en K => ∃ olds xs, freeS en is = some olds ∧ d = .tup xs ∧ xs.length = is.length ∧
      wC S.C c (putS is xs en) (fun k e2 => (k = true → wE S.C e e2 (fun t e3 => ∃ x e4, give t e3 = some (x, e4) ∧ drf (rstS is olds e4) r = drf e0 r ∧ K (some x) (rstS is olds e4)) fun _ _ _ => False) ∧ (k = false → drf (rstS is olds e2) r = drf e0 r ∧ K none (rstS is olds e2))) fun _ _ _ => False)
      (ds.drop n) acc e1 (fun acc e1 => Kq (.f (.lst acc)) e1)
  refine ⟨Wv, ⟨_, rfl, Nat.zero_le _, e0, F1, [], [], R1.alloc hD, Step.alloc hD, upd_same, R1.nF hD, R1.notOwn hD, .nil, rfl, Nat.le_refl _, by rw [List.drop_zero]; exact k1⟩, ?_⟩
  rintro n m Hc ⟨rfl, hn, e1, F', acc, vs, R', s', hDc, hDF, nO, ra, er, hvl, g⟩
  obtain ⟨w1, w2⟩ := wk r e1 σ Hc F' R' (r1.step s') er
  by_cases hlt : n < ds.length
  · obtain ⟨jg, jy⟩ := w1 n hlt
    refine .inr ⟨jg, Wv (n + 1) (ds.length - (n + 1)), fun H' p' => ⟨_, by omega, p'⟩, fun x H' y => ?_⟩
    obtain ⟨F0, R0, s0, d, hd, rd⟩ := jy x H' y
    have h0D : H' D = some (.lst vs) ∧ F0 D = none := by
      refine ⟨s0.keep D _ hDc hDF nO, ?_⟩
      cases q1 : F0 D with
      | none => rfl
      | some u =>
        rcases s0.fresh D hDF (by rw [q1]; simp) with z | z
        · rw [hDc] at z; cases z
        · exact absurd z nO
    replace s' := s'.trans s0
    replace ra := ra.mono s0.grow
    replace hDc := h0D.1
    replace hDF := h0D.2
    clear R' h0D
    have R' := R0
    rw [List.drop_eq_getElem_cons hlt] at g
    obtain ⟨olds, xs, hfr, exs, hxl, g2⟩ := g
    rw [List.getElem?_eq_getElem hlt] at hd
    have ed : ds[n] = d := Option.some.inj hd
    rw [ed] at exs
    subst exs
    obtain ⟨tp, us, ex, htp, aus⟩ := RpT.tup R' (.inl rd)
    have hul : us.length = is.length := by rw [aus.length]; exact hxl
    refine ⟨tp, us, ex, htp, hul, gIs_run hul ?_⟩
    rw [setsV_wipe hnd hul]
    refine ⟨wipe_sets hnd, ?_⟩
    have Rs := putS_rel R' hfr hnd aus
    have oldv : ∀ i z, i ∈ is → e1[i]? = some (.val z) → ∃ v0, σ[i]? = some (some v0) ∧ Rp S.K F0 v0 z := fun i z _ ez => R'.val i z ez
    have lenE : ∀ {ex : Ee} {Hx Fx : Hp}, Rel S.K ex (setsV is us σ) Hx Fx → ex.length = e1.length := fun {ex Hx Fx} Rx => by
      have a := Rx.len
      have b := Rs.len
      rw [putS_len] at b
      omega
    refine hc _ (setsV is us σ) H' F0 _ _ _ Rs g2 (xFalse (S := S.blk)) fun k e2 H2 F2 ⟨g3, g4⟩ R2 s2 => ?_
    have keepD : ∀ {ex : Ee} {Hx Fx : Hp}, Step (putS is xs e1) (setsV is us σ) H' F0 ex (setsV is us σ) Hx Fx → Hx D = some (.lst vs) ∧ Fx D = none := fun {ex Hx Fx} sx => by
      have nO' : ¬ Own (putS is xs e1) (setsV is us σ) D := fun w => nO ((putS_own hfr hnd aus.length).mp w)
      refine ⟨sx.keep D _ hDc hDF nO', ?_⟩
      cases q1 : Fx D with
      | none => rfl
      | some u =>
        rcases sx.fresh D hDF (by rw [q1]; simp) with z | z
        · rw [hDc] at z; cases z
        · exact absurd z nO'
    cases k with
    | false =>
      refine iteF ?_
      obtain ⟨er2, g5⟩ := g4 rfl
      obtain ⟨h1, h2⟩ := keepD s2
      have sb := rst_step s2 hfr hnd hxl hul (lenE R2)
      refine ⟨rfl, hlt, rstS is olds e2, F2, acc, vs, rst_rel R2 hfr hnd hul (fun i z hi ez => ?_) (lenE R2), s'.trans sb, h1, h2, ?_, ra.mono s2.grow, er2, by omega, g5⟩
      · obtain ⟨v0, ev0, rv0⟩ := oldv i z hi ez
        exact ⟨v0, ev0, rv0.mono s2.grow⟩
      · intro w
        rcases sb.sub D w with z | z
        · rw [hDc] at z; cases z
        · exact nO z
    | true =>
      refine iteT ?_
      refine he e2 (setsV is us σ) H2 F2 _ _ _ R2 (g3 rfl) (xFalse (S := S.blk)) fun t e3 y H3 F3 ⟨xd, e4, gv, er4, g5⟩ R3 s3 r3 n3 => ?_
      obtain ⟨F4, R4, s4, r4⟩ := give_ok R3 (s2.trans s3) r3 (fun d p z1 z2 => s2.there p (n3 d p z1 z2)) gv
      obtain ⟨h1, h2⟩ := keepD s4
      refine ⟨vs, h1, Nat.lt_of_le_of_lt hvl (Nat.lt_of_lt_of_le hlt hz), ?_⟩
      have sb := rst_step s4 hfr hnd hxl hul (lenE R4)
      have Rb : Rel S.K (rstS is olds e4) σ H3 F4 := rst_rel R4 hfr hnd hul (fun i z hi ez => by
        obtain ⟨v0, ev0, rv0⟩ := oldv i z hi ez
        exact ⟨v0, ev0, rv0.mono s4.grow⟩) (lenE R4)
      have nO4 : ¬ Own (rstS is olds e4) σ D := fun w => by
        rcases sb.sub D w with z | z
        · rw [hDc] at z; cases z
        · exact nO z
      have Rw : Rel S.K (rstS is olds e4) σ (upd H3 D (.lst (vs ++ [y]))) F4 :=
        { sub := fun b u e => by
            have hb : b ≠ D := fun z => by rw [z, h2] at e; cases e
            rw [upd_ne hb]
            exact Rb.sub b u e
          len := Rb.len
          val := Rb.val
          own := fun j dj hj => by
            obtain ⟨p, ep, fp, u, hu, ru⟩ := Rb.own j dj hj
            have hp : p ≠ D := fun z => nO4 ⟨j, dj, hj, by rw [← z]; exact ep⟩
            exact ⟨p, ep, fp, u, by rw [upd_ne hp]; exact hu, ru⟩
          inj := Rb.inj }
      have sF := s'.trans sb
      have H1D : H1 D = none := hD
      refine ⟨rfl, hlt, rstS is olds e4, F4, acc ++ [xd], vs ++ [y], Rw, ?_, upd_same, h2, nO4, (ra.mono s4.grow).snoc r4, er4, by rw [List.length_append, List.length_singleton]; omega, g5⟩
      exact
        { grow := sF.grow
          fresh := sF.fresh
          keep := fun a o e f n => by
            have ha : a ≠ D := fun z => by rw [z, H1D] at e; cases e
            rw [upd_ne ha]
            exact sF.keep a o e f n
          sub := sF.sub
          io := sF.io
          there := fun a e => by
            by_cases ha : a = D
            · rw [ha]; exact H1D
            · rw [upd_ne ha] at e; exact sF.there a e }
  · have en' : n = ds.length := by omega
    refine .inl ⟨w2 n (by omega), ?_⟩
    rw [en', List.drop_length] at g
    have g' : Kq (.f (.lst acc)) e1 := g
    refine q (.f (.lst acc)) e1 (.ref D) Hc F' g' R' (s1.trans s') ⟨D, rfl, hDF, nO, _, hDc, .lst ra⟩ ?_
    intro d p _ ep
    cases ep
    exact s1.there D hD
theorem li_enu {ta : TE} {e : Ex} (he : LE S (wE S.C e) ta) : LI S (wS S.C (.enu e)) (iEnum S.K (tCons ta tNil)) := by
  intro en σ H F R Kq Xq RL w xp q
  refine he en σ H F _ _ Xq RL w xp fun r0 e1 v H1 F1 ⟨ds, ex, hz, k1⟩ R1 s1 r1 n1 => ?_
  obtain ⟨F2, R2, s2, r2⟩ := froze R1 s1 r1 n1
  have ex2 : drf e1 (frz r0) = some (.lst ds) := by rw [drf_frz]; exact ex
  obtain ⟨p, vs, ep, hp, a⟩ := (r2.deref R2 ex2).lst R2
  have nf : ∀ d, frz r0 ≠ .f d := fun d z => by cases r0 <;> cases z
  subst ep
  refine ⟨p, vs, rfl, SqL.of hp, q (frz r0) _ e1 _ H1 F2 _ k1 R2 s2 r2 (fun r9 en' σ' H' F' R' r' e' => ?_) nf⟩
  rw [ex2] at e'
  obtain ⟨p', vs', ep', hp', a'⟩ := (r'.deref R' e').lst R'
  cases ep'
  have len : (((List.range ds.length).zip ds).map fun p : Nat × D => D.tup [.int (p.1 : Nat), p.2]).length = ds.length := by
    rw [List.length_map, List.length_zip, List.length_range, Nat.min_self]
  rw [len]
  refine ⟨fun i hi => ?_, fun i hi => ⟨vs', SqL.of hp', by rw [a'.length]; exact hi⟩⟩
  obtain ⟨u, hu, ru⟩ := a'.get (List.getElem?_eq_getElem hi)
  refine ⟨⟨vs', u, SqL.of hp', hu⟩, fun y H2 ⟨T, x, ey, hT, eH, f2⟩ => ?_⟩
  subst ey eH
  have hx := f2 vs' (SqL.of hp')
  rw [hu] at hx
  cases hx
  have hF := R'.nF hT
  refine ⟨upd F' T (.tup [.int (i : Nat), u]), (R'.alloc hT).freeze hF upd_same (R'.notOwn hT), (Step.alloc hT).freeze hF (.inl hT), .tup [.int (i : Nat), ds[i]], ?_, ?_⟩
  · have ez : ((List.range ds.length).zip ds)[i]? = some (i, ds[i]) := by
      rw [List.getElem?_zip_eq_some]
      exact ⟨List.getElem?_range hi, List.getElem?_eq_getElem hi⟩
    rw [List.getElem?_map, ez]
    rfl
  · exact .tup (SqT.of upd_same) (.cons (.int _) (.cons (ru.mono (leqUpd hF)) .nil))
theorem ls_forU {is : List Nat} {s : Sr} {b : List Sm} {wi : TI} {t : TS} (hs : LI S (wS S.C s) wi) (hb : LS S (wMs S.C b) t) : LS S (wM S.C (.forU is s b)) (tFor wi (gTup S.K is.length (gIs is)) t) := by
  intro en σ H F De K R w ep
  refine hs en σ H F _ _ K.xq R w ep.xq.ex fun r ds e0 v H1 F1 J ⟨x, e1, gv, g0⟩ R1 s1 r1 wk nf => ?_
  obtain ⟨F2, R2, s2, rx⟩ := give_ok R1 s1 r1 (fun d p z _ => absurd z (nf d)) gv
  have edr := give_drf gv
  let Wv : Nat → Nat → L2.St → Hp → Prop := fun n m σ' Hc => m = ds.length - n ∧ n ≤ ds.length ∧ ∃ e2 F', Rel S.K e2 σ' Hc F' ∧ Step en σ H F e2 σ' Hc F' ∧ Rp S.K F' v x ∧
    goF (fun d en K' => ∃ xs e1, d = .tup xs ∧ setAll is xs en = some e1 ∧ wMs S.C b e1 K') (ds.drop n) e2 K
  refine ⟨Wv, ⟨_, rfl, Nat.zero_le _, e1, F2, R2, s2, rx, by rw [List.drop_zero]; exact g0⟩, ?_⟩
  rintro n m σ' Hc ⟨rfl, hn, e2, F', R', s', rv, g⟩
  obtain ⟨w1, w2⟩ := wk (.v x) e2 σ' Hc F' R' rv edr.symm
  by_cases hlt : n < ds.length
  · obtain ⟨jg, jy⟩ := w1 n hlt
    refine .inr ⟨jg, Wv (n + 1) (ds.length - (n + 1)), fun σ3 H' p' => ⟨_, by omega, p'⟩, fun y H' z => ?_⟩
    obtain ⟨F0, R0, s0, d, hd, rd⟩ := jy y H' z
    replace s' := s'.trans s0
    replace rv := rv.mono s0.grow
    clear R'
    have R' := R0
    rw [List.drop_eq_getElem_cons hlt] at g
    obtain ⟨xs, e3, exs, sv, g2⟩ := g
    rw [List.getElem?_eq_getElem hlt] at hd
    have ed : ds[n] = d := Option.some.inj hd
    rw [ed] at exs
    subst exs
    obtain ⟨tp, us, ex, htp, aus⟩ := RpT.tup R' (.inl rd)
    subst ex
    refine ⟨tp, us, rfl, htp, by rw [aus.length, setAll_len sv], ?_⟩
    refine gIs_ok (De := ⟨_, fun _ _ => True, fun _ _ => True, fun _ _ => True⟩) (P := fun e => e = e3) (en0 := e2) (σ0 := σ') (H0 := H') (F0 := F0) (fun en' σ2 H2 F2 ee R3 s3 => ?_) R' (Step.refl ..) aus sv rfl
    subst ee
    have s4 := s'.trans s3
    have ep3 := ep.step s4
    have rv2 := rv.mono s3.grow
    exact hb _ _ H2 F2 _ _ R3 g2
      { nx := fun e4 σ4 H4 F4 k R4 s5 => ⟨rfl, hlt, e4, F4, R4, s4.trans s5, rv2.mono s5.grow, k⟩
        ct := fun e4 σ4 H4 F4 k R4 s5 => ⟨rfl, hlt, e4, F4, R4, s4.trans s5, rv2.mono s5.grow, k⟩
        bk := fun e4 σ4 H4 F4 k R4 s5 => ep3.nx e4 σ4 H4 F4 k R4 s5
        rt := ep3.rt
        xq := ep3.xq }
  · have en' : n = ds.length := by omega
    refine .inl ⟨w2 n (by omega), ?_⟩
    rw [en', List.drop_length] at g
    exact ep.nx e2 σ' Hc F' g R' s'
end
end Vg

set_option Elab.async false
set_option linter.all false
set_option maxRecDepth 100000
namespace Vg
open PySem PySem.Spec PyProof.Rows L2
def Cs.v : Cs → V
  | .non => .non | .bl b => .bl b | .int i => .int i | .str x => .str x
mutual
def tE (S : Sr0) : Ex → TE
  | .var i => tVar i
  | .cst d => tC d.v
  | .gl x => match S.C.gt x with
    | some _ => tC (S.gv x)
    | none => fun _ _ _ => False
  | .bty n => tC (.ty n.nm)
  | .bin o a b => tOp (rBin S.K o) (tE S a) (tE S b)
  | .neg a => tUn (rU fun i => .int (-i)) (tE S a)
  | .cmp o a b => tOp (rCmp S.K o) (tE S a) (tE S b)
  | .cmp2 o p a b c => tChain (rCmp S.K o) (rCmp S.K p) (tE S a) (tE S b) (tE S c)
  | .and a b => tAndV (tE S a) (tE S b)
  | .or a b => tOrV (tE S a) (tE S b)
  | .not a => tNotV (tE S a)
  | .ife c a b => tIf (tT S c) (tE S a) (tE S b)
  | .idx a i => tOp (rIxAll S.K) (tE S a) (tE S i)
  | .slc a lo hi => tSl (rSlAll S.K) (tE S a) (tO S lo) (tO S hi)
  | .tup es => tTup (tA S es)
  | .lst es => tLst (tA S es)
  | .dct ps => match ps with
    | .nil => tDNewK
    | .cons k e r => tDisp ((tC (.str k), tE S e) :: tD S r)
  | .lc e i s c => tLc (tI S s) (gName i) (tF S.blk c) (tE S.blk e) [i]
  | .call f es => match S.C.fn f with
    | some c => tCallSD (spOf S.K S.cl c) [] (WE S.W) (tA S es)
    | none => fun _ _ _ => False
  | .callk f es ks kes fl => match S.C.fn f with
    | some c => tCallNG es.len ks.length (spOf S.K S.cl c) (fun vs zs => vs ++ fillV S.gv fl zs) (WE S.W) (tA S es) (tA S kes)
    | none => fun _ _ _ => False
  | .blt f es => tCB (rBlt S.K f) (tA S es)
  | .bty1 f es => tCB (rBty S.K f) (tA S es)
  | .fld e n => tFld S.K n (tE S e)
  | .isx e cs tup => tCB (rIsx S.K) (tCons (tE S e) (tCons (tClz S cs tup) tNil))
  | .mkx c es ks kes fl => match S.cl c, S.C.xk c with
    | some C, some ns => tMkx C ns es.len ks.length (fun vs zs => vs ++ fillV S.gv fl zs) (tA S es) (tA S kes)
    | _, _ => fun _ _ _ => False
  | .lcU e is s c => tLc (tI S s) (gTup S.K is.length (gIs is)) (tF S.blk c) (tE S.blk e) is
  | .mth o m es => match es with
    | .nil => tBM0 S.K m.T (rMth S.K m) (tE S o)
    | .cons e r => tBM S.K m.T (rMth S.K m) (tE S o) (tCons (tE S e) (tA S r))
  | .mut o m es => match es with
    | .nil => tBM0 S.K m.T (rMth S.K m) (tE S o)
    | .cons e r => tBM S.K m.T (rMth S.K m) (tE S o) (tCons (tE S e) (tA S r))
def tT (S : Sr0) : Te → TT
  | .val e => match e with
    | .cmp o a b => tTest (tOp (rCmp S.K o) (tE S a) (tE S b))
    | .cmp2 o p a b c => tTest (tChain (rCmp S.K o) (rCmp S.K p) (tE S a) (tE S b) (tE S c))
    | e => fun σ H Q => tE S e σ H fun x H' => ∃ k, TruV S.K x H' k ∧ Q k H'
  | .and a b => tAnd (tT S a) (tT S b)
  | .or a b => tOr (tT S a) (tT S b)
  | .not a => tNot (tT S a)
def tA (S : Sr0) : Es → TA
  | .nil => tNil
  | .cons e es => tCons (tE S e) (tA S es)
def tO (S : Sr0) : Oe → TO
  | .no => tNoPart
  | .ex e => tPart (tE S e)
def tF (S : Sr0) : Ot → TT
  | .no => tYes
  | .ex e => tT S e
def tI (S : Sr0) : Sr → TI
  | .seq e => iAny S.K (tE S e)
  | .enu e => iEnum S.K (tCons (tE S e) tNil)
  | .rng a => iRng1 (tCons (tE S a) tNil)
  | .rng2 a b => iRng2 (tCons (tE S a) (tCons (tE S b) tNil))
def tD (S : Sr0) : Ps → List (TE × TE)
  | .nil => []
  | .cons k e ps => (tC (.str k), tE S e) :: tD S ps
end

example (S : Sr0) (i : Nat) : tE S (.var i) = tVar i := rfl
def LD (S : Sr0) (w : Ee → (List (Key × D) → Ee → Prop) → KX → Prop) (t : List (TE × TE)) : Prop :=
  ∀ en σ H F (Q : List (V × V) → Hp → Prop) (Kq : List (Key × D) → Ee → Prop) Xq, Rel S.K en σ H F → w en Kq Xq → XPost S en σ H F Xq →
    (∀ kds en' kvs H' F', Kq kds en' → Rel S.K en' σ H' F' → Step en σ H F en' σ H' F' → RpKV S.K F' kvs kds → Q (kvs.map fun kv => (kV kv.1, kv.2)) H') → tPairs t σ H Q
theorem ld_nil {S : Sr0} : LD S (wP S.C .nil) [] := by
  intro en σ H F Q Kq Xq R w xp q
  exact q [] en [] H F w R (Step.refl ..) .nil
theorem ld_cons {S : Sr0} {k : Str} {e : Ex} {ps : Ps} {te : TE} {t : List (TE × TE)} (he : LE S (wE S.C e) te) (hs : LD S (wP S.C ps) t) : LD S (wP S.C (.cons k e ps)) ((tC (.str k), te) :: t) := by
  intro en σ H F Q Kq Xq R w xp q
  show te σ H _
  refine he en σ H F _ _ Xq R w xp fun r e1 v H1 F1 ⟨d, e2, g, k1⟩ R1 s1 r1 n1 => ?_
  obtain ⟨F2, R2, s2, r2⟩ := give_ok R1 s1 r1 n1 g
  exact hs e2 σ H1 F2 _ _ Xq R2 k1 (xp.step s2) fun kds e3 kvs H3 F3 k3 R3 s3 a3 => q ((.inr k, d) :: kds) e3 ((.inr k, v) :: kvs) H3 F3 k3 R3 (s2.trans s3) (.cons (r2.mono s3.grow) a3)
theorem merge_nodup : ∀ (more acc : List (Key × V)), ((acc ++ more).map (·.1)).Nodup → mergeK acc more = acc ++ more
  | [], acc, _ => by rw [List.append_nil]; rfl
  | kv :: r, acc, h => by
    have hn : valV acc kv.1 = none := by
      rw [List.map_append, List.map_cons] at h
      cases q : valV acc kv.1 with
      | none => rfl
      | some x =>
        have hm : kv.1 ∈ acc.map (·.1) := by
          unfold valV at q
          cases f : acc.find? (fun z => decide (z.1 = kv.1)) with
          | none => rw [f] at q; cases q
          | some y =>
            have h1 := List.mem_of_find?_eq_some f
            have h2 := List.find?_some f
            exact List.mem_map.mpr ⟨y, h1, of_decide_eq_true h2⟩
        exact absurd rfl ((List.nodup_append.mp h).2.2 _ hm _ (List.mem_cons_self ..))
    show mergeK (putK acc kv.1 kv.2) r = _
    rw [putK_new kv.2 hn]
    have e : acc ++ [(kv.1, kv.2)] ++ r = acc ++ kv :: r := by simp
    rw [← e]
    exact merge_nodup r _ (by rw [e]; exact h)
theorem le_dct {S : Sr0} {ps : Ps} {t : List (TE × TE)} (hs : LD S (wP S.C ps) t) : LE S (wE S.C (.dct ps)) (tDisp t) := by
  intro en σ H F Q Kq Xq R w xp q p hp
  have R0 := R.alloc (o := .dK []) hp
  have s0 : Step en σ H F en σ (upd H p (.dK [])) F := Step.alloc hp
  refine hs en σ (upd H p (.dK [])) F _ _ Xq R0 w (xp.step s0) fun kds e1 kvs H1 F1 ⟨hn, hl, k1⟩ R1 s1 a1 => ?_
  have nO : ¬ Own en σ p := R.notOwn hp
  have h1p : H1 p = some (.dK []) := s1.keep p _ upd_same (R.nF hp) nO
  have f1p : F1 p = none := by
    cases z : F1 p with
    | none => rfl
    | some u =>
      rcases s1.fresh p (R.nF hp) (by rw [z]; simp) with y | y
      · rw [upd_same] at y; cases y
      · exact absurd y nO
  have nO1 : ¬ Own e1 σ p := fun w => by
    rcases s1.sub p w with y | y
    · rw [upd_same] at y; cases y
    · exact nO y
  have s01 := s0.trans s1
  have em : mergeK [] kvs = kvs := by
    rw [merge_nodup kvs [] (by rw [List.nil_append, a1.keys]; exact hn), List.nil_append]
  refine ⟨h1p, kvs, rfl, by
    have := congrArg List.length a1.keys
    rw [List.length_map, List.length_map] at this
    omega, ?_⟩
  rw [em]
  have Rw : Rel S.K e1 σ (upd H1 p (.dK kvs)) F1 :=
    { sub := fun b u e => by
        have hb : b ≠ p := fun z => by rw [z, f1p] at e; cases e
        rw [upd_ne hb]
        exact R1.sub b u e
      len := R1.len
      val := R1.val
      own := fun j dj hj => by
        obtain ⟨x, ex, fx, u, hu, ru⟩ := R1.own j dj hj
        have hx : x ≠ p := fun z => nO1 ⟨j, dj, hj, by rw [← z]; exact ex⟩
        exact ⟨x, ex, fx, u, by rw [upd_ne hx]; exact hu, ru⟩
      inj := R1.inj }
  have Sw : Step en σ H F e1 σ (upd H1 p (.dK kvs)) F1 :=
    { grow := s01.grow
      fresh := s01.fresh
      keep := fun a o e f n => by
        have ha : a ≠ p := fun z => by rw [z, hp] at e; cases e
        rw [upd_ne ha]
        exact s01.keep a o e f n
      sub := s01.sub
      io := s01.io
      there := fun a e => by
        by_cases ha : a = p
        · rw [ha]; exact hp
        · rw [upd_ne ha] at e; exact s01.there a e }
  refine q (.f (.dct kds)) e1 _ _ F1 k1 Rw Sw ⟨p, rfl, f1p, nO1, _, upd_same, .dct a1⟩ ?_
  intro d x _ ex
  cases ex
  exact hp
theorem le_dct0 {S : Sr0} : LE S (wE S.C (.dct .nil)) tDNewK := by
  intro en σ H F Q Kq Xq R w xp q p hp
  exact OPost.dct (ds := []) (vs := []) (OPost.of q) R w.2.2 .nil hp
theorem ClOk.blk {S : Sr0} (K : ClOk S) : ClOk S.blk := ⟨K.xk, K.sub, K.exm⟩
theorem ClOk.w {S : Sr0} (K : ClOk S) (W : WX) : ClOk { S with W := W } := ⟨K.xk, K.sub, K.exm⟩
mutual
theorem lift (S : Sr0) (g : GvOk S) (K : ClOk S) : ∀ x : Ex, LE S (wE S.C x) (tE S x)
  | .var i => le_var
  | .cst d => by cases d <;> exact le_cst (fun F => by first | exact .non | exact .bl _ | exact .int _ | exact .str _)
  | .gl x => by
    intro en σ H F Q Kq Xq R w xp q
    obtain ⟨d, e, k⟩ := w
    show (match S.C.gt x with
      | some _ => tC (S.gv x)
      | none => fun _ _ _ => False) σ H Q
    rw [e]
    exact q (.v d) en _ H F k R (Step.refl ..) (g x d e F) New.v
  | .bty n => le_cst (d := .ty n.nm) (fun F => .ty _)
  | .bin o a b => le_bin (lift S g K a) (lift S g K b)
  | .neg a => le_neg (lift S g K a)
  | .cmp o a b => le_cmp (lift S g K a) (lift S g K b)
  | .cmp2 o p a b c => le_cmp2 (lift S g K a) (lift S g K b) (lift S g K c)
  | .and a b => le_and (lift S g K a) (lift S g K b)
  | .or a b => le_or (lift S g K a) (lift S g K b)
  | .not a => le_not (lift S g K a)
  | .ife c a b => le_ife (liftT S g K c) (lift S g K a) (lift S g K b)
  | .idx a i => le_idx (lift S g K a) (lift S g K i)
  | .slc a lo hi => le_slc (lift S g K a) (liftO S g K lo) (liftO S g K hi)
  | .tup es => le_tup (liftA S g K es)
  | .lst es => le_lst (liftA S g K es)
  | .dct .nil => le_dct0
  | .dct (.cons k e r) => le_dct (ld_cons (lift S g K e) (liftP S g K r))
  | .lc e i s c => le_lc (liftI S g K s) (liftF S.blk g K.blk c) (lift S.blk g K.blk e)
  | .call f es => by
    show LE S (wE S.C (.call f es)) (match S.C.fn f with
      | some c => tCallSD (spOf S.K S.cl c) [] (WE S.W) (tA S es)
      | none => fun _ _ _ => False)
    cases q : S.C.fn f with
    | some c => exact le_call q (liftR S g K es)
    | none =>
      intro en σ H F Q Kq Xq R w xp _
      obtain ⟨c, e, _⟩ := w
      rw [q] at e
      cases e
  | .callk f es ks kes fl => by
    intro en σ H F Q Kq Xq R w xp q
    show (match S.C.fn f with
      | some c => tCallNG es.len ks.length (spOf S.K S.cl c) (fun vs zs => vs ++ fillV S.gv fl zs) (WE S.W) (tA S es) (tA S kes)
      | none => fun _ _ _ => False) σ H Q
    cases hc : S.C.fn f with
    | none =>
      obtain ⟨c, e, _⟩ := w
      rw [hc] at e
      cases e
    | some c => exact le_callk g hc (liftR S g K es) (liftR S g K kes) en σ H F Q Kq Xq R w xp q
  | .fld e n => le_fld K (lift S g K e)
  | .isx e cs tup => le_isx K (lift S g K e)
  | .mkx c es ks kes fl => by
    show LE S (wE S.C (.mkx c es ks kes fl)) (match S.cl c, S.C.xk c with
      | some C, some ns => tMkx C ns es.len ks.length (fun vs zs => vs ++ fillV S.gv fl zs) (tA S es) (tA S kes)
      | _, _ => fun _ _ _ => False)
    cases hk : S.C.xk c with
    | some ns =>
      obtain ⟨C, e1, _⟩ := K.xk c ns hk
      rw [e1]
      exact le_mkx g K e1 hk (liftA S g K es) (liftA S g K kes)
    | none =>
      intro en σ H F Q Kq Xq R w xp q
      have w1 := w.1
      rw [hk] at w1
      cases w1
  | .lcU e is s c => le_lcU (liftI S g K s) (liftF S.blk g K.blk c) (lift S.blk g K.blk e)
  | .blt f es => le_blt (liftR S g K es)
  | .bty1 f es => le_bty (liftR S g K es)
  | .mth o m .nil => le_mth0 (lift S g K o)
  | .mth o m (.cons e r) => le_mth (lift S g K o) (lrs_cons (lift S g K e) (liftR S g K r))
  | .mut o m .nil => le_mut0 (lift S g K o)
  | .mut o m (.cons e r) => le_mut (lift S g K o) (la_cons (lift S g K e) (liftA S g K r))
theorem liftT (S : Sr0) (g : GvOk S) (K : ClOk S) : ∀ x : Te, LT S (wT S.C x) (tT S x)
  | .val (.cmp o a b) => lt_cmp (lift S g K a) (lift S g K b)
  | .val (.cmp2 o p a b c) => lt_cmp2 (lift S g K a) (lift S g K b) (lift S g K c)
  | .val (.var i) => lt_val (lift S g K (.var i))
  | .val (.cst d) => lt_val (lift S g K (.cst d))
  | .val (.gl x) => lt_val (lift S g K (.gl x))
  | .val (.bty n) => lt_val (lift S g K (.bty n))
  | .val (.bin o a b) => lt_val (lift S g K (.bin o a b))
  | .val (.neg a) => lt_val (lift S g K (.neg a))
  | .val (.and a b) => lt_val (lift S g K (.and a b))
  | .val (.or a b) => lt_val (lift S g K (.or a b))
  | .val (.not a) => lt_val (lift S g K (.not a))
  | .val (.ife c a b) => lt_val (lift S g K (.ife c a b))
  | .val (.idx a i) => lt_val (lift S g K (.idx a i))
  | .val (.slc a lo hi) => lt_val (lift S g K (.slc a lo hi))
  | .val (.tup es) => lt_val (lift S g K (.tup es))
  | .val (.lst es) => lt_val (lift S g K (.lst es))
  | .val (.dct ps) => lt_val (lift S g K (.dct ps))
  | .val (.lc e i s c) => lt_val (lift S g K (.lc e i s c))
  | .val (.call f es) => lt_val (lift S g K (.call f es))
  | .val (.callk f es ks kes fl) => lt_val (lift S g K (.callk f es ks kes fl))
  | .val (.blt f es) => lt_val (lift S g K (.blt f es))
  | .val (.fld e n) => lt_val (lift S g K (.fld e n))
  | .val (.isx e cs tup) => lt_val (lift S g K (.isx e cs tup))
  | .val (.mkx c es ks kes fl) => lt_val (lift S g K (.mkx c es ks kes fl))
  | .val (.lcU e is s c) => lt_val (lift S g K (.lcU e is s c))
  | .val (.bty1 f es) => lt_val (lift S g K (.bty1 f es))
  | .val (.mth o m es) => lt_val (lift S g K (.mth o m es))
  | .val (.mut o m es) => lt_val (lift S g K (.mut o m es))
  | .and a b => lt_and (liftT S g K a) (liftT S g K b)
  | .or a b => lt_or (liftT S g K a) (liftT S g K b)
  | .not a => lt_not (liftT S g K a)
theorem liftA (S : Sr0) (g : GvOk S) (K : ClOk S) : ∀ x : Es, LA S (wEs S.C x) (tA S x)
  | .nil => la_nil
  | .cons e es => la_cons (lift S g K e) (liftA S g K es)
theorem liftR (S : Sr0) (g : GvOk S) (K : ClOk S) : ∀ x : Es, LRs S (wRs S.C x) (tA S x)
  | .nil => lrs_nil
  | .cons e es => lrs_cons (lift S g K e) (liftR S g K es)
theorem liftO (S : Sr0) (g : GvOk S) (K : ClOk S) : ∀ x : Oe, LO S (wO S.C x) (tO S x)
  | .no => lo_no
  | .ex e => lo_ex (lift S g K e)
theorem liftF (S : Sr0) (g : GvOk S) (K : ClOk S) : ∀ x : Ot, LC S (wC S.C x) (tF S x)
  | .no => lc_no
  | .ex e => lc_ex (liftT S g K e)
theorem liftI (S : Sr0) (g : GvOk S) (K : ClOk S) : ∀ x : Sr, LI S (wS S.C x) (tI S x)
  | .seq e => li_seq (lift S g K e)
  | .enu e => li_enu (lift S g K e)
  | .rng a => li_rng (lift S g K a)
  | .rng2 a b => li_rng2 (lift S g K a) (lift S g K b)
theorem liftP (S : Sr0) (g : GvOk S) (K : ClOk S) : ∀ x : Ps, LD S (wP S.C x) (tD S x)
  | .nil => ld_nil
  | .cons k e ps => ld_cons (lift S g K e) (liftP S g K ps)
end
end Vg

set_option Elab.async false
set_option linter.all false
set_option maxRecDepth 100000
namespace Vg
open PySem PySem.Spec PyProof.Rows L2
theorem put_rp {K : PySem.W.Frag} {F : Hp} {q : Key} {v : V} {x : D} (r : Rp K F v x) {vs : List (Key × V)} {ds : List (Key × D)} (a : RpKV K F vs ds) : RpKV K F (putK vs q v) (putD ds q x) := by
  have anyE : ∀ {vs : List (Key × V)} {ds : List (Key × D)}, RpKV K F vs ds → (vs.any fun kv => decide (kv.1 = q)) = (ds.any fun kv => decide (kv.1 = q)) := by
    intro vs ds a
    induction vs generalizing ds with
    | nil => cases a; rfl
    | cons p vs ih => cases a with | cons h t => rw [List.any_cons, List.any_cons, ih t]
  have mapE : ∀ {vs : List (Key × V)} {ds : List (Key × D)}, RpKV K F vs ds → RpKV K F (vs.map fun kv => if kv.1 = q then (kv.1, v) else kv) (ds.map fun kv => if kv.1 = q then (kv.1, x) else kv) := by
    intro vs ds a
    induction vs generalizing ds with
    | nil => cases a; exact .nil
    | cons p vs ih =>
      cases a with
      | cons h t =>
        rw [List.map_cons, List.map_cons]
        rename_i k v0 d0 ds0
        by_cases e : k = q
        · rw [if_pos (show (k, v0).1 = q from e), if_pos (show (k, d0).1 = q from e)]
          exact .cons r (ih t)
        · rw [if_neg (show ¬ (k, v0).1 = q from e), if_neg (show ¬ (k, d0).1 = q from e)]
          exact .cons h (ih t)
  have appE : ∀ {vs : List (Key × V)} {ds : List (Key × D)}, RpKV K F vs ds → RpKV K F (vs ++ [(q, v)]) (ds ++ [(q, x)]) := by
    intro vs ds a
    induction vs generalizing ds with
    | nil => cases a; exact .cons r .nil
    | cons p vs ih => cases a with | cons h t => exact .cons h (ih t)
  unfold putK putD
  rw [anyE a]
  split
  · exact mapE a
  · exact appE a
theorem RpKV.length {K : PySem.W.Frag} {F : Hp} {vs : List (Key × V)} {ds : List (Key × D)} (a : RpKV K F vs ds) : vs.length = ds.length := by
  have := congrArg List.length a.keys
  rwa [List.length_map, List.length_map] at this
section
variable {S : Sr0}
theorem ls_put {d k e : Ex} {td tk te : TE} (hd : LE S (wE S.C d) td) (hk : LE S (wE S.C k) tk) (he : LE S (wE S.C e) te) : LS S (wM S.C (.put d k e)) (sDPut td tk te) := by
  intro en σ H F De K R w ep
  refine he en σ H F _ _ K.xq R w ep.xq.ex fun r e1 v H1 F1 ⟨x, e2, g, k1⟩ R1 s1 r1 n1 => ?_
  obtain ⟨F2, R2, s2, r2⟩ := give_ok R1 s1 r1 n1 g
  refine hd e2 σ H1 F2 _ _ K.xq R2 k1 (ep.xq.ex.step s2) fun s e3 u H3 F3 ⟨i, es, k2⟩ R3 s3 r3 n3 => ?_
  subst es
  refine hk e3 σ H3 F3 _ _ K.xq R3 k2 (ep.xq.ex.step (s2.trans s3)) fun t e4 y H4 F4 ⟨c, yd, ec, ey, k3⟩ R4 s4 r4 n4 => ?_
  obtain ⟨p, eq, hf, o, ho, ro⟩ := R4.own i c (ownD_own ec)
  have eu : σ[i]? = some (some u) := r3
  rw [eq] at eu
  cases eu
  unfold putO at k3
  split at k3
  · cases ro with
    | dct a =>
      rename_i vs
      obtain ⟨q, kq, hl, kk⟩ := k3
      have hz : vs.length < sizeLine := by rw [a.length]; exact hl
      have y' := (r4.deref R4 ey).key kq
      subst y'
      refine ⟨p, _, rfl, DPut.k ho hz, ?_⟩
      have ro' : RpO S.K F4 (.dK (putK vs q v)) (.dct (putD _ q x)) := .dct (put_rp (r2.mono (s3.trans s4).grow) a)
      exact ep.nx _ σ _ F4 kk (R4.write ec eq ro') ((s2.trans (s3.trans s4)).trans (Step.write R4 ec eq))
  · exact k3.elim
theorem ls_unp {is : List Nat} {e : Ex} {te : TE} (he : LE S (wE S.C e) te) : LS S (wM S.C (.unp is e)) (tAsg te (gTup S.K is.length (gIs is))) := by
  intro en σ H F De K R w ep
  refine he en σ H F _ _ K.xq R w ep.xq.ex fun r e1 v H1 F1 ⟨ds, e2, er, g, k⟩ R1 s1 r1 n1 => ?_
  subst er
  obtain ⟨p, vs, ev, hp, a⟩ := RpT.tup R1 (.inl r1)
  exact ⟨p, vs, ev, hp, by rw [a.length, setAll_len g], gIs_ok (P := K.nx) (fun en' σ' H' F' k R s => ep.nx en' σ' H' F' k R s) R1 s1 a g k⟩
end
mutual
def tM (S : Sr0) : Sm → TS
  | .set i _ e => tAsg (tE S e) (gName i)
  | .par i j _ _ a b => tPar i j (tCons (tE S a) (tCons (tE S b) tNil))
  | .unp is e => tAsg (tE S e) (gTup S.K is.length (gIs is))
  | .put d k e => sDPut (tE S d) (tE S k) (tE S e)
  | .exp e => tDrop (tE S e)
  | .ret e => tRet (tE S e)
  | .retN => tRetN
  | .ife c a b => tIfS (tT S c) (tMs S a) (tMs S b)
  | .for_ i s b => tFor (tI S s) (gName i) (tMs S b)
  | .whl c b => tWhile (tT S c) (tMs S b)
  | .forU is s b => tFor (tI S s) (gTup S.K is.length (gIs is)) (tMs S b)
  | .rai c es => match S.cl c, S.C.xk c with
    | some C, some ns => fun _ σ H => tMkr C ns es.len (tA S es) σ H fun cls d H' => S.W cls d σ H'
    | _, _ => fun _ _ _ => False
  | .trk n cs _ su b => fun De σ H => tMs { S with W := wTry S n cs su De } b De σ H
  | .pas => tNext
  | .brk => tBreak
  | .cnt => tCont
def tMs (S : Sr0) : List Sm → TS
  | [] => tNext
  | s :: r => tSeq (tM S s) (tMs S r)
end
mutual
theorem liftM (S : Sr0) (g : GvOk S) (K : ClOk S) : ∀ x : Sm, LS S (wM S.C x) (tM S x)
  | .set i own e => ls_set (lift S g K e)
  | .par i j o1 o2 a b => ls_par (lift S g K a) (lift S g K b)
  | .unp is e => ls_unp (lift S g K e)
  | .put d k e => ls_put (lift S g K d) (lift S g K k) (lift S g K e)
  | .exp e => ls_exp (lift S g K e)
  | .ret e => ls_ret (lift S g K e)
  | .retN => ls_retN
  | .ife c a b => ls_ife (liftT S g K c) (liftMs S g K a) (liftMs S g K b)
  | .for_ i s b => ls_for (liftI S g K s) (liftMs S g K b)
  | .whl c b => ls_whl (liftT S g K c) (liftMs S g K b)
  | .forU is s b => ls_forU (liftI S g K s) (liftMs S g K b)
  | .rai c es => by
    show LS S (wM S.C (.rai c es)) (match S.cl c, S.C.xk c with
      | some C, some ns => fun _ σ H => tMkr C ns es.len (tA S es) σ H fun cls d H' => S.W cls d σ H'
      | _, _ => fun _ _ _ => False)
    cases hk : S.C.xk c with
    | some ns =>
      obtain ⟨C, e1, _⟩ := K.xk c ns hk
      rw [e1]
      exact ls_rai K e1 hk (liftA S g K es)
    | none =>
      intro en σ H F De Kx R w ep
      have w1 := w.1
      rw [hk] at w1
      cases w1
  | .trk n cs tup su b => ls_trk (tb := fun W => tMs { S with W := W } b) K fun W => liftMs { S with W := W } g (K.w W) b
  | .pas => ls_pas
  | .brk => ls_brk
  | .cnt => ls_cnt
theorem liftMs (S : Sr0) (g : GvOk S) (K : ClOk S) : ∀ x : List Sm, LS S (wMs S.C x) (tMs S x)
  | [] => ls_nil
  | s :: r => ls_cons (liftM S g K s) (liftMs S g K r)
end

/-- the slots at the entry: ds the arguments' data, N how many names -/
def en0 (io : Bool) (n : Nat) (ds : List D) : Ee :=
  (match io, ds with
    | true, d :: r => .io d :: r.map .val
    | _, ds => ds.map .val) ++ List.replicate (n - ds.length) .un
/-- what the first slot then holds -/
def ioD (io : Bool) (en : Ee) : Option D := match io with
  | true => (match (en[(0 : Nat)]? : Option Vg.Slot) with
    | some (.io d) => some d
    | _ => none)
  | false => some .non
/-- the answer that a body gives is the one that is told -/
def retD (fr : Bool) (r : RV) (en : Ee) : Option D := match fr, r with
  | true, .f d => some d
  | true, .o i => (match en[i]? with
    | some (.own d) => some d
    | _ => none)
  | false, .o i => (match en[i]? with
    | some (.own d) => some d
    | _ => none)
  | false, .v d => some d
  | false, .f d => some d
  | true, .v d => if isMut d then none else some d
/-- what a body is to reach -/
def kOf (c : Ct) (Q : D → D → Prop) (X : Str → List (Str × D) → D → Prop) : Kx where
  nx := fun en => ∃ d', ioD c.io en = some d' ∧ Q .non d'
  rt := fun r en => ∃ x d', retD c.fr r en = some x ∧ ioD c.io en = some d' ∧ Q x d'
  bk := fun _ => False
  ct := fun _ => False
  xq := fun x fs en => ∃ d', ioD c.io en = some d' ∧ X x fs d'
/-- the body keeps the promise, by data -/
def BodyOk (C : Cts) (c : Ct) (n np : Nat) (b : List Sm) : Prop :=
  (∀ ds Q X, c.wp ds Q X → ds.length = np) ∧ ∀ ds Q X, c.wp ds Q X → wMs C b (en0 c.io n ds) (kOf c Q X)

theorem en0_len {io : Bool} {n : Nat} {ds : List D} : (en0 io n ds).length = ds.length + (n - ds.length) := by
  unfold en0
  rw [List.length_append, List.length_replicate]
  split <;> simp
theorem start_len {N : List Str} {vs : List V} : (L2.start N vs).length = vs.length + (N.length - vs.length) := by
  unfold L2.start
  rw [List.length_append, List.length_map, List.length_replicate]
theorem start_get {N : List Str} {vs : List V} {i : Nat} {v : V} (h : vs[i]? = some v) : (L2.start N vs)[i]? = some (some v) := by
  have hi := (List.getElem?_eq_some_iff.mp h).1
  unfold L2.start
  rw [List.getElem?_append_left (by simpa using hi), List.getElem?_map, h]
  rfl
theorem en0_val {n : Nat} {ds : List D} {i : Nat} {x : Vg.Slot} (h : (en0 false n ds)[i]? = some x) : (∃ d, ds[i]? = some d ∧ x = .val d) ∨ x = .un := by
  unfold en0 at h
  simp only at h
  by_cases hi : i < ds.length
  · rw [List.getElem?_append_left (by simpa using hi), List.getElem?_map] at h
    rw [List.getElem?_eq_getElem hi] at h ⊢
    cases h
    exact .inl ⟨_, rfl, rfl⟩
  · rw [List.getElem?_append_right (by simpa using hi), List.getElem?_replicate] at h
    split at h
    · cases h; exact .inr rfl
    · cases h
theorem en0_io {n : Nat} {d0 : D} {ds : List D} {i : Nat} {x : Vg.Slot} (h : (en0 true n (d0 :: ds))[i]? = some x) : (i = 0 ∧ x = .io d0) ∨ (∃ j d, i = j + 1 ∧ ds[j]? = some d ∧ x = .val d) ∨ x = .un := by
  unfold en0 at h
  simp only at h
  cases i with
  | zero => cases h; exact .inl ⟨rfl, rfl⟩
  | succ j =>
    rw [List.cons_append, List.getElem?_cons_succ] at h
    by_cases hi : j < ds.length
    · rw [List.getElem?_append_left (by simpa using hi), List.getElem?_map] at h
      rw [List.getElem?_eq_getElem hi] at h
      cases h
      exact .inr (.inl ⟨j, _, rfl, List.getElem?_eq_getElem hi, rfl⟩)
    · rw [List.getElem?_append_right (by simpa using hi), List.getElem?_replicate] at h
      split at h
      · cases h; exact .inr (.inr rfl)
      · cases h
section
variable {S : Sr0} {N : List Str} {np : Nat} {vs : List V} {ds : List D} {H F : Hp}
theorem rel0 (hF : Same F H) (a : RpAll S.K F vs ds) : Rel S.K (en0 false N.length ds) (L2.start N vs) H F where
  sub := hF
  len := by rw [en0_len, start_len, a.length]
  val := fun i d h => by
    rcases en0_val h with ⟨d', e, z⟩ | z
    · cases z
      obtain ⟨v, ev, rv⟩ := a.get e
      exact ⟨v, start_get ev, rv⟩
    · cases z
  own := fun i d h => by rcases h with h | h <;> (rcases en0_val h with ⟨d', e, z⟩ | z <;> cases z)
  inj := fun i j d e p h => by rcases h with h | h <;> (rcases en0_val h with ⟨d', e, z⟩ | z <;> cases z)
theorem noOwn0 {a : Addr} : ¬ Own (en0 false N.length ds) (L2.start N vs) a := by
  rintro ⟨i, d, h, _⟩
  rcases h with h | h <;> (rcases en0_val h with ⟨d', e, z⟩ | z <;> cases z)
theorem rel1 {p : Addr} {d0 : D} (hF : Same F H) (r0 : RpS S.K F H p d0) (a : RpAll S.K F vs ds) : Rel S.K (en0 true N.length (d0 :: ds)) (L2.start N (.ref p :: vs)) H F where
  sub := hF
  len := by rw [en0_len, start_len, List.length_cons, List.length_cons, a.length]
  val := fun i d h => by
    rcases en0_io h with ⟨_, z⟩ | ⟨j, d', e1, e2, z⟩ | z
    · cases z
    · cases z
      subst e1
      obtain ⟨v, ev, rv⟩ := a.get e2
      exact ⟨v, start_get (by rw [List.getElem?_cons_succ]; exact ev), rv⟩
    · cases z
  own := fun i d h => by
    rcases h with h | h
    · rcases en0_io h with ⟨_, z⟩ | ⟨j, d', e1, e2, z⟩ | z <;> cases z
    · rcases en0_io h with ⟨e1, z⟩ | ⟨j, d', e1, e2, z⟩ | z
      · cases z
        subst e1
        exact ⟨p, start_get rfl, r0⟩
      · cases z
      · cases z
  inj := fun i j d e q h1 h2 _ _ => by
    have z1 : i = 0 := by
      rcases h1 with h | h
      · rcases en0_io h with ⟨_, z⟩ | ⟨j, d', e1, e2, z⟩ | z <;> cases z
      · rcases en0_io h with ⟨e1, z⟩ | ⟨j, d', e1, e2, z⟩ | z
        · exact e1
        · cases z
        · cases z
    have z2 : j = 0 := by
      rcases h2 with h | h
      · rcases en0_io h with ⟨_, z⟩ | ⟨j, d', e1, e2, z⟩ | z <;> cases z
      · rcases en0_io h with ⟨e1, z⟩ | ⟨j, d', e1, e2, z⟩ | z
        · exact e1
        · cases z
        · cases z
    rw [z1, z2]
theorem own1 {p a : Addr} {d0 : D} : Own (en0 true N.length (d0 :: ds)) (L2.start N (.ref p :: vs)) a → a = p := by
  rintro ⟨i, d, h, e⟩
  have z1 : i = 0 := by
    rcases h with h | h
    · rcases en0_io h with ⟨_, z⟩ | ⟨j, d', e1, e2, z⟩ | z <;> cases z
    · rcases en0_io h with ⟨e1, z⟩ | ⟨j, d', e1, e2, z⟩ | z
      · exact e1
      · cases z
      · cases z
  subst z1
  have : (L2.start N (.ref p :: vs))[0]? = some (some (V.ref p)) := start_get rfl
  rw [this] at e
  cases e
  rfl
/-- from a step of a body to what a call leaves -/
theorem CPost.of0 {en' : Ee} {σ' : L2.St} {H' F' : Hp} (R : Rel S.K en' σ' H' F') (s : Step (en0 false N.length ds) (L2.start N vs) H F en' σ' H' F') : CPost none H F H' F' where
  grow := s.grow
  sub := R.sub
  fresh := fun a h h' => (s.fresh a h h').elim id fun w => absurd w noOwn0
  keep := fun a o e f _ => s.keep a o e f noOwn0
  there := s.there
theorem CPost.of1 {p : Addr} {d0 : D} {en' : Ee} {σ' : L2.St} {H' F' : Hp} (R0 : Rel S.K (en0 true N.length (d0 :: ds)) (L2.start N (.ref p :: vs)) H F) (R : Rel S.K en' σ' H' F') (s : Step (en0 true N.length (d0 :: ds)) (L2.start N (.ref p :: vs)) H F en' σ' H' F')
    (hp : F' p = none) : CPost (some p) H F H' F' where
  grow := s.grow
  sub := R.sub
  fresh := fun a h h' => (s.fresh a h h').elim id fun w => by
    rw [own1 w] at h'
    exact absurd hp h'
  keep := fun a o e f n => s.keep a o e f fun w => n (by rw [own1 w])
  there := s.there
theorem rpc_new {K : PySem.W.Frag} {H H' F' : Hp} {r : D} {v : V} (h : ∃ q o, v = .ref q ∧ H q = none ∧ F' q = none ∧ H' q = some o ∧ RpO K F' o r) : RpC K true H H' F' r v := by
  obtain ⟨q, o, ev, h1, h2, h3, ro⟩ := h
  have hm : isMut r = true := by cases ro <;> rfl
  unfold RpC
  rw [hm]
  exact ⟨q, o, ev, h1, h2, h3, ro⟩
theorem rpc_val {K : PySem.W.Frag} {fr : Bool} {H H' F' : Hp} {r : D} {v : V} (hm : (fr && isMut r) = false) (h : Rp K F' v r) : RpC K fr H H' F' r v := by
  unfold RpC
  rw [hm]
  exact h
/-- the answer as it is told -/
theorem ret_ok {io : Option Addr} {en' : Ee} {σ' : L2.St} {H' F' : Hp} {fr : Bool} {r : RV} {v : V} {x : D} (R : Rel S.K en' σ' H' F') (cp : CPost io H F H' F') (rr : RpR S.K σ' en' H' F' r v) (n : New H r v) (e : retD fr r en' = some x)
    (ownN : ∀ (i : Nat) (d : D) (p : Addr), en'[i]? = some (.own d) → σ'[i]? = some (some (.ref p)) → H p = none ∧ io ≠ some p) (newN : ∀ p, H p = none → io ≠ some p) :
    ∃ F2, CPost io H F H' F2 ∧ Leq F' F2 ∧ RpC S.K fr H H' F2 x v ∧ ∀ p, io = some p → F' p = none → F2 p = none := by
  have frz1 : ∀ p o, F' p = none → H' p = some o → H p = none → io ≠ some p → CPost io H F H' (upd F' p o) ∧ Leq F' (upd F' p o) ∧ ∀ q, io = some q → F' q = none → upd F' p o q = none := fun p o h1 h2 h3 h4 =>
    ⟨{ grow := cp.grow.trans (leqUpd h1)
       sub := fun b u z => by
        by_cases hb : b = p
        · subst hb; rw [upd_same] at z; cases z; exact h2
        · rw [upd_ne hb] at z; exact cp.sub b u z
       fresh := fun a z1 z2 => by
        by_cases ha : a = p
        · rw [ha]; exact h3
        · rw [upd_ne ha] at z2; exact cp.fresh a z1 z2
       keep := cp.keep
       there := cp.there }, leqUpd h1, fun q z1 z2 => by
        have hq : q ≠ p := fun z => h4 (by rw [z1, z])
        rw [upd_ne hq]
        exact z2⟩
  unfold retD at e
  split at e
  · cases e
    obtain ⟨p, ev, fp, nO, o, hp, ro⟩ := rr
    exact ⟨F', cp, Leq.refl _, rpc_new ⟨p, o, ev, n _ p rfl ev, fp, hp, ro⟩, fun _ _ z => z⟩
  · rename_i i
    split at e
    · rename_i d hd
      cases e
      obtain ⟨p, ep, hf, o, ho, ro⟩ := R.own i _ (.inl hd)
      have rr' : σ'[i]? = some (some v) := rr
      rw [ep] at rr'
      cases rr'
      exact ⟨F', cp, Leq.refl _, rpc_new ⟨p, o, rfl, (ownN i _ p hd ep).1, hf, ho, ro⟩, fun _ _ z => z⟩
    · cases e
  · rename_i i
    split at e
    · rename_i d hd
      cases e
      obtain ⟨p, ep, hf, o, ho, ro⟩ := R.own i _ (.inl hd)
      have rr' : σ'[i]? = some (some v) := rr
      rw [ep] at rr'
      cases rr'
      obtain ⟨h1, h2⟩ := ownN i _ p hd ep
      obtain ⟨c1, c2, c3⟩ := frz1 p o hf ho h1 h2
      refine ⟨_, c1, c2, ?_, c3⟩
      cases ro with
      | lst a => exact Rp.lst upd_same (a.mono c2)
      | dct a => exact Rp.dct (.inl upd_same) (a.mono c2)
    · cases e
  · cases e
    exact ⟨F', cp, Leq.refl _, rpc_val (by simp) rr, fun _ _ z => z⟩
  · cases e
    obtain ⟨p, ev, fp, nO, o, hp, ro⟩ := rr
    obtain ⟨c1, c2, c3⟩ := frz1 p o fp hp (n _ p rfl ev) (newN p (n _ p rfl ev))
    subst ev
    refine ⟨_, c1, c2, ?_, c3⟩
    cases ro with
    | lst a => exact Rp.lst upd_same (a.mono c2)
    | dct a => exact Rp.dct (.inl upd_same) (a.mono c2)
  · split at e
    · cases e
    · rename_i hm
      cases e
      exact ⟨F', cp, Leq.refl _, rpc_val (by simp [hm]) rr, fun _ _ z => z⟩
/-- THE RULE: a body that keeps the promise by data keeps it by the layer's reading -/
theorem body_ok {c : Ct} {b : List Sm} {Q : VK} {E : XK} (g : GvOk S) (Kc : ClOk S) (B : BodyOk S.C c N.length np b) (hW : ∀ cls d σ H', S.W cls d σ H' = E cls d H') (h : spOf S.K S.cl c vs H Q E) :
    tMs S b { nx := fun _ H' => Q .non H', rt := Q } (L2.start N vs) H := by
  obtain ⟨F, hF, h⟩ := h
  cases hio : c.io with
  | false =>
    rw [hio] at h
    obtain ⟨ds, a, w⟩ := h
    have wb := B.2 _ _ _ w
    rw [hio] at wb
    have R0 := rel0 (N := N) hF a
    have nil1 : ∀ {en' : Ee} {σ' : L2.St} {H' F' : Hp}, Step (en0 false N.length ds) (L2.start N vs) H F en' σ' H' F' → ∀ (i : Nat) (d : D) (p : Addr), en'[i]? = some (.own d) → σ'[i]? = some (some (.ref p)) → H p = none ∧ (none : Option Addr) ≠ some p := fun {en' σ' H' F'} s i d p h1 h2 =>
      ⟨(s.sub p ⟨i, d, .inl h1, h2⟩).elim id fun w => absurd w noOwn0, by intro z; cases z⟩
    refine liftMs S g Kc b (en0 false N.length ds) (L2.start N vs) H F _ _ R0 wb
      { nx := fun en' σ' H' F' ⟨d', e1, k⟩ R s => k .non H' F' (.of0 R s) (rpc_val (by simp [isMut]) .non)
        bk := fun _ _ _ _ k => k.elim
        ct := fun _ _ _ _ k => k.elim
        rt := fun r en' σ' v H' F' ⟨x, d', e1, e2, k⟩ R s rr n => ?_
        xq := fun x fs0 fs oa en' σ' H' F' ⟨d', e1, k⟩ ec R s rx nx => ?_ }
    · obtain ⟨F2, cp, _, rc, _⟩ := ret_ok R (.of0 R s) rr n e1 (nil1 s) (fun p _ z => by cases z)
      exact k v H' F2 cp rc
    · rw [hW]
      exact k _ oa H' F' ec (.of0 R s) rx nx
  | true =>
    rw [hio] at h
    obtain ⟨p, vs', d0, ds, rfl, r0, a, w⟩ := h
    have wb := B.2 _ _ _ w
    rw [hio] at wb
    have R0 := rel1 (N := N) hF r0 a
    obtain ⟨fp, o0, hp0, _⟩ := id r0
    -- the first slot stays
    have first : ∀ {en' : Ee} {σ' : L2.St} {H' F' : Hp} {d' : D}, Rel S.K en' σ' H' F' → Step (en0 true N.length (d0 :: ds)) (L2.start N (.ref p :: vs')) H F en' σ' H' F' → ioD true en' = some d' → en'[(0 : Nat)]? = some (Vg.Slot.io d') ∧ σ'[(0 : Nat)]? = some (some (V.ref p)) ∧ RpS S.K F' H' p d' := fun {en' σ' H' F' d'} R s e => by
      have e0 : en'[(0 : Nat)]? = some (Vg.Slot.io d') := by
        unfold ioD at e
        simp only at e
        split at e
        · rename_i d hd
          cases e
          exact hd
        · cases e
      obtain ⟨s0, _⟩ := s.io 0 d0 rfl
      have s1 : σ'[(0 : Nat)]? = some (some (V.ref p)) := s0.trans (start_get rfl)
      obtain ⟨q, eq, rq⟩ := R.own 0 d' (.inr e0)
      rw [s1] at eq
      cases eq
      exact ⟨e0, s1, rq⟩
    refine liftMs S g Kc b (en0 true N.length (d0 :: ds)) (L2.start N (.ref p :: vs')) H F _ _ R0 wb
      { nx := fun en' σ' H' F' ⟨d', e1, k⟩ R s => ?_
        bk := fun _ _ _ _ k => k.elim
        ct := fun _ _ _ _ k => k.elim
        rt := fun r en' σ' v H' F' ⟨x, d', e1, e2, k⟩ R s rr n => ?_
        xq := fun x fs0 fs oa en' σ' H' F' ⟨d', e1, k⟩ ec R s rx nx => ?_ }
    · rw [hio] at e1
      obtain ⟨_, _, rq⟩ := first R s e1
      exact k .non H' F' (.of1 R0 R s rq.1) rq (rpc_val (by simp [isMut]) .non)
    · rw [hio] at e2
      obtain ⟨z0, z1, rq⟩ := first R s e2
      have ownN : ∀ (i : Nat) (d : D) (q : Addr), en'[i]? = some (.own d) → σ'[i]? = some (some (.ref q)) → H q = none ∧ (some p : Option Addr) ≠ some q := fun i d q h1 h2 => by
        have hq : p ≠ q := fun y => by
          subst y
          have hi := R.inj i 0 d d' p (.inl h1) (.inr z0) h2 z1
          subst hi
          rw [z0] at h1
          cases h1
        refine ⟨(s.sub q ⟨i, d, .inl h1, h2⟩).elim id fun w => absurd (own1 w).symm hq, fun y => hq (Option.some.inj y)⟩
      have newN : ∀ q, H q = none → (some p : Option Addr) ≠ some q := fun q hq y => by
        have : p = q := Option.some.inj y
        rw [← this, hp0] at hq
        cases hq
      obtain ⟨F2, cp, sF, rc, keepN⟩ := ret_ok R (.of1 R0 R s rq.1) rr n e1 ownN newN
      obtain ⟨f1, o1, ho1, ro1⟩ := rq
      exact k v H' F2 cp ⟨keepN p rfl f1, o1, ho1, ro1.mono sF⟩ rc
    · rw [hio] at e1
      obtain ⟨_, _, rq⟩ := first R s e1
      rw [hW]
      exact k _ oa H' F' ec (.of1 R0 R s rq.1) rq rx nx
end
end Vg

set_option Elab.async false
set_option linter.all false
set_option maxRecDepth 100000
namespace Vg
open PySem PySem.Spec PyProof.Rows L2
structure FnG (P : Program) (w : World) (K : PySem.W.Frag) (mg : Str → Option Value) (base : Heap) (k : Nat) (f : Addr) (fd : FuncData) (ps : List Str) (sp : Sp) : Prop where
  len : ∀ vs H Q E, sp vs H Q E → vs.length = ps.length
  run : ∀ (A : Around) (outer : List Env) (s : Shared) (H : Hp) (args : Args) (us : List Value) (vs : List V) (Q : VK) (E : XK), A.guards = some [] → Room k A → Env0 P w K mg base A outer s H → BindsTo s fd args (ps.zip us) → Vals vs us →
    sp vs H Q E → codeAny (model P w) A (.call (.ref f) args) (CR (L2.CX P w) outer P w H s Q E) s
theorem FnG.mono {P : Program} {w : World} {K : PySem.W.Frag} {mg : Str → Option Value} {base : Heap} {j k : Nat} {f : Addr} {fd : FuncData} {ps : List Str} {sp : Sp} (F : FnG P w K mg base j f fd ps sp) (h : j ≤ k) : FnG P w K mg base k f fd ps sp :=
  ⟨F.len, fun A outer s H args us vs Q E hg hr => F.run A outer s H args us vs Q E hg (hr.mono h)⟩
section
variable {X : Cx} {k : Nat} {f : Addr} {fd : FuncData} {ps : List Str} {sp : Sp} {E : L2.St → XK} {x : Str} {p pos : Pos} {e : Expr} {es : List Expr} {t : TA}
/-- f(e, ..) -/
theorem pe_callG (F : FnG X.prog X.w X.K X.mg X.base k f fd ps sp) (hg : X.A.guards = some []) (hr : Room k X.A) (gl : Gl X x) (hm : X.mg x = some (.ref f)) (hk : PySem.W.keepIn X.K (.ref f) = true) (hb : Binds X.K fd ps [])
    (hx : ∀ σ, PassesAt (L2.CX X.prog X.w) X σ (E σ)) (ha : PA X (e :: es) t) (hdb : (x == ("__debug__" : Str)) = false) (he : starEach (e :: es) X.env = (false, eval e X.env) :: starEach es X.env) (hpl : (backTo pos (starEach es X.env)).any (·.1) = false) :
    PE X (.Call (.Name x p) (e :: es) [] pos) (tCallSD sp [] E t) := by
  refine ⟨fun pins s σ H Q I h => wpAny_Call_Name_kw (ld_glob I gl hm ?_ hdb)⟩
  refine PySem.W.callWith_K (h₀ := X.base) I.ok.mod.kin hk (thn (ha.run pos pins s σ H _ I h) fun us s1 ⟨vs, H1, I1, rv, q⟩ => ⟨I1.kIn, ?_⟩) he hpl
  have q : sp (vs ++ []) H1 Q (E σ) := q
  rw [List.append_nil] at q
  show wpAny _ _ (call (.ref f) us) _ _ _
  have ln : (us ++ []).length = ps.length := by
    rw [List.append_nil, ← rv.length]
    exact F.len _ _ _ _ q
  have bd := hb s1 us I1.kIn ln
  rw [List.append_nil] at bd
  refine wpAny_call (codeAny_mono (F.run X.A X.stack s1 H1 ⟨us, []⟩ us vs Q (E σ) hg hr I1.env0 bd rv q) fun r s2 done => ?_)
  match r, done with
  | .error e, d => exact hx σ pins H1 s1 e s2 I1 d
  | .ok (.ret u), d => exact I1.after d
  | .ok .next, d => exact d.elim
  | .ok .brk, d => exact d.elim
  | .ok .cont, d => exact d.elim
/-- f(e, .., k = v, ..) -/
theorem pe_callNG {n : Nat} {ks : List Str} {kws : List Keyword} {tk : TA} {g : List Value → List Value → List Value} {gV gW : List V → List V → List V} (F : FnG X.prog X.w X.K X.mg X.base k f fd ps sp) (same : ∀ vs zs, vs.length = n → zs.length = ks.length → gV vs zs = gW vs zs) (hg : X.A.guards = some []) (hr : Room k X.A) (gl : Gl X x) (hm : X.mg x = some (.ref f)) (hk : PySem.W.keepIn X.K (.ref f) = true)
    (hb : KBn X.K fd ps n ks g gV) (hx : ∀ σ, PassesAt (L2.CX X.prog X.w) X σ (E σ)) (ha : PA X (e :: es) t) (hw : PK X kws tk) (hall : (backToKw pos (keywordEach kws X.env)).all (·.1.isSome) = true) (hks : (backToKw pos (keywordEach kws X.env)).filterMap (·.1) = ks)
    (hdb : (x == ("__debug__" : Str)) = false) (he : starEach (e :: es) X.env = (false, eval e X.env) :: starEach es X.env) (hpl : ((backTo pos (starEach (e :: es) X.env)).any (·.1) || (backToKw pos (keywordEach kws X.env)).any (·.1.isNone)) = false) :
    PE X (.Call (.Name x p) (e :: es) kws pos) (tCallNG n ks.length sp gW E t tk) := by
  refine ⟨fun pins s σ H Q I h => wpAny_Call_Name_kw (ld_glob I gl hm ?_ hdb)⟩
  refine PySem.W.callWith_KW (h₀ := X.base) I.ok.mod.kin hk hall (thn (ha.run pos pins s σ H _ I h) fun us s1 ⟨vs, H1, I1, rv, q⟩ => thn (hw.run pos pins s1 σ H1 _ I1 q) fun ws s2 ⟨zs, H2, I2, rz, ⟨l1, l2⟩, q2⟩ => ⟨I2.kIn, ?_⟩) hpl he
  rw [hks]
  show wpAny _ _ (call (.ref f) us (ks.zip ws)) _ _ _
  rw [← same vs zs l1 l2] at q2
  have bd := hb.to s2 us ws I2.kIn (rv.length.symm.trans l1) (rz.length.symm.trans l2)
  refine wpAny_call (codeAny_mono (F.run X.A X.stack s2 H2 ⟨us, ks.zip ws⟩ (g us ws) (gV vs zs) Q (E σ) hg hr I2.env0 bd (hb.rel rv rz) q2) fun r s3 done => ?_)
  match r, done with
  | .error e, d => exact hx σ pins H2 s2 e s3 I2 d
  | .ok (.ret u), d => exact I2.after d
  | .ok .next, d => exact d.elim
  | .ok .brk, d => exact d.elim
  | .ok .cont, d => exact d.elim
end
/-- THE RULE for a def: by its body's reading -/
theorem fnG_of {P : Program} {w : World} {K : PySem.W.Frag} {mg : Str → Option Value} {base : Heap} {k : Nat} {f : Addr} {x qual : Str} {params : Arguments} {body : List Stmt} {scope : Scope} {dV kV doc pm cdv ct oc : Value} {an od : Option Addr}
    {osl : Array (Option Value)} {N ps : List Str} {sp : Sp} (lk : K.lookup f = some ⟨oc, od, .func (PySem.W.fnOf x qual params body scope dV kV doc pm an cdv ct), osl⟩) (hcd : PySem.W.codeIn K cdv qual = true) (S : FnScope N ps scope)
    (len : ∀ vs H Q E, sp vs H Q E → vs.length = ps.length)
    (hbody : ∀ (A : Around) (outer : List Env) (s : Shared) (H : Hp) (vs : List V) (Q : VK) (E : XK), (A.deeper (envOfC qual scope s.heap.objs.size f cdv)).guards = some [] → Room k (A.deeper (envOfC qual scope s.heap.objs.size f cdv)) → sp vs H Q E →
      ∃ t, PSs (cxOf (L2.CX P w) P w K mg base N qual scope f cdv A outer s H E) body t ∧ t { nx := fun _ H' => Q .non H', rt := Q } (L2.start N vs) H) :
    FnG P w K mg base (k + 1) f (PySem.W.fnOf x qual params body scope dV kV doc pm an cdv ct) ps sp := by
  refine ⟨len, fun A outer s H args us vs Q E hg hr e0 hb rv hsp => ?_⟩
  have kx : K.In s.heap := e0.mod.kin.keeps fun b o z => (e0.bs b o z).1
  have nl : s.heap.NoLimit := e0.mod.nolimit.keeps fun b o z => (e0.bs b o z).1
  refine codeAny_call_function hr.depth (kx _ _ lk) rfl S.co S.gen rfl (PySem.W.codeRec_of kx hcd) (hb _ _ _ _ ?_)
  refine wpAny_newFunctionEnv_cells S.kind (fun y hy => (S.par y.1 (List.of_mem_zip hy).1).imp id fun q => ⟨q, PySem.W.cellsFrom_some _ _ _ (.inl q)⟩) fun env he s1 x1 => ?_
  subst he
  refine ⟨nl.keeps x1.toInCall.keep, codeAny_func ?_⟩
  obtain ⟨t, ht, hq⟩ := hbody A outer s H vs Q E hg (hr.deeper _) hsp
  have I := inv_start (CX := L2.CX P w) (E := E) S hr.hd e0 (len _ _ _ _ hsp) rv x1
  refine wpAny_mono (ht.run [] s1 _ H _ I hq) (fun fl s' hs => ?_) fun e s' hs => hs
  match fl, hs with
  | .ret u, ⟨v, σ', H', J, r1, q1⟩ => exact ⟨v, H', J.os, J.bare, J.base, J.hok, r1, q1⟩
  | .next, ⟨σ', H', J, q1⟩ => exact ⟨V.non, H', J.os, J.bare, J.base, J.hok, rfl, q1⟩
  | .brk, ⟨_, _, _, q1⟩ => exact q1.elim
  | .cont, ⟨_, _, _, q1⟩ => exact q1.elim
end Vg

set_option Elab.async false
set_option linter.all false
set_option maxRecDepth 100000
namespace Vg
open PySem PySem.Spec PyProof.Rows L2
def nmOk (x : Str) : Bool := !(x == ("__debug__" : Str)) && !(x == ("__classdict__" : Str)) && !(x == ("__name__" : Str))
def visB (sc : Scope) (x : Str) : Bool := match sc.names.lookup x with
  | some .local => true
  | some .cell => true
  | some .free => true
  | _ => false
def locB (sc : Scope) (x : Str) : Bool := match sc.names.lookup x with
  | some .local => true
  | some .cell => true
  | _ => false
def glB (sc : Scope) (x : Str) : Bool := match sc.names.lookup x with
  | some .globalImplicit => true
  | _ => false
def isStar : Expr → Bool
  | .Starred _ _ => true
  | _ => false
def isSetE : Expr → Bool
  | .Set _ _ _ => true
  | _ => false
def isSlice : Expr → Bool
  | .Slice _ _ _ _ => true
  | _ => false
def isCompE : Expr → Bool
  | .ListComp _ _ _ _ => true
  | .SetComp _ _ _ _ => true
  | .DictComp _ _ _ _ _ => true
  | _ => false
/-- a value whose truth is asked as it stands -/
def plainT : Expr → Bool
  | .Name _ _ => true
  | .Call _ _ _ _ => true
  | .Subscript _ _ _ => true
  | .Constant _ _ _ => true
  | .BinOp _ _ _ _ => true
  | .ListComp _ _ _ _ => true
  | .List _ _ => true
  | .Tuple _ _ _ => true
  | .Attribute _ _ _ => true
  | _ => false
/-- what may stand ahead of a method's name -/
def recvOk : Expr → Bool
  | .Call (.Name _ _) [] [] _ => false
  | _ => true
structure Bi where
  b : Str → Bool
  ps : Str → Bool
  kw : Str → Nat → List Str → List (Nat ⊕ Str) → Bool
  /-- own classes of exceptions; how they are called -/
  oc : Str → Bool := fun _ => false
  xc : Str → Nat → List Str → List (Nat ⊕ Str) → Bool := fun _ _ _ _ => false
instance : CoeFun Bi fun _ => Str → Bool := ⟨Bi.b⟩
/-- the name of a default of a def -/
def dotted (y : Str) : Bool := y.cps.toList.any fun c => decide (c = 46)
/-- the class that is named -/
def cCn (bi : Bi) (sc : Scope) : Cn → Expr → Bool
  | .own c, e => match e with
    | .Name x _ => decide (x = c) && glB sc x && nmOk x && bi.oc x
    | _ => false
  | .blt b, e => match e with
    | .Name x _ => decide (x = Str.ofString b.nm) && glB sc x && nmOk x && bi x
    | _ => false
def cCns (bi : Bi) (sc : Scope) : List Cn → List Expr → Bool
  | [], es => es.isEmpty
  | c :: cs, es => match es with
    | e :: r => !isStar e && cCn bi sc c e && cCns bi sc cs r
    | [] => false
def cClz (bi : Bi) (sc : Scope) (cs : List Cn) : Bool → Expr → Bool
  | false, e => match cs with
    | [c] => !isStar e && cCn bi sc c e
    | _ => false
  | true, e => match e with
    | .Tuple es _ _ => cCns bi sc cs es
    | _ => false
/-- the names of a display of targets, and their places -/
def tgOk (N : List Str) (scope inner : Scope) : List Nat → List Expr → Bool
  | [], ts => ts.isEmpty
  | i :: is, ts => match ts with
    | .Name x _ :: r => decide (N[i]? = some x) && locB scope x && locB inner x && tgOk N scope inner is r
    | _ => false
def tgNames : List Expr → List Str
  | .Name x _ :: r => x :: tgNames r
  | _ => []
def isEnu : Sr → Bool
  | .enu _ => true
  | _ => false
mutual
def cE (bi : Bi) (sc : Scope) (N : List Str) : Ex → Expr → Bool
  | .var i, e => match e with
    | .Name x _ => decide (N[i]? = some x) && visB sc x && nmOk x
    | _ => false
  | .cst d, e => match e with
    | .Constant c _ _ => (match d, c with
      | .int i, .int j => decide (i = j)
      | .str i, .str j => decide (i = j)
      | .bl i, .bool j => decide (i = j)
      | .non, .none => true
      | _, _ => false)
    | _ => false
  | .gl y, e => match e with
    | .Name x _ => decide (x = y) && glB sc x && nmOk x && !dotted y
    | _ => false
  | .bty n, e => match e with
    | .Name x _ => decide (x = Str.ofString n.nm) && glB sc x && bi x && nmOk x
    | _ => false
  | .bin o a b, e => match e with
    | .BinOp l p r _ => decide (o = p) && cE bi sc N a l && cE bi sc N b r
    | _ => false
  | .neg a, e => match e with
    | .UnaryOp .USub r _ => cE bi sc N a r
    | _ => false
  | .cmp o a b, e => match e with
    | .Compare l [p] [r] _ => decide (o = p) && cE bi sc N a l && cE bi sc N b r && !behindInMarks o r
    | _ => false
  | .cmp2 o p a b c, e => match e with
    | .Compare l [q, r] [y, z] _ => decide (o = q) && decide (p = r) && cE bi sc N a l && cE bi sc N b y && cE bi sc N c z && !lastMarks [o, p] [y, z]
    | _ => false
  | .and a b, e => match e with
    | .BoolOp .And (x :: y :: rest) pos => cE bi sc N a x && (match rest with
      | [] => cE bi sc N b y
      | z :: r => cE bi sc N b (.BoolOp .And (y :: z :: r) pos))
    | _ => false
  | .or a b, e => match e with
    | .BoolOp .Or (x :: y :: rest) pos => cE bi sc N a x && (match rest with
      | [] => cE bi sc N b y
      | z :: r => cE bi sc N b (.BoolOp .Or (y :: z :: r) pos))
    | _ => false
  | .not a, e => match e with
    | .UnaryOp .Not r _ => cE bi sc N a r
    | _ => false
  | .ife c a b, e => match e with
    | .IfExp t x y _ => cT bi sc N c t && cE bi sc N a x && cE bi sc N b y
    | _ => false
  | .idx a i, e => match e with
    | .Subscript x y _ => cE bi sc N a x && cE bi sc N i y && !isSlice y
    | _ => false
  | .slc a lo hi, e => match e with
    | .Subscript x (.Slice l h none _) _ => cE bi sc N a x && cO bi sc N lo l && cO bi sc N hi h
    | _ => false
  | .tup es, e => match e with
    | .Tuple xs _ _ => cA bi sc N es xs
    | _ => false
  | .lst es, e => match e with
    | .List xs _ => cA bi sc N es xs
    | _ => false
  | .dct ps, e => match e with
    | .Dict ks vs _ => cP bi sc N ps ks vs && decide (ks.length ≤ 15)
    | _ => false
  | .lc x i s c, e => match e with
    | .ListComp elt [⟨.Name y _, iter, ifs, 0⟩] scope _ => decide (N[i]? = some y) && blkC N sc scope [(y, i)] && locB scope y && locB (relS scope sc) y && cI bi sc N s iter && !isEnu s && cF bi (relS scope sc) N c ifs && cE bi (relS scope sc) N x elt
    | _ => false
  | .call f es, e => match e with
    | .Call (.Name x _) (a :: as) [] _ => decide (x = f) && glB sc x && nmOk x && cA bi sc N es (a :: as) && bi.ps f
    | _ => false
  | .callk f es ks kes fl, e => match e with
    | .Call (.Name x _) (a :: as) kws _ => decide (x = f) && glB sc x && nmOk x && bi.kw f es.len ks fl && cA bi sc N es (a :: as) && cW bi sc N ks kes kws
    | _ => false
  | .fld a n, e => match e with
    | .Attribute r b _ => decide (b = n) && recvOk r && cE bi sc N a r
    | _ => false
  | .isx a cs tup, e => match e with
    | .Call (.Name x _) [y, z] [] _ => decide (x = "isinstance") && glB sc x && bi x && !isStar y && !isStar z && cE bi sc N a y && cClz bi sc cs tup z
    | _ => false
  | .mkx c es ks kes fl, e => match e with
    | .Call (.Name x _) as kws _ => decide (x = c) && glB sc x && nmOk x && bi.oc c && bi.xc c es.len ks fl && cA bi sc N es as && cW bi sc N ks kes kws
    | _ => false
  | .lcU x is s c, e => match e with
    | .ListComp elt [⟨.Tuple ts _ _, iter, ifs, 0⟩] scope _ => tgOk N scope (relS scope sc) is ts && blkC N sc scope ((tgNames ts).zip is) && cI bi sc N s iter && cF bi (relS scope sc) N c ifs && cE bi (relS scope sc) N x elt
    | _ => false
  | .blt f es, e => match e with
    | .Call (.Name x _) (a :: as) [] _ => decide (x = f.nm) && glB sc x && bi x && nmOk x && cA bi sc N es (a :: as)
    | _ => false
  | .bty1 f es, e => match e with
    | .Call (.Name x _) (a :: as) [] _ => decide (x = f.nm) && glB sc x && bi x && nmOk x && cA bi sc N es (a :: as)
    | _ => false
  | .mth o m es, e => match e with
    | .Call (.Attribute r n apos) as [] cpos => decide (n = m.nm) && recvOk r && (apos.endLine == cpos.line) && decide (as.length < 20) && cE bi sc N o r && cA bi sc N es as
    | _ => false
  | .mut o m es, e => match e with
    | .Call (.Attribute r n apos) as [] cpos => decide (n = m.nm) && recvOk r && (apos.endLine == cpos.line) && decide (as.length < 20) && cE bi sc N o r && cA bi sc N es as
    | _ => false
def cT (bi : Bi) (sc : Scope) (N : List Str) : Te → Expr → Bool
  | .val x, e => match x with
    | .cmp o a b => (match e with
      | .Compare l [p] [r] _ => decide (o = p) && cE bi sc N a l && cE bi sc N b r && !behindInMarks o r
      | _ => false)
    | .cmp2 o p a b c => (match e with
      | .Compare l [q, r] [y, z] _ => decide (o = q) && decide (p = r) && cE bi sc N a l && cE bi sc N b y && cE bi sc N c z && !lastMarks [o, p] [y, z]
      | _ => false)
    | x => plainT e && cE bi sc N x e
  | .and a b, e => match e with
    | .BoolOp .And (x :: y :: rest) pos => cT bi sc N a x && (match rest with
      | [] => cT bi sc N b y
      | z :: r => cT bi sc N b (.BoolOp .And (y :: z :: r) pos))
    | _ => false
  | .or a b, e => match e with
    | .BoolOp .Or (x :: y :: rest) pos => cT bi sc N a x && (match rest with
      | [] => cT bi sc N b y
      | z :: r => cT bi sc N b (.BoolOp .Or (y :: z :: r) pos))
    | _ => false
  | .not a, e => match e with
    | .UnaryOp .Not r _ => cT bi sc N a r
    | _ => false
def cA (bi : Bi) (sc : Scope) (N : List Str) : Es → List Expr → Bool
  | .nil, xs => xs.isEmpty
  | .cons e es, xs => match xs with
    | y :: ys => !isStar y && cE bi sc N e y && cA bi sc N es ys
    | [] => false
def cW (bi : Bi) (sc : Scope) (N : List Str) : List Str → Es → List Keyword → Bool
  | ks, .nil, xs => ks.isEmpty && xs.isEmpty
  | ks, .cons e es, xs => match ks, xs with
    | k :: kr, ⟨some j, y, _⟩ :: ys => decide (j = k) && cE bi sc N e y && cW bi sc N kr es ys
    | _, _ => false
def cO (bi : Bi) (sc : Scope) (N : List Str) : Oe → Option Expr → Bool
  | .no, e => e.isNone
  | .ex x, e => match e with
    | some y => cE bi sc N x y
    | none => false
def cF (bi : Bi) (sc : Scope) (N : List Str) : Ot → List Expr → Bool
  | .no, e => e.isEmpty
  | .ex x, e => match e with
    | [y] => cT bi sc N x y
    | _ => false
def cI (bi : Bi) (sc : Scope) (N : List Str) : Sr → Expr → Bool
  | .seq x, e => cE bi sc N x e && !isSetE e
  | .enu a, e => match e with
    | .Call (.Name x _) [y] [] _ => decide (x = "enumerate") && glB sc x && bi x && !isStar y && cE bi sc N a y
    | _ => false
  | .rng a, e => match e with
    | .Call (.Name x _) [y] [] _ => decide (x = "range") && glB sc x && bi x && !isStar y && cE bi sc N a y
    | _ => false
  | .rng2 a b, e => match e with
    | .Call (.Name x _) [y, z] [] _ => decide (x = "range") && glB sc x && bi x && !isStar y && !isStar z && cE bi sc N a y && cE bi sc N b z
    | _ => false
def cP (bi : Bi) (sc : Scope) (N : List Str) : Ps → List (Option Expr) → List Expr → Bool
  | .nil, ks, vs => ks.isEmpty && vs.isEmpty
  | .cons k e ps, ks, vs => match ks, vs with
    | some (.Constant (.str j) _ _) :: kr, v :: vr => decide (j = k) && cE bi sc N e v && cP bi sc N ps kr vr
    | _, _ => false
end
/-- where a piece of the text stands -/
structure Gd (S : Sr0) (bi : Bi) (sc : Scope) (N : List Str) (lv : Nat) (X : Cx) : Prop where
  nx : X.N = N
  nd : N.Nodup
  K : X.K = S.K
  scn : X.env.scope.names = sc.names
  sck : X.env.scope.kind = .function
  kk : sc.kind = .function
  calm : X.calm = true
  gd : X.A.guards = some []
  room : Room lv X.A
  gl : ∀ x d, S.C.gt x = some d → dotted x = false → ∃ u, X.mg x = some u ∧ RelV (S.gv x) u
  kw : ∀ f c n ks fl, S.C.fn f = some c → bi.kw f n ks fl = true → ∃ fa fd ps g gV, X.mg f = some (.ref fa) ∧ PySem.W.keepIn X.K (.ref fa) = true ∧ KBn X.K fd ps n ks g gV ∧ (∀ vs zs, vs.length = n → zs.length = ks.length → gV vs zs = vs ++ fillV S.gv fl zs) ∧ FnG X.prog X.w X.K X.mg X.base lv fa fd ps (spOf S.K S.cl c)
  bz : ∀ x, bi x = true → X.mg x = none
  fn : ∀ f c, S.C.fn f = some c → bi.ps f = true → ∃ fa fd ps, X.mg f = some (.ref fa) ∧ PySem.W.keepIn X.K (.ref fa) = true ∧ Binds X.K fd ps [] ∧ FnG X.prog X.w X.K X.mg X.base lv fa fd ps (spOf S.K S.cl c)
  oc : ∀ c, bi.oc c = true → ∃ C, S.cl c = some C ∧ X.mg c = some (.ref C)
  xc : ∀ c n ks fl C ns, bi.xc c n ks fl = true → S.cl c = some C → S.C.xk c = some ns → ∃ gV, Mkb X.K C ns n ks gV ∧ ∀ vs zs, vs.length = n → zs.length = ks.length → gV vs zs = vs ++ fillV S.gv fl zs
  pass : ∀ σ, PassesAt (L2.CX X.prog X.w) X σ (WE S.W σ)
section
variable {S : Sr0} {bi : Bi} {sc : Scope} {N : List Str} {lv : Nat} {X : Cx}
theorem nm1 {x : Str} (h : nmOk x = true) : (x == ("__debug__" : Str)) = false ∧ (x == ("__classdict__" : Str)) = false ∧ x ≠ "__name__" := by
  unfold nmOk at h
  simp only [Bool.and_eq_true, Bool.not_eq_true'] at h
  exact ⟨h.1.1, h.1.2, fun z => by
    have := h.2
    rw [z] at this
    exact absurd this (by decide)⟩
theorem Gd.vis (G : Gd S bi sc N lv X) {x : Str} (h : visB sc x = true) : Vis X.env.scope x := by
  unfold Vis
  rw [G.scn]
  unfold visB at h
  split at h
  · exact .inl (by assumption)
  · exact .inr (.inl (by assumption))
  · exact .inr (.inr (by assumption))
  · cases h
theorem Gd.glob (G : Gd S bi sc N lv X) {x : Str} (h : glB sc x = true) : Gl X x := by
  show X.env.scope.names.lookup x = some .globalImplicit
  rw [G.scn]
  unfold glB at h
  split at h
  · assumption
  · cases h
theorem star1 {e : Expr} {es : List Expr} {env : Env} (h : isStar e = false) : starEach (e :: es) env = (false, eval e env) :: starEach es env := by
  cases e <;> first | rfl | (exact absurd h (by intro z; cases z))
theorem stars {env : Env} : ∀ {es : List Expr}, es.all (fun e => !isStar e) = true → starEach es env = es.map fun e => (false, eval e env)
  | [], _ => rfl
  | e :: es, h => by
    rw [List.all_cons, Bool.and_eq_true, Bool.not_eq_true'] at h
    rw [star1 h.1, stars h.2, List.map_cons]
theorem any_stars {env : Env} {pos : Pos} {es : List Expr} (h : es.all (fun e => !isStar e) = true) : (backTo pos (starEach es env)).any (·.1) = false := by
  rw [stars h]
  unfold backTo
  rw [List.map_map, List.any_map, List.any_eq_false]
  intro x _
  simp
theorem all_stars {env : Env} {pos : Pos} {es : List Expr} (h : es.all (fun e => !isStar e) = true) : (backTo pos (starEach es env)).all (fun x => !x.1) = true := by
  rw [stars h]
  unfold backTo
  rw [List.map_map, List.all_map, List.all_eq_true]
  intro x _
  simp
theorem plainIx {y : Expr} (h : isSlice y = false) : PlainIx y := fun o i => by
  cases y <;> first | rfl | (exact absurd h (by intro z; cases z))
theorem noFold {e : Expr} {env : Env} (h : isSetE e = false) : ∀ x, foldedSetIterable e env x = pure x := fun x => by
  cases e <;> first | rfl | (exact absurd h (by intro z; cases z))
theorem recv {o : Expr} {a : Str} {env : Env} (h : recvOk o = true) : attributeBase o a env (eval o env) = eval o env := by
  unfold recvOk at h
  split at h
  · cases h
  · rename_i hn
    unfold attributeBase
    split
    · exact absurd rfl (hn _ _ _)
    · rfl
theorem truth1 {e : Expr} {env : Env} (h : plainT e = true) : ∀ whole, isTrue e env whole = (do let v ← whole; standAt e.pos; holding [v] (truthy v)) := fun whole => by
  cases e <;> first | rfl | (exact absurd h (by intro z; cases z))
end
end Vg

set_option Elab.async false
set_option linter.all false
set_option maxRecDepth 100000
namespace Vg
open PySem PySem.Spec PyProof.Rows L2
section
variable {S : Sr0} {bi : Bi} {sc : Scope} {N : List Str} {lv : Nat} {X : Cx}
theorem relS_eq {scope a b : Scope} (hn : a.names = b.names) (h1 : a.kind = .function) (h2 : b.kind = .function) : relS scope a = relS scope b := by
  unfold relS
  rw [hn, h1, h2]
theorem blkC_eq {scope a b : Scope} {own : List (Str × Nat)} (hn : a.names = b.names) : blkC N a scope own = blkC N b scope own := by
  unfold blkC
  rw [hn]
theorem Gd.blk (G : Gd S bi sc N lv X) {scope : Scope} (hk : scope.kind = .function) (s : Shared) (H : Hp) (C : Addr) (cl : List (Str × Addr)) (fp : List Addr) : Gd S.blk bi (relS scope sc) N lv (X.blk s H scope (compEnvC scope cl C X.env) fp) where
  nx := G.nx
  nd := G.nd
  K := G.K
  scn := by
    show (relS scope X.env.scope).names = _
    rw [relS_eq G.scn G.sck G.kk]
  sck := hk
  kk := hk
  calm := G.calm
  gd := G.gd
  room := G.room
  gl := G.gl
  kw := G.kw
  bz := G.bz
  fn := G.fn
  oc := G.oc
  xc := G.xc
  pass := fun σ pins H s e s' I c => by
    obtain ⟨_, _, _, _, _, _, _, _, _, _, _, _, w⟩ := c
    exact w.elim
end
theorem allSome {l : List (Option Str × Sem Value)} (h : l.all (·.1.isSome) = true) : l.any (·.1.isNone) = false := by
  rw [List.any_eq_false]
  intro x hx
  have := List.all_eq_true.mp h x hx
  cases q : x.1 with
  | none => rw [q] at this; cases this
  | some _ => simp
theorem bothPW {X : Cx} {e : Expr} {t : TT} {p : Prop} (h : PW X e t) : PT X e t ∧ (p → PW X e t) := ⟨h.pt, fun _ => h⟩
theorem plainPT {S : Sr0} {bi : Bi} {sc : Scope} {N : List Str} {lv : Nat} {X : Cx} {e : Expr} {te : TE} (G : Gd S bi sc N lv X) (h : plainT e = true) (p : PE X e te) : PT X e (fun σ H Q => te σ H fun x H' => ∃ k, TruV S.K x H' k ∧ Q k H') ∧ ((∃ o vs p, e = .BoolOp o vs p) → PW X e (fun σ H Q => te σ H fun x H' => ∃ k, TruV S.K x H' k ∧ Q k H')) := by
  refine ⟨?_, fun ⟨o, vs, q, z⟩ => ?_⟩
  · rw [← G.K]
    exact pt_truth p (truth1 h)
  · subst z
    cases h
/-- the parts of a comprehension that was looked at -/
structure LcParts (X : Cx) (i : Nat) (wi : TI) (tt : TT) (te : TE) (elt tg iter : Expr) (ifs : List Expr) (scope : Scope) (y : Str) : Prop where
  nd : X.N.Nodup
  pi : PI X tg iter wi
  ok : BlkOk X.N X.env.scope scope [(y, i)]
  g : ∀ (s : Shared) (H : Hp) (C : Addr) (cl : List (Str × Addr)) (fp : List Addr), PG (X.blk s H scope (compEnvC scope cl C X.env) fp) tg (gName i)
  t : ∀ (s : Shared) (H : Hp) (C : Addr) (cl : List (Str × Addr)) (fp : List Addr), PTs (X.blk s H scope (compEnvC scope cl C X.env) fp) ifs tt
  e : ∀ (s : Shared) (H : Hp) (C : Addr) (cl : List (Str × Addr)) (fp : List Addr), PE (X.blk s H scope (compEnvC scope cl C X.env) fp) elt te
  ns : isSetE iter = false
theorem lcParts {bi : Bi} {lv : Nat} (i : Nat) {S : Sr0} {sc : Scope} {N : List Str} {X : Cx} {elt iter : Expr} {ifs : List Expr} {scope : Scope} {y : Str} {yp : Pos} {wi : TI} {tt : TT} {te : TE} (G : Gd S bi sc N lv X) (h1 : N[i]? = some y) (h2 : blkC N sc scope [(y, i)] = true) (h3 : locB scope y = true)
    (hI : PI X (.Name y yp) iter wi ∧ isSetE iter = false) (hF : ∀ Y, Gd S.blk bi (relS scope sc) N lv Y → PTs Y ifs tt) (hE : ∀ Y, Gd S.blk bi (relS scope sc) N lv Y → PE Y elt te) : LcParts X i wi tt te elt (.Name y yp) iter ifs scope y := by
  have ok : BlkOk X.N X.env.scope scope [(y, i)] := blkOk_by (by rw [G.nx, blkC_eq G.scn]; exact h2)
  obtain ⟨pi, ns⟩ := hI
  have lc : scope.names.lookup y = some .local ∨ scope.names.lookup y = some .cell := by
    unfold locB at h3
    split at h3
    · exact .inl (by assumption)
    · exact .inr (by assumption)
    · cases h3
  have nd : X.N.Nodup := by rw [G.nx]; exact G.nd
  refine ⟨nd, pi, ok, fun s H C cl fp => ?_, fun s H C cl fp => ?_, fun s H C cl fp => ?_, ns⟩
  · refine pg_name (X := X.blk s H scope (compEnvC scope cl C X.env) fp) nd (by show X.N[i]? = some y; rw [G.nx]; exact h1) ?_ ?_
    · show (relS scope X.env.scope).names.lookup y = some .local ∨ (relS scope X.env.scope).names.lookup y = some .cell
      rcases lc with z | z
      · exact .inl (lookup_relS_keep (by decide) z)
      · exact .inr (lookup_relS_keep (by decide) z)
    · rcases lc with z | z
      · exact .inr (lookup_relS_keep (by decide) z)
      · exact .inl (by show (scope.names.lookup y == some .cell) = true; rw [z]; rfl)
  · exact hF _ (G.blk ok.kind s H C cl fp)
  · exact hE _ (G.blk ok.kind s H C cl fp)
/-- a class by its name -/
theorem sCn {S : Sr0} {bi : Bi} {sc : Scope} {N : List Str} {lv : Nat} {X : Cx} (G : Gd S bi sc N lv X) {c : Cn} {e : Expr} (h : cCn bi sc c e = true) : PE X e (tC (clV S c)) := by
  cases c with
  | own c =>
    unfold cCn at h
    simp only at h
    split at h
    · simp only [Bool.and_eq_true, decide_eq_true_eq] at h
      obtain ⟨⟨⟨h1, h2⟩, h3⟩, h4⟩ := h
      subst h1
      obtain ⟨C, e1, e2⟩ := G.oc _ h4
      unfold clV
      simp only [e1]
      exact pe_glob (G.glob h2) e2 rfl (nm1 h3).1
    · cases h
  | blt b =>
    unfold cCn at h
    simp only at h
    split at h
    · simp only [Bool.and_eq_true, decide_eq_true_eq] at h
      obtain ⟨⟨⟨h1, h2⟩, h3⟩, h4⟩ := h
      subst h1
      have hb : bootBuiltins (Str.ofString b.nm) = some (.type b.nm) := by cases b <;> decide +kernel
      exact pe_bltn (G.glob h2) (G.bz _ h4) hb rfl (nm1 h3).2.2 (nm1 h3).1
    · cases h
theorem sCns {S : Sr0} {bi : Bi} {sc : Scope} {N : List Str} {lv : Nat} {X : Cx} (G : Gd S bi sc N lv X) : ∀ {cs : List Cn} {es : List Expr}, cCns bi sc cs es = true → PA X es (cs.foldr (fun c t => tCons (tC (clV S c)) t) tNil)
  | [], es, h => by
    unfold cCns at h
    cases es with
    | nil => exact pa_nil
    | cons _ _ => cases h
  | c :: cs, es, h => by
    unfold cCns at h
    split at h
    · simp only [Bool.and_eq_true, Bool.not_eq_true'] at h
      obtain ⟨⟨h1, h2⟩, h3⟩ := h
      exact pa_cons (sCn G h2) (sCns G h3) (star1 h1)
    · cases h
theorem sClz {S : Sr0} {bi : Bi} {sc : Scope} {N : List Str} {lv : Nat} {X : Cx} (G : Gd S bi sc N lv X) {cs : List Cn} {tup : Bool} {e : Expr} (h : cClz bi sc cs tup e = true) : PE X e (tClz S cs tup) := by
  cases tup with
  | false =>
    unfold cClz at h
    simp only at h
    split at h
    · rw [Bool.and_eq_true] at h
      exact sCn G h.2
    · cases h
  | true =>
    unfold cClz at h
    simp only at h
    split at h
    · exact pe_tup (sCns G h)
    · cases h
theorem tg_snd {N : List Str} {scope inner : Scope} : ∀ {is : List Nat} {ts : List Expr}, tgOk N scope inner is ts = true → ((tgNames ts).zip is).map (·.2) = is
  | [], ts, h => by
    unfold tgOk at h
    cases ts with
    | nil => rfl
    | cons _ _ => cases h
  | i :: is, ts, h => by
    unfold tgOk at h
    split at h
    · simp only [Bool.and_eq_true] at h
      show i :: ((tgNames _).zip is).map (·.2) = i :: is
      rw [tg_snd h.2]
    · cases h
theorem sTg {S : Sr0} {bi : Bi} {sc : Scope} {N : List Str} {lv : Nat} {X : Cx} (G : Gd S bi sc N lv X) {scope : Scope} (ok : scope.kind = .function) : ∀ {is : List Nat} {ts : List Expr}, tgOk N scope (relS scope sc) is ts = true → ∀ (s : Shared) (H : Hp) (C : Addr) (cl : List (Str × Addr)) (fp : List Addr),
    PGs (X.blk s H scope (compEnvC scope cl C X.env) fp) ts (gIs is) ∧ (assignEach ts (X.blk s H scope (compEnvC scope cl C X.env) fp).env).length = is.length ∧ (assignEach ts (X.blk s H scope (compEnvC scope cl C X.env) fp).env).findIdx? (·.1) = none
  | [], ts, h, s, H, C, cl, fp => by
    unfold tgOk at h
    cases ts with
    | nil => exact ⟨pgs_nil, rfl, rfl⟩
    | cons _ _ => cases h
  | i :: is, ts, h, s, H, C, cl, fp => by
    unfold tgOk at h
    split at h
    · rename_i y yp r
      simp only [Bool.and_eq_true, decide_eq_true_eq] at h
      obtain ⟨⟨⟨h1, h2⟩, h3⟩, h4⟩ := h
      obtain ⟨p1, p2, p3⟩ := sTg G ok h4 s H C cl fp
      have lc : scope.names.lookup y = some .local ∨ scope.names.lookup y = some .cell := by
        unfold locB at h2
        split at h2
        · exact .inl (by assumption)
        · exact .inr (by assumption)
        · cases h2
      have nd : X.N.Nodup := by rw [G.nx]; exact G.nd
      have pg : PG (X.blk s H scope (compEnvC scope cl C X.env) fp) (.Name y yp) (gName i) := by
        refine pg_name (X := X.blk s H scope (compEnvC scope cl C X.env) fp) nd (by show X.N[i]? = some y; rw [G.nx]; exact h1) ?_ ?_
        · show (relS scope X.env.scope).names.lookup y = some .local ∨ (relS scope X.env.scope).names.lookup y = some .cell
          rcases lc with z | z
          · exact .inl (lookup_relS_keep (by decide) z)
          · exact .inr (lookup_relS_keep (by decide) z)
        · rcases lc with z | z
          · exact .inr (lookup_relS_keep (by decide) z)
          · exact .inl (by show (scope.names.lookup y == some .cell) = true; rw [z]; rfl)
      refine ⟨pgs_cons pg p1, ?_, ?_⟩
      · show (_ :: assignEach _ _).length = _
        rw [List.length_cons, p2, List.length_cons]
      · show List.findIdx? _ ((false, _) :: assignEach _ _) = none
        rw [List.findIdx?_cons]
        simp [p3]
    · cases h
mutual
theorem sE {bi : Bi} {lv : Nat} : ∀ (x : Ex) {S : Sr0} {sc : Scope} {N : List Str} {X : Cx} (e : Expr), Gd S bi sc N lv X → cE bi sc N x e = true → PE X e (tE S x)
  | .var i, S, sc, N, X, e, G, h => by
    unfold cE at h
    split at h
    · simp only [Bool.and_eq_true, decide_eq_true_eq] at h
      obtain ⟨⟨h1, h2⟩, h3⟩ := h
      exact pe_var (by rw [G.nx]; exact h1) (G.vis h2) (nm1 h3).1 (nm1 h3).2.1
    · cases h
  | .cst d, S, sc, N, X, e, G, h => by
    unfold cE at h
    split at h
    · split at h
      · have := of_decide_eq_true h; subst this; exact pe_int
      · have := of_decide_eq_true h; subst this; exact pe_str
      · have := of_decide_eq_true h; subst this; exact pe_bl
      · exact pe_non
      · cases h
    · cases h
  | .gl y, S, sc, N, X, e, G, h => by
    unfold cE at h
    split at h
    · simp only [Bool.and_eq_true, decide_eq_true_eq] at h
      obtain ⟨⟨⟨h1, h2⟩, h3⟩, h4⟩ := h
      rw [Bool.not_eq_true'] at h4
      subst h1
      rename_i x _
      show PE X _ (match S.C.gt x with
        | some _ => tC (S.gv x)
        | none => fun _ _ _ => False)
      cases q : S.C.gt x with
      | none => exact ⟨fun _ _ _ _ _ _ z => z.elim⟩
      | some d =>
        obtain ⟨u, hm, ru⟩ := G.gl x d q h4
        exact pe_glob (G.glob h2) hm ru (nm1 h3).1
    · cases h
  | .bty n, S, sc, N, X, e, G, h => by
    unfold cE at h
    split at h
    · simp only [Bool.and_eq_true, decide_eq_true_eq] at h
      obtain ⟨⟨⟨h1, h2⟩, h3⟩, h4⟩ := h
      subst h1
      have hb : bootBuiltins (Str.ofString n.nm) = some (.type n.nm) := by cases n <;> decide +kernel
      exact pe_bltn (G.glob h2) (G.bz _ h3) hb rfl (nm1 h4).2.2 (nm1 h4).1
    · cases h
  | .bin o a b, S, sc, N, X, e, G, h => by
    unfold cE at h
    split at h
    · simp only [Bool.and_eq_true, decide_eq_true_eq] at h
      obtain ⟨⟨h1, h2⟩, h3⟩ := h
      subst h1
      show PE X _ (tOp (rBin S.K o) _ _)
      rw [← G.K]
      exact pe_op (op_bin o) (sE a _ G h2) (sE b _ G h3)
    · cases h
  | .neg a, S, sc, N, X, e, G, h => by
    unfold cE at h
    split at h
    · exact pe_un un_neg (sE a _ G h)
    · cases h
  | .cmp o a b, S, sc, N, X, e, G, h => by
    unfold cE at h
    split at h
    · simp only [Bool.and_eq_true, decide_eq_true_eq, Bool.not_eq_true'] at h
      obtain ⟨⟨⟨h1, h2⟩, h3⟩, h4⟩ := h
      subst h1
      show PE X _ (tOp (rCmp S.K o) _ _)
      rw [← G.K]
      exact pe_cmpR (op_cmp G.room.units o) (sE a _ G h2) (sE b _ G h3) h4
    · cases h
  | .cmp2 o p a b c, S, sc, N, X, e, G, h => by
    unfold cE at h
    split at h
    · simp only [Bool.and_eq_true, decide_eq_true_eq, Bool.not_eq_true'] at h
      obtain ⟨⟨⟨⟨⟨h1, h2⟩, h3⟩, h4⟩, h5⟩, h6⟩ := h
      subst h1 h2
      show PE X _ (tChain (rCmp S.K o) (rCmp S.K p) _ _ _)
      rw [← G.K]
      exact pe_chain (op_cmp G.room.units o) (op_cmp G.room.units p) (sE a _ G h3) (sE b _ G h4) (sE c _ G h5) h6
    · cases h
  | .and a b, S, sc, N, X, e, G, h => by
    unfold cE at h
    split at h
    · simp only [Bool.and_eq_true] at h
      obtain ⟨h1, h2⟩ := h
      split at h2
      · exact pe_and (sE a _ G h1) (pe_one (sE b _ G h2))
      · exact pe_and (sE a _ G h1) (sE b _ G h2)
    · cases h
  | .or a b, S, sc, N, X, e, G, h => by
    unfold cE at h
    split at h
    · simp only [Bool.and_eq_true] at h
      obtain ⟨h1, h2⟩ := h
      split at h2
      · exact pe_or (sE a _ G h1) (pe_one (sE b _ G h2))
      · exact pe_or (sE a _ G h1) (sE b _ G h2)
    · cases h
  | .not a, S, sc, N, X, e, G, h => by
    unfold cE at h
    split at h
    · exact pe_not (sE a _ G h)
    · cases h
  | .ife c a b, S, sc, N, X, e, G, h => by
    unfold cE at h
    split at h
    · simp only [Bool.and_eq_true] at h
      obtain ⟨⟨h1, h2⟩, h3⟩ := h
      exact pe_ifExp (sT c _ G h1).1 (sE a _ G h2) (sE b _ G h3)
    · cases h
  | .idx a i, S, sc, N, X, e, G, h => by
    unfold cE at h
    split at h
    · simp only [Bool.and_eq_true, Bool.not_eq_true'] at h
      obtain ⟨⟨h1, h2⟩, h3⟩ := h
      show PE X _ (tOp (rIxAll S.K) _ _)
      rw [← G.K]
      exact pe_ix (ix_all (hu_of G.room)) (sE a _ G h1) (sE i _ G h2) (plainIx h3)
    · cases h
  | .slc a lo hi, S, sc, N, X, e, G, h => by
    unfold cE at h
    split at h
    · simp only [Bool.and_eq_true] at h
      obtain ⟨⟨h1, h2⟩, h3⟩ := h
      show PE X _ (tSl (rSlAll S.K) _ _ _)
      rw [← G.K]
      exact pe_slice sl_all (sE a _ G h1) (sO lo _ G h2) (sO hi _ G h3)
    · cases h
  | .tup es, S, sc, N, X, e, G, h => by
    unfold cE at h
    split at h
    · exact pe_tup (sA es _ G h).1
    · cases h
  | .lst es, S, sc, N, X, e, G, h => by
    unfold cE at h
    split at h
    · exact pe_lst (sA es _ G h).1
    · cases h
  | .dct ps, S, sc, N, X, e, G, h => by
    unfold cE at h
    split at h
    · simp only [Bool.and_eq_true, decide_eq_true_eq] at h
      obtain ⟨h1, h2⟩ := h
      cases ps with
      | nil =>
        rename_i ks vs pos
        unfold cP at h1
        simp only [Bool.and_eq_true] at h1
        cases ks with
        | nil =>
          cases vs with
          | nil => exact pe_dnewK
          | cons _ _ => cases h1.2
        | cons _ _ => cases h1.1
      | cons k e r =>
        obtain ⟨p, q, l⟩ := sP (.cons k e r) _ _ G h1
        refine pe_disp p q l (fun z => ?_) h2
        rw [z] at h1
        unfold cP at h1
        cases h1
    · cases h
  | .lc x i s c, S, sc, N, X, e, G, h => by
    unfold cE at h
    split at h
    · rename_i elt y yp iter ifs scope pos
      simp only [Bool.and_eq_true, decide_eq_true_eq] at h
      obtain ⟨⟨⟨⟨⟨⟨⟨h1, h2⟩, h3⟩, h4⟩, h5⟩, h0⟩, h6⟩, h7⟩ := h
      rw [Bool.not_eq_true'] at h0
      have P := lcParts (yp := yp) i G h1 h2 h3 (sI s (.Name y yp) iter G (.inl h0) h5) (fun _ g => sF c _ g h6) (fun _ g => sE x _ g h7)
      exact pe_lc (own := [(y, i)]) (g := gName i) G.calm P.nd P.pi P.ok P.g P.t P.e (noFold P.ns)
    · cases h
  | .call f es, S, sc, N, X, e, G, h => by
    unfold cE at h
    split at h
    · simp only [Bool.and_eq_true, decide_eq_true_eq] at h
      obtain ⟨⟨⟨⟨h1, h2⟩, h3⟩, h4⟩, h5⟩ := h
      subst h1
      rename_i x _ a as _
      obtain ⟨pa, st⟩ := sA es _ G h4
      rw [List.all_cons, Bool.and_eq_true, Bool.not_eq_true'] at st
      show PE X _ (match S.C.fn x with
        | some c => tCallSD (spOf S.K S.cl c) [] (WE S.W) (tA S es)
        | none => fun _ _ _ => False)
      cases q : S.C.fn x with
      | none => exact ⟨fun _ _ _ _ _ _ z => z.elim⟩
      | some c =>
        obtain ⟨fa, fd, ps, hm, hk, hb, F⟩ := G.fn x c q h5
        exact pe_callG F G.gd G.room (G.glob h2) hm hk hb G.pass pa (nm1 h3).1 (star1 st.1) (any_stars st.2)
    · cases h
  | .callk f es ks kes fl, S, sc, N, X, e, G, h => by
    unfold cE at h
    split at h
    · simp only [Bool.and_eq_true, decide_eq_true_eq] at h
      obtain ⟨⟨⟨⟨⟨h1, h2⟩, h3⟩, h4⟩, h5⟩, h6⟩ := h
      subst h1
      rename_i x _ a as kws pos
      obtain ⟨pa, st⟩ := sA es _ G h5
      obtain ⟨pk, k1, k2⟩ := sW kes ks kws G h6
      have st' := st
      rw [List.all_cons, Bool.and_eq_true, Bool.not_eq_true'] at st'
      show PE X _ (match S.C.fn x with
        | some c => tCallNG es.len ks.length (spOf S.K S.cl c) (fun vs zs => vs ++ fillV S.gv fl zs) (WE S.W) (tA S es) (tA S kes)
        | none => fun _ _ _ => False)
      cases q : S.C.fn x with
      | none => exact ⟨fun _ _ _ _ _ _ z => z.elim⟩
      | some c =>
        obtain ⟨fa, fd, ps, g, gV, hm, hk, hb, hg, F⟩ := G.kw x c _ _ _ q h4
        exact pe_callNG F hg G.gd G.room (G.glob h2) hm hk hb G.pass pa pk (k1 pos) (k2 pos) (nm1 h3).1 (star1 st'.1) (by rw [any_stars st, Bool.false_or]; exact allSome (k1 pos))
    · cases h
  | .fld a n, S, sc, N, X, e, G, h => by
    unfold cE at h
    split at h
    · simp only [Bool.and_eq_true, decide_eq_true_eq] at h
      obtain ⟨⟨h1, h2⟩, h3⟩ := h
      subst h1
      show PE X _ (tFld S.K _ _)
      rw [← G.K]
      exact pe_fldX (sE a _ G h3) (recv h2)
    · cases h
  | .isx a cs tup, S, sc, N, X, e, G, h => by
    unfold cE at h
    split at h
    · simp only [Bool.and_eq_true, decide_eq_true_eq, Bool.not_eq_true'] at h
      obtain ⟨⟨⟨⟨⟨⟨h1, h2⟩, h3⟩, h4⟩, h5⟩, h6⟩, h7⟩ := h
      subst h1
      show PE X _ (tCB (rIsx S.K) _)
      rw [← G.K]
      exact pe_callB call_isx (G.glob h2) (G.bz _ h3) (by decide +kernel) (pa_cons (sE a _ G h6) (pa_cons (sClz G h7) pa_nil (star1 h5)) (star1 h4)) (by decide) (by decide) (star1 h4) (any_stars (by rw [List.all_cons, h5]; rfl))
    · cases h
  | .mkx c es ks kes fl, S, sc, N, X, e, G, h => by
    unfold cE at h
    split at h
    · simp only [Bool.and_eq_true, decide_eq_true_eq] at h
      obtain ⟨⟨⟨⟨⟨⟨h1, h2⟩, h3⟩, h4⟩, h5⟩, h6⟩, h7⟩ := h
      subst h1
      rename_i x _ as kws pos
      obtain ⟨pa, st⟩ := sA es _ G h6
      obtain ⟨pk, k1, k2⟩ := sW kes ks kws G h7
      obtain ⟨C, e1, e2⟩ := G.oc x h4
      show PE X _ (match S.cl x, S.C.xk x with
        | some C, some ns => tMkx C ns es.len ks.length (fun vs zs => vs ++ fillV S.gv fl zs) (tA S es) (tA S kes)
        | _, _ => fun _ _ _ => False)
      rw [e1]
      cases hk : S.C.xk x with
      | none => exact ⟨fun _ _ _ _ _ _ z => z.elim⟩
      | some ns =>
        obtain ⟨gV, M, hg⟩ := G.xc x _ _ _ C ns h5 e1 hk
        have room : X.A.depth + 1 < recursionLimit := by have := G.room.dp; omega
        cases as with
        | nil =>
          cases es with
          | nil => exact pe_mkx0 M hg room (G.glob h2) e2 pk (k1 pos) (k2 pos) (nm1 h3).1 (by
              show (false || _) = false
              rw [Bool.false_or]
              exact allSome (k1 pos))
          | cons _ _ => unfold cA at h6; cases h6
        | cons y ys =>
          have st' := st
          rw [List.all_cons, Bool.and_eq_true, Bool.not_eq_true'] at st'
          exact pe_mkx M hg room (G.glob h2) e2 pa pk (k1 pos) (k2 pos) (nm1 h3).1 (star1 st'.1) (by rw [any_stars st, Bool.false_or]; exact allSome (k1 pos))
    · cases h
  | .lcU x is s c, S, sc, N, X, e, G, h => by
    unfold cE at h
    split at h
    · rename_i elt ts k tp iter ifs scope pos
      simp only [Bool.and_eq_true] at h
      obtain ⟨⟨⟨⟨h1, h2⟩, h3⟩, h4⟩, h5⟩ := h
      have ok : BlkOk X.N X.env.scope scope ((tgNames ts).zip is) := blkOk_by (by rw [G.nx, blkC_eq G.scn]; exact h2)
      obtain ⟨pi, ns⟩ := sI s (.Tuple ts k tp) iter G (.inr ⟨ts, k, tp, rfl⟩) h3
      have own2 : ((tgNames ts).zip is).map (·.2) = is := tg_snd h1
      show PE X _ (tLc (tI S s) (gTup S.K is.length (gIs is)) (tF S.blk c) (tE S.blk x) is)
      have z := pe_lc (own := (tgNames ts).zip is) (g := gTup X.K is.length (gIs is)) (tt := tF S.blk c) (te := tE S.blk x) (elt := elt) (pos := pos) G.calm (by rw [G.nx]; exact G.nd) pi ok
        (fun s H C cl fp => by
          obtain ⟨p1, p2, p3⟩ := sTg (X := X) (G := G) (ok := ok.kind) h1 s H C cl fp
          exact pg_tup (X := X.blk s H scope (compEnvC scope cl C X.env) fp) G.calm p1 p2 p3)
        (fun s H C cl fp => sF c _ (G.blk ok.kind s H C cl fp) h4) (fun s H C cl fp => sE x _ (G.blk ok.kind s H C cl fp) h5) (noFold ns)
      rw [own2, G.K] at z
      exact z
    · cases h
  | .blt f es, S, sc, N, X, e, G, h => by
    unfold cE at h
    split at h
    · simp only [Bool.and_eq_true, decide_eq_true_eq] at h
      obtain ⟨⟨⟨⟨h1, h2⟩, h3⟩, h4⟩, h5⟩ := h
      subst h1
      obtain ⟨id, hb, hc⟩ := call_bf G.calm G.gd G.room.units f
      obtain ⟨pa, st⟩ := sA es _ G h5
      rw [List.all_cons, Bool.and_eq_true, Bool.not_eq_true'] at st
      show PE X _ (tCB (rBlt S.K f) _)
      rw [← G.K]
      exact pe_callB hc (G.glob h2) (G.bz _ h3) hb pa (nm1 h4).2.2 (nm1 h4).1 (star1 st.1) (any_stars st.2)
    · cases h
  | .bty1 f es, S, sc, N, X, e, G, h => by
    unfold cE at h
    split at h
    · simp only [Bool.and_eq_true, decide_eq_true_eq] at h
      obtain ⟨⟨⟨⟨h1, h2⟩, h3⟩, h4⟩, h5⟩ := h
      subst h1
      obtain ⟨T, hb, hc⟩ := call_bt (X := X) f
      obtain ⟨pa, st⟩ := sA es _ G h5
      rw [List.all_cons, Bool.and_eq_true, Bool.not_eq_true'] at st
      show PE X _ (tCB (rBty S.K f) _)
      rw [← G.K]
      exact pe_callTy hc (G.glob h2) (G.bz _ h3) hb pa (nm1 h4).2.2 (nm1 h4).1 (star1 st.1) (any_stars st.2)
    · cases h
  | .mth o m es, S, sc, N, X, e, G, h => by
    unfold cE at h
    split at h
    · simp only [Bool.and_eq_true, decide_eq_true_eq] at h
      obtain ⟨⟨⟨⟨⟨h1, h2⟩, h3⟩, h4⟩, h5⟩, h6⟩ := h
      subst h1
      obtain ⟨id, f1, f2, f3, f4⟩ := (mfact (X := X) G.calm m).ex
      obtain ⟨pa, st⟩ := sA es _ G h6
      cases es with
      | nil =>
        rename_i r apos as cpos
        unfold cA at h6
        cases as with
        | nil =>
          show PE X _ (tBM0 S.K m.T (rMth S.K m) _)
          rw [← G.K]
          exact pe_bm0 f1 f2 f3 f4 (sE o _ G h5) (recv h2) h3
        | cons _ _ => cases h6
      | cons e0 r0 =>
        rename_i r apos as cpos
        cases as with
        | nil => unfold cA at h6; cases h6
        | cons y ys =>
          have st' := st
          rw [List.all_cons, Bool.and_eq_true, Bool.not_eq_true'] at st'
          show PE X _ (tBM S.K m.T (rMth S.K m) _ _)
          rw [← G.K]
          refine pe_bm f1 f2 f3 f4 (sE o _ G h5) pa (recv h2) ?_ h3 (star1 st'.1) (any_stars st'.2)
          rw [all_stars st]
          have l : (y :: ys).length + ([] : List Keyword).length + (if ([] : List Keyword).isEmpty then 0 else 1) < 30 := by
            show (y :: ys).length + 0 + 0 < 30
            omega
          rw [decide_eq_true l]
          rfl
    · cases h
  | .mut o m es, S, sc, N, X, e, G, h => by
    unfold cE at h
    split at h
    · simp only [Bool.and_eq_true, decide_eq_true_eq] at h
      obtain ⟨⟨⟨⟨⟨h1, h2⟩, h3⟩, h4⟩, h5⟩, h6⟩ := h
      subst h1
      obtain ⟨id, f1, f2, f3, f4⟩ := (mfact (X := X) G.calm m).ex
      obtain ⟨pa, st⟩ := sA es _ G h6
      cases es with
      | nil =>
        rename_i r apos as cpos
        unfold cA at h6
        cases as with
        | nil =>
          show PE X _ (tBM0 S.K m.T (rMth S.K m) _)
          rw [← G.K]
          exact pe_bm0 f1 f2 f3 f4 (sE o _ G h5) (recv h2) h3
        | cons _ _ => cases h6
      | cons e0 r0 =>
        rename_i r apos as cpos
        cases as with
        | nil => unfold cA at h6; cases h6
        | cons y ys =>
          have st' := st
          rw [List.all_cons, Bool.and_eq_true, Bool.not_eq_true'] at st'
          show PE X _ (tBM S.K m.T (rMth S.K m) _ _)
          rw [← G.K]
          refine pe_bm f1 f2 f3 f4 (sE o _ G h5) pa (recv h2) ?_ h3 (star1 st'.1) (any_stars st'.2)
          rw [all_stars st]
          have l : (y :: ys).length + ([] : List Keyword).length + (if ([] : List Keyword).isEmpty then 0 else 1) < 30 := by
            show (y :: ys).length + 0 + 0 < 30
            omega
          rw [decide_eq_true l]
          rfl
    · cases h
theorem sT {bi : Bi} {lv : Nat} : ∀ (x : Te) {S : Sr0} {sc : Scope} {N : List Str} {X : Cx} (e : Expr), Gd S bi sc N lv X → cT bi sc N x e = true → PT X e (tT S x) ∧ ((∃ o vs p, e = .BoolOp o vs p) → PW X e (tT S x))
  | .val (.cmp o a b), S, sc, N, X, e, G, h => by
    unfold cT at h
    simp only at h
    split at h
    · simp only [Bool.and_eq_true, decide_eq_true_eq, Bool.not_eq_true'] at h
      obtain ⟨⟨⟨h1, h2⟩, h3⟩, h4⟩ := h
      subst h1
      refine ⟨?_, fun ⟨_, _, _, z⟩ => by cases z⟩
      show PT X _ (tTest (tOp (rCmp S.K o) _ _))
      rw [← G.K]
      exact pt_cmpR (op_cmp G.room.units o) (sE a _ G h2) (sE b _ G h3) h4
    · cases h
  | .val (.cmp2 o p a b c), S, sc, N, X, e, G, h => by
    unfold cT at h
    simp only at h
    split at h
    · simp only [Bool.and_eq_true, decide_eq_true_eq, Bool.not_eq_true'] at h
      obtain ⟨⟨⟨⟨⟨h1, h2⟩, h3⟩, h4⟩, h5⟩, h6⟩ := h
      subst h1 h2
      refine ⟨?_, fun ⟨_, _, _, z⟩ => by cases z⟩
      show PT X _ (tTest (tChain (rCmp S.K o) (rCmp S.K p) _ _ _))
      rw [← G.K]
      exact pt_chain (op_cmp G.room.units o) (op_cmp G.room.units p) (sE a _ G h3) (sE b _ G h4) (sE c _ G h5) h6
    · cases h
  | .val (.var i), S, sc, N, X, e, G, h => by
    have h' : (plainT e && cE bi sc N (.var i) e) = true := h
    rw [Bool.and_eq_true] at h'
    exact plainPT G h'.1 (sE (.var i) e G h'.2)
  | .val (.cst d), S, sc, N, X, e, G, h => by
    have h' : (plainT e && cE bi sc N (.cst d) e) = true := h
    rw [Bool.and_eq_true] at h'
    exact plainPT G h'.1 (sE (.cst d) e G h'.2)
  | .val (.gl x), S, sc, N, X, e, G, h => by
    have h' : (plainT e && cE bi sc N (.gl x) e) = true := h
    rw [Bool.and_eq_true] at h'
    exact plainPT G h'.1 (sE (.gl x) e G h'.2)
  | .val (.bty n), S, sc, N, X, e, G, h => by
    have h' : (plainT e && cE bi sc N (.bty n) e) = true := h
    rw [Bool.and_eq_true] at h'
    exact plainPT G h'.1 (sE (.bty n) e G h'.2)
  | .val (.bin o a b), S, sc, N, X, e, G, h => by
    have h' : (plainT e && cE bi sc N (.bin o a b) e) = true := h
    rw [Bool.and_eq_true] at h'
    exact plainPT G h'.1 (sE (.bin o a b) e G h'.2)
  | .val (.neg a), S, sc, N, X, e, G, h => by
    have h' : (plainT e && cE bi sc N (.neg a) e) = true := h
    rw [Bool.and_eq_true] at h'
    exact plainPT G h'.1 (sE (.neg a) e G h'.2)
  | .val (.and a b), S, sc, N, X, e, G, h => by
    have h' : (plainT e && cE bi sc N (.and a b) e) = true := h
    rw [Bool.and_eq_true] at h'
    exact plainPT G h'.1 (sE (.and a b) e G h'.2)
  | .val (.or a b), S, sc, N, X, e, G, h => by
    have h' : (plainT e && cE bi sc N (.or a b) e) = true := h
    rw [Bool.and_eq_true] at h'
    exact plainPT G h'.1 (sE (.or a b) e G h'.2)
  | .val (.not a), S, sc, N, X, e, G, h => by
    have h' : (plainT e && cE bi sc N (.not a) e) = true := h
    rw [Bool.and_eq_true] at h'
    exact plainPT G h'.1 (sE (.not a) e G h'.2)
  | .val (.ife c a b), S, sc, N, X, e, G, h => by
    have h' : (plainT e && cE bi sc N (.ife c a b) e) = true := h
    rw [Bool.and_eq_true] at h'
    exact plainPT G h'.1 (sE (.ife c a b) e G h'.2)
  | .val (.idx a i), S, sc, N, X, e, G, h => by
    have h' : (plainT e && cE bi sc N (.idx a i) e) = true := h
    rw [Bool.and_eq_true] at h'
    exact plainPT G h'.1 (sE (.idx a i) e G h'.2)
  | .val (.slc a lo hi), S, sc, N, X, e, G, h => by
    have h' : (plainT e && cE bi sc N (.slc a lo hi) e) = true := h
    rw [Bool.and_eq_true] at h'
    exact plainPT G h'.1 (sE (.slc a lo hi) e G h'.2)
  | .val (.tup es), S, sc, N, X, e, G, h => by
    have h' : (plainT e && cE bi sc N (.tup es) e) = true := h
    rw [Bool.and_eq_true] at h'
    exact plainPT G h'.1 (sE (.tup es) e G h'.2)
  | .val (.lst es), S, sc, N, X, e, G, h => by
    have h' : (plainT e && cE bi sc N (.lst es) e) = true := h
    rw [Bool.and_eq_true] at h'
    exact plainPT G h'.1 (sE (.lst es) e G h'.2)
  | .val (.dct ps), S, sc, N, X, e, G, h => by
    have h' : (plainT e && cE bi sc N (.dct ps) e) = true := h
    rw [Bool.and_eq_true] at h'
    exact plainPT G h'.1 (sE (.dct ps) e G h'.2)
  | .val (.lc x i s c), S, sc, N, X, e, G, h => by
    have h' : (plainT e && cE bi sc N (.lc x i s c) e) = true := h
    rw [Bool.and_eq_true] at h'
    exact plainPT G h'.1 (sE (.lc x i s c) e G h'.2)
  | .val (.call f es), S, sc, N, X, e, G, h => by
    have h' : (plainT e && cE bi sc N (.call f es) e) = true := h
    rw [Bool.and_eq_true] at h'
    exact plainPT G h'.1 (sE (.call f es) e G h'.2)
  | .val (.callk f es ks kes fl), S, sc, N, X, e, G, h => by
    have h' : (plainT e && cE bi sc N (.callk f es ks kes fl) e) = true := h
    rw [Bool.and_eq_true] at h'
    exact plainPT G h'.1 (sE (.callk f es ks kes fl) e G h'.2)
  | .val (.fld a n), S, sc, N, X, e, G, h => by
    have h' : (plainT e && cE bi sc N (.fld a n) e) = true := h
    rw [Bool.and_eq_true] at h'
    exact plainPT G h'.1 (sE (.fld a n) e G h'.2)
  | .val (.isx a cs tup), S, sc, N, X, e, G, h => by
    have h' : (plainT e && cE bi sc N (.isx a cs tup) e) = true := h
    rw [Bool.and_eq_true] at h'
    exact plainPT G h'.1 (sE (.isx a cs tup) e G h'.2)
  | .val (.mkx c es ks kes fl), S, sc, N, X, e, G, h => by
    have h' : (plainT e && cE bi sc N (.mkx c es ks kes fl) e) = true := h
    rw [Bool.and_eq_true] at h'
    exact plainPT G h'.1 (sE (.mkx c es ks kes fl) e G h'.2)
  | .val (.lcU x is s c), S, sc, N, X, e, G, h => by
    have h' : (plainT e && cE bi sc N (.lcU x is s c) e) = true := h
    rw [Bool.and_eq_true] at h'
    exact plainPT G h'.1 (sE (.lcU x is s c) e G h'.2)
  | .val (.blt f es), S, sc, N, X, e, G, h => by
    have h' : (plainT e && cE bi sc N (.blt f es) e) = true := h
    rw [Bool.and_eq_true] at h'
    exact plainPT G h'.1 (sE (.blt f es) e G h'.2)
  | .val (.bty1 f es), S, sc, N, X, e, G, h => by
    have h' : (plainT e && cE bi sc N (.bty1 f es) e) = true := h
    rw [Bool.and_eq_true] at h'
    exact plainPT G h'.1 (sE (.bty1 f es) e G h'.2)
  | .val (.mth o m es), S, sc, N, X, e, G, h => by
    have h' : (plainT e && cE bi sc N (.mth o m es) e) = true := h
    rw [Bool.and_eq_true] at h'
    exact plainPT G h'.1 (sE (.mth o m es) e G h'.2)
  | .val (.mut o m es), S, sc, N, X, e, G, h => by
    have h' : (plainT e && cE bi sc N (.mut o m es) e) = true := h
    rw [Bool.and_eq_true] at h'
    exact plainPT G h'.1 (sE (.mut o m es) e G h'.2)
  | .and a b, S, sc, N, X, e, G, h => by
    unfold cT at h
    split at h
    · simp only [Bool.and_eq_true] at h
      obtain ⟨h1, h2⟩ := h
      split at h2
      · exact bothPW (pw_and (sT a _ G h1).1 (pw_and1 (sT b _ G h2).1))
      · exact bothPW (pw_and (sT a _ G h1).1 ((sT b _ G h2).2 ⟨_, _, _, rfl⟩))
    · cases h
  | .or a b, S, sc, N, X, e, G, h => by
    unfold cT at h
    split at h
    · simp only [Bool.and_eq_true] at h
      obtain ⟨h1, h2⟩ := h
      split at h2
      · exact bothPW (pw_or (sT a _ G h1).1 (pw_or1 (sT b _ G h2).1))
      · exact bothPW (pw_or (sT a _ G h1).1 ((sT b _ G h2).2 ⟨_, _, _, rfl⟩))
    · cases h
  | .not a, S, sc, N, X, e, G, h => by
    unfold cT at h
    split at h
    · exact ⟨pt_not (sT a _ G h).1, fun ⟨_, _, _, z⟩ => by cases z⟩
    · cases h
theorem sA {bi : Bi} {lv : Nat} : ∀ (x : Es) {S : Sr0} {sc : Scope} {N : List Str} {X : Cx} (es : List Expr), Gd S bi sc N lv X → cA bi sc N x es = true → PA X es (tA S x) ∧ es.all (fun e => !isStar e) = true
  | .nil, S, sc, N, X, es, G, h => by
    unfold cA at h
    cases es with
    | nil => exact ⟨pa_nil, rfl⟩
    | cons _ _ => cases h
  | .cons e r, S, sc, N, X, es, G, h => by
    unfold cA at h
    split at h
    · rename_i y ys
      simp only [Bool.and_eq_true, Bool.not_eq_true'] at h
      obtain ⟨⟨h1, h2⟩, h3⟩ := h
      obtain ⟨p, q⟩ := sA r ys G h3
      exact ⟨pa_cons (sE e y G h2) p (star1 h1), by rw [List.all_cons, h1, q]; rfl⟩
    · cases h
theorem sW {bi : Bi} {lv : Nat} : ∀ (x : Es) {S : Sr0} {sc : Scope} {N : List Str} {X : Cx} (ks : List Str) (kws : List Keyword), Gd S bi sc N lv X → cW bi sc N ks x kws = true →
    PK X kws (tA S x) ∧ (∀ pos, (backToKw pos (keywordEach kws X.env)).all (·.1.isSome) = true) ∧ ∀ pos, (backToKw pos (keywordEach kws X.env)).filterMap (·.1) = ks
  | .nil, S, sc, N, X, ks, kws, G, h => by
    unfold cW at h
    rw [Bool.and_eq_true] at h
    cases kws with
    | nil =>
      cases ks with
      | nil => exact ⟨pk_nil, fun _ => rfl, fun _ => rfl⟩
      | cons _ _ => cases h.1
    | cons _ _ => cases h.2
  | .cons e r, S, sc, N, X, ks, kws, G, h => by
    unfold cW at h
    split at h
    · simp only [Bool.and_eq_true, decide_eq_true_eq] at h
      obtain ⟨⟨h1, h2⟩, h3⟩ := h
      subst h1
      obtain ⟨p, a, b⟩ := sW r _ _ G h3
      refine ⟨pk_cons (sE e _ G h2) p, fun pos => ?_, fun pos => ?_⟩
      · exact a pos
      · exact congrArg (List.cons _) (b pos)
    · cases h
theorem sO {bi : Bi} {lv : Nat} : ∀ (x : Oe) {S : Sr0} {sc : Scope} {N : List Str} {X : Cx} (e : Option Expr), Gd S bi sc N lv X → cO bi sc N x e = true → PO X e (tO S x)
  | .no, S, sc, N, X, e, G, h => by
    unfold cO at h
    cases e with
    | none => exact po_none
    | some _ => cases h
  | .ex x, S, sc, N, X, e, G, h => by
    unfold cO at h
    split at h
    · exact po_some (sE x _ G h)
    · cases h
theorem sF {bi : Bi} {lv : Nat} : ∀ (x : Ot) {S : Sr0} {sc : Scope} {N : List Str} {X : Cx} (e : List Expr), Gd S bi sc N lv X → cF bi sc N x e = true → PTs X e (tF S x)
  | .no, S, sc, N, X, e, G, h => by
    unfold cF at h
    cases e with
    | nil => exact pts_nil
    | cons _ _ => cases h
  | .ex x, S, sc, N, X, e, G, h => by
    unfold cF at h
    split at h
    · exact pts_one (sT x _ G h).1
    · cases h
theorem sI {bi : Bi} {lv : Nat} : ∀ (x : Sr) {S : Sr0} {sc : Scope} {N : List Str} {X : Cx} (tg e : Expr), Gd S bi sc N lv X → (isEnu x = false ∨ ∃ es k p, tg = .Tuple es k p) → cI bi sc N x e = true → PI X tg e (tI S x) ∧ isSetE e = false
  | .seq x, S, sc, N, X, tg, e, G, _, h => by
    unfold cI at h
    simp only [Bool.and_eq_true, Bool.not_eq_true'] at h
    refine ⟨?_, h.2⟩
    show PI X tg e (iAny S.K _)
    rw [← G.K]
    exact pi_any (sE x _ G h.1)
  | .rng a, S, sc, N, X, tg, e, G, _, h => by
    unfold cI at h
    split at h
    · simp only [Bool.and_eq_true, decide_eq_true_eq, Bool.not_eq_true'] at h
      obtain ⟨⟨⟨⟨h1, h2⟩, h3⟩, h4⟩, h5⟩ := h
      subst h1
      exact ⟨pi_range1 (G.glob h2) (G.bz _ h3) (pa_cons (sE a _ G h5) pa_nil (star1 h4)) (star1 h4), rfl⟩
    · cases h
  | .enu a, S, sc, N, X, tg, e, G, hq, h => by
    unfold cI at h
    split at h
    · simp only [Bool.and_eq_true, decide_eq_true_eq, Bool.not_eq_true'] at h
      obtain ⟨⟨⟨⟨h1, h2⟩, h3⟩, h4⟩, h5⟩ := h
      subst h1
      rcases hq with hq | ⟨es, k, p, rfl⟩
      · cases hq
      · refine ⟨?_, rfl⟩
        show PI X _ _ (iEnum S.K _)
        rw [← G.K]
        exact pi_enum (G.glob h2) (G.bz _ h3) (pa_cons (sE a _ G h5) pa_nil (star1 h4)) (star1 h4)
    · cases h
  | .rng2 a b, S, sc, N, X, tg, e, G, _, h => by
    unfold cI at h
    split at h
    · simp only [Bool.and_eq_true, decide_eq_true_eq, Bool.not_eq_true'] at h
      obtain ⟨⟨⟨⟨⟨⟨h1, h2⟩, h3⟩, h4⟩, h5⟩, h6⟩, h7⟩ := h
      subst h1
      exact ⟨pi_range2 (G.glob h2) (G.bz _ h3) (pa_cons (sE a _ G h6) (pa_cons (sE b _ G h7) pa_nil (star1 h5)) (star1 h4)) (by rw [star1 h4, star1 h5]; rfl) (star1 h5), rfl⟩
    · cases h
theorem sP {bi : Bi} {lv : Nat} : ∀ (x : Ps) {S : Sr0} {sc : Scope} {N : List Str} {X : Cx} {pos : Pos} (ks : List (Option Expr)) (vs : List Expr), Gd S bi sc N lv X → cP bi sc N x ks vs = true → PPs X pos ks vs (tD S x) ∧ ks.all (·.isSome) = true ∧ ks.length = vs.length
  | .nil, S, sc, N, X, pos, ks, vs, G, h => by
    unfold cP at h
    simp only [Bool.and_eq_true] at h
    cases ks with
    | nil =>
      cases vs with
      | nil => exact ⟨pps_nil, rfl, rfl⟩
      | cons _ _ => cases h.2
    | cons _ _ => cases h.1
  | .cons k e ps, S, sc, N, X, pos, ks, vs, G, h => by
    unfold cP at h
    split at h
    · simp only [Bool.and_eq_true, decide_eq_true_eq] at h
      obtain ⟨⟨h1, h2⟩, h3⟩ := h
      subst h1
      obtain ⟨p, q, r⟩ := sP (pos := pos) ps _ _ G h3
      exact ⟨pps_cons pe_str (sE e _ G h2) p, by rw [List.all_cons, q]; rfl, by rw [List.length_cons, List.length_cons, r]⟩
    · cases h
end
/-- the parts of a comprehension with a display of targets -/
structure LcUParts (X : Cx) (is : List Nat) (wi : TI) (tg2 : TG) (tt : TT) (te : TE) (elt tg iter : Expr) (ifs : List Expr) (scope : Scope) (own : List (Str × Nat)) : Prop where
  pi : PI X tg iter wi
  ok : BlkOk X.N X.env.scope scope own
  g : ∀ (s : Shared) (H : Hp) (C : Addr) (cl : List (Str × Addr)) (fp : List Addr), PG (X.blk s H scope (compEnvC scope cl C X.env) fp) tg tg2
  t : ∀ (s : Shared) (H : Hp) (C : Addr) (cl : List (Str × Addr)) (fp : List Addr), PTs (X.blk s H scope (compEnvC scope cl C X.env) fp) ifs tt
  e : ∀ (s : Shared) (H : Hp) (C : Addr) (cl : List (Str × Addr)) (fp : List Addr), PE (X.blk s H scope (compEnvC scope cl C X.env) fp) elt te
  ns : isSetE iter = false
  sd : own.map (·.2) = is
theorem sLcU {bi : Bi} {lv : Nat} (x : Ex) (is : List Nat) (s : Sr) (c : Ot) {S : Sr0} {sc : Scope} {N : List Str} {X : Cx} {elt iter : Expr} {ts ifs : List Expr} {k : Nat} {tp : Pos} {scope : Scope} (G : Gd S bi sc N lv X) (h1 : tgOk N scope (relS scope sc) is ts = true) (h2 : blkC N sc scope ((tgNames ts).zip is) = true)
    (h3 : cI bi sc N s iter = true) (h4 : cF bi (relS scope sc) N c ifs = true) (h5 : cE bi (relS scope sc) N x elt = true) :
    LcUParts X is (tI S s) (gTup X.K is.length (gIs is)) (tF S.blk c) (tE S.blk x) elt (.Tuple ts k tp) iter ifs scope ((tgNames ts).zip is) := by
  have ok : BlkOk X.N X.env.scope scope ((tgNames ts).zip is) := blkOk_by (by rw [G.nx, blkC_eq G.scn]; exact h2)
  obtain ⟨pi, ns⟩ := sI s (.Tuple ts k tp) iter G (.inr ⟨ts, k, tp, rfl⟩) h3
  exact ⟨pi, ok, fun s H C cl fp => by
      obtain ⟨p1, p2, p3⟩ := sTg (X := X) (G := G) (ok := ok.kind) h1 s H C cl fp
      exact pg_tup (X := X.blk s H scope (compEnvC scope cl C X.env) fp) G.calm p1 p2 p3,
    fun s H C cl fp => sF c _ (G.blk ok.kind s H C cl fp) h4, fun s H C cl fp => sE x _ (G.blk ok.kind s H C cl fp) h5, ns, tg_snd h1⟩
theorem sLc {bi : Bi} {lv : Nat} (x : Ex) (i : Nat) (s : Sr) (c : Ot) {S : Sr0} {sc : Scope} {N : List Str} {X : Cx} {elt iter : Expr} {ifs : List Expr} {scope : Scope} {y : Str} {yp : Pos} (G : Gd S bi sc N lv X) (h1 : N[i]? = some y) (h2 : blkC N sc scope [(y, i)] = true) (h3 : locB scope y = true)
    (h0 : isEnu s = false) (h5 : cI bi sc N s iter = true) (h6 : cF bi (relS scope sc) N c ifs = true) (h7 : cE bi (relS scope sc) N x elt = true) : LcParts X i (tI S s) (tF S.blk c) (tE S.blk x) elt (.Name y yp) iter ifs scope y :=
  lcParts i G h1 h2 h3 (sI s (.Name y yp) iter G (.inl h0) h5) (fun _ g => sF c _ g h6) (fun _ g => sE x _ g h7)
end Vg

set_option Elab.async false
set_option linter.all false
set_option maxRecDepth 100000
namespace Vg
open PySem PySem.Spec PyProof.Rows L2
/-- one name's kind is local -/
def lclB (sc : Scope) (x : Str) : Bool := match sc.names.lookup x with
  | some .local => true
  | _ => false
def cellB (sc : Scope) (x : Str) : Bool := match sc.names.lookup x with
  | some .cell => true
  | _ => false
/-- x = [..] where the list is stored within -/
def lcHere (sc : Scope) (x : Str) (px : Pos) : Expr → Bool
  | .ListComp _ _ scope pos => lclB sc x && (px.line == pos.line) && !(scope.names.any fun (n, k) => n == x && (k == .local || k == .cell))
  | _ => false
def namesB (sc : Scope) (N : List Str) : List Nat → List Expr → Bool
  | [], ts => ts.isEmpty
  | i :: is, ts => match ts with
    | .Name x _ :: r => decide (N[i]? = some x) && locB sc x && namesB sc N is r
    | _ => false
/-- what an except clause names -/
def cHd1 (bi : Bi) (sc : Scope) (c : Str) : Expr → Bool
  | .Name x _ => decide (x = c) && glB sc x && nmOk x && bi.oc x
  | _ => false
def cHd (bi : Bi) (sc : Scope) (cs : List Str) : Bool → Expr → Bool
  | false, e => match cs with
    | [c] => cHd1 bi sc c e
    | _ => false
  | true, e => match e, cs with
    | .Tuple [a, b] _ _, [c, d] => cHd1 bi sc c a && cHd1 bi sc d b
    | .Tuple [a, b, e] _ _, [c, d, f] => cHd1 bi sc c a && cHd1 bi sc d b && cHd1 bi sc f e
    | _, _ => false
/-- the fields of the exception in slot n -/
def cFl (sc : Scope) (N : List Str) (n : Nat) (f : Str) : Expr → Bool
  | .Attribute (.Name x _) g _ => decide (N[n]? = some x) && visB sc x && nmOk x && decide (g = f)
  | _ => false
def cFls (sc : Scope) (N : List Str) (n : Nat) : List Str → List Expr → Bool
  | [], es => es.isEmpty
  | f :: fs, es => match es with
    | e :: r => cFl sc N n f e && cFls sc N n fs r
    | [] => false
/-- an except suite -/
def cSu (sc : Scope) (N : List Str) (n : Nat) : Su → Stmt → Bool
  | .keep j, s => match s with
    | .Assign [.Name x _] (.Name y _) _ => decide (N[j]? = some x) && locB sc x && decide (N[n]? = some y) && visB sc y && nmOk y
    | _ => false
  | .app j fs tup, s => match s with
    | .Expr (.Call (.Attribute (.Name x _) m apos) [a] [] cpos) _ => decide (N[j]? = some x) && visB sc x && nmOk x && decide (m = "append") && (apos.endLine == cpos.line) && (match tup, fs with
      | true, fs => (match a with
        | .Tuple es _ _ => cFls sc N n fs es
        | _ => false)
      | false, [f] => cFl sc N n f a
      | false, _ => false)
    | _ => false
mutual
def cM (bi : Bi) (sc : Scope) (N : List Str) : Sm → Stmt → Bool
  | .set i _ e, s => match s with
    | .Assign [.Name x px] v _ => decide (N[i]? = some x) && locB sc x && cE bi sc N e v && (!isCompE v || lcHere sc x px v || cellB sc x)
    | _ => false
  | .par i j _ _ a b, s => match s with
    | .Assign [.Tuple [.Name x px, .Name y py] _ _] (.Tuple [u, w] _ _) _ => decide (N[i]? = some x) && decide (N[j]? = some y) && !(i == j) && lclB sc x && lclB sc y && (px.line == py.line) && !(x == y) && cE bi sc N a u && cE bi sc N b w &&
      !isStar u && !isStar w && !(foldedForSure 8 u && foldedForSure 8 w) && !(constantsAlone 8 u && constantsAlone 8 w)
    | _ => false
  | .unp is e, s => match s with
    | .Assign [.Tuple ts _ _] v _ => namesB sc N is ts && cE bi sc N e v && !isCompE v && (match v with
      | .Tuple vs _ _ => vs.all (foldedForSure 8)
      | _ => true)
    | _ => false
  | .put d k e, s => match s with
    | .Assign [.Subscript o i _] v _ => cE bi sc N d o && cE bi sc N k i && cE bi sc N e v
    | _ => false
  | .exp e, s => match s with
    | .Expr v _ => cE bi sc N e v && !isCompE v
    | _ => false
  | .ret e, s => match s with
    | .Return (some v) _ => cE bi sc N e v
    | _ => false
  | .retN, s => match s with
    | .Return none _ => true
    | _ => false
  | .ife c a b, s => match s with
    | .If t x y _ => cT bi sc N c t && cMs bi sc N a x && cMs bi sc N b y
    | _ => false
  | .for_ i r b, s => match s with
    | .For (.Name x _) iter body [] _ => decide (N[i]? = some x) && locB sc x && cI bi sc N r iter && !isEnu r && cMs bi sc N b body
    | _ => false
  | .whl c b, s => match s with
    | .While t body [] _ => cT bi sc N c t && cMs bi sc N b body
    | _ => false
  | .forU is r b, s => match s with
    | .For (.Tuple ts _ _) iter body [] _ => namesB sc N is ts && cI bi sc N r iter && cMs bi sc N b body
    | _ => false
  | .rai c es, s => match s with
    | .Raise (some (.Call (.Name x _) as [] _)) none _ => decide (x = c) && glB sc x && nmOk x && bi.oc c && bi.xc c es.len [] [] && cA bi sc N es as
    | _ => false
  | .trk n cs tup su b, s => match s with
    | .Try body [.ExceptHandler (some hx) (some x) [st] _] [] [] _ => decide (N[n]? = some x) && lclB sc x && cHd bi sc cs tup hx && cSu sc N n su st && cMs bi sc N b body
    | _ => false
  | .pas, s => match s with
    | .Pass _ => true
    | _ => false
  | .brk, s => match s with
    | .Break _ => true
    | _ => false
  | .cnt, s => match s with
    | .Continue _ => true
    | _ => false
def cMs (bi : Bi) (sc : Scope) (N : List Str) : List Sm → List Stmt → Bool
  | [], ss => ss.isEmpty
  | x :: r, ss => match ss with
    | s :: t => cM bi sc N x s && cMs bi sc N r t
    | [] => false
end
structure Gs (S : Sr0) (bi : Bi) (sc : Scope) (N : List Str) (lv : Nat) (X : Cx) : Prop where
  g : Gd S bi sc N lv X
  own : PassesOwn (model X.prog X.w) X.A X.env X.xe
  fnT : ∀ x, X.fn x = true
  stk : X.stack = X.env :: X.outer
  frm : X.env.frame = some X.env.locals
  nex : X.ex = []
  tk : Takes X S.W
section
variable {S : Sr0} {bi : Bi} {sc : Scope} {N : List Str} {lv : Nat} {X : Cx}
theorem Gs.loc (G : Gs S bi sc N lv X) {x : Str} (h : locB sc x = true) : L2.Loc X.env.scope x := by
  unfold L2.Loc
  rw [G.g.scn]
  unfold locB at h
  split at h
  · exact .inl (by assumption)
  · exact .inr (by assumption)
  · cases h
theorem Gs.lcl (G : Gs S bi sc N lv X) {x : Str} (h : lclB sc x = true) : X.env.scope.names.lookup x = some .local := by
  rw [G.g.scn]
  unfold lclB at h
  split at h
  · assumption
  · cases h
theorem noSwap {v : Expr} {t : Option Expr} {l : Nat} {env : Env} (h : isCompE v = false) : swapsWith v t l env = pure false := by
  cases v <;> first | rfl | (exact absurd h (by intro z; cases z))
theorem noSwapSub {v o i : Expr} {p : Pos} {l : Nat} {env : Env} : swapsWith v (some (.Subscript o i p)) l env = pure false := by
  cases v <;> rfl
theorem noSwapTup {v : Expr} {ts : List Expr} {k : Nat} {p : Pos} {l : Nat} {env : Env} : swapsWith v (some (.Tuple ts k p)) l env = pure false := by
  cases v <;> rfl
theorem swap2 {x y : Str} {px py pt pt2 : Pos} {kt k2 : Nat} {u w : Expr} {env : Env} (hb : env.scope.kind = .function) (hx : env.scope.names.lookup x = some .local) (hy : env.scope.names.lookup y = some .local) (hl : (px.line == py.line) = true) (hn : (x == y) = false)
    (hu : isStar u = false) (hw : isStar w = false) (hf : (foldedForSure 8 u && foldedForSure 8 w) = false) (hc : (constantsAlone 8 u && constantsAlone 8 w) = false) :
    swappedStores [.Tuple [.Name x px, .Name y py] kt pt] (.Tuple [u, w] k2 pt2) env = pure (some [x, y]) := by
  have kx : env.kindOf x = some .local := hx
  have ky : env.kindOf y = some .local := hy
  have bk : env.blockKind = .function := by unfold Env.blockKind; rw [hb]; rfl
  have hl2 : (py.line == px.line) = true := by rw [beq_iff_eq] at hl ⊢; exact hl.symm
  have e1 : (env.kindOf x == some .local && px.line == px.line) = true := by rw [kx]; simp
  have e2 : (env.kindOf y == some .local && py.line == px.line) = true := by rw [ky, hl2]; rfl
  have nx : List.length (List.eraseDups [x, y]) = 2 := by
    have : (y == x) = false := by rw [beq_eq_false_iff_ne] at hn ⊢; exact fun z => hn z.symm
    simp [List.eraseDups, List.eraseDupsBy, List.eraseDupsBy.loop, this]
  unfold swappedStores
  simp only [List.length_cons, List.length_nil, bk, List.any_cons, List.any_nil, List.head?_cons, Option.map_some, Option.getD_some, Expr.pos, List.filterMap_cons, List.filterMap_nil, e1, e2, if_true, List.all_cons, List.all_nil, Bool.and_true, hf, hc]
  simp [nx]
  intro z
  rcases z with z | z
  · split at z
    · exact absurd hu (by intro q; cases q)
    · cases z
  · split at z
    · exact absurd hw (by intro q; cases q)
    · cases z
theorem swapCell {x : Str} {px : Pos} {v : Expr} {l : Nat} {env : Env} (h : env.scope.names.lookup x = some .cell) (hs : ∀ a b d p, v ≠ .SetComp a b d p) (hd : ∀ a b c d p, v ≠ .DictComp a b c d p) : swapsWith v (some (.Name x px)) l env = pure false := by
  have kx : env.kindOf x = some .cell := h
  cases v <;> first
    | rfl
    | (exact absurd rfl (hs _ _ _ _))
    | (exact absurd rfl (hd _ _ _ _ _))
    | (unfold swapsWith; simp [kx, show (NameKind.cell == NameKind.local) = false from rfl])
theorem noNone1 {t v : Expr} {env : Env} (h : ∀ vs k p, v ≠ .Tuple vs k p) : swappedStores [t] v env = pure none := by
  cases v <;> first
    | (exact absurd rfl (h _ _ _))
    | (cases t <;> rfl)
theorem noNone2 {ts vs : List Expr} {k k2 : Nat} {p p2 : Pos} {env : Env} (h : vs.all (foldedForSure 8) = true) : swappedStores [.Tuple ts k p] (.Tuple vs k2 p2) env = pure none := by
  unfold swappedStores
  simp only [h]
  split
  · rfl
  · split
    · rfl
    · split
      · rfl
      · rfl
theorem sNames {is : List Nat} : ∀ {ts : List Expr}, Gs S bi sc N lv X → namesB sc N is ts = true → PGs X ts (gIs is) ∧ (assignEach ts X.env).length = is.length ∧ (assignEach ts X.env).findIdx? (·.1) = none := by
  induction is with
  | nil =>
    intro ts G h
    unfold namesB at h
    cases ts with
    | nil => exact ⟨pgs_nil, rfl, rfl⟩
    | cons _ _ => cases h
  | cons i is ih =>
    intro ts G h
    unfold namesB at h
    split at h
    · simp only [Bool.and_eq_true, decide_eq_true_eq] at h
      obtain ⟨⟨h1, h2⟩, h3⟩ := h
      obtain ⟨p1, p2, p3⟩ := ih G h3
      refine ⟨pgs_cons (pg_name (by rw [G.g.nx]; exact G.g.nd) (by rw [G.g.nx]; exact h1) (G.loc h2) (.inl (G.fnT _))) p1, ?_, ?_⟩
      · show (_ :: assignEach _ X.env).length = _
        rw [List.length_cons, p2, List.length_cons]
      · show List.findIdx? _ ((false, _) :: assignEach _ X.env) = none
        rw [List.findIdx?_cons]
        simp [p3]
    · cases h
end
section
variable {S : Sr0} {bi : Bi} {sc : Scope} {N : List Str} {lv : Nat} {X : Cx}
/-- within a try -/
theorem Gs.tr (G : Gs S bi sc N lv X) {W : WX} {pn : List (Addr × Obj)} {xe : Value → Shared → Prop} (tk : Takes (X.tr pn xe) W) (po : PassesOwn (model X.prog X.w) X.A X.env xe) : Gs { S with W := W } bi sc N lv (X.tr pn xe) where
  g :=
    { nx := G.g.nx
      nd := G.g.nd
      K := G.g.K
      scn := G.g.scn
      sck := G.g.sck
      kk := G.g.kk
      calm := G.g.calm
      gd := G.g.gd
      room := G.g.room
      gl := G.g.gl
      kw := G.g.kw
      bz := G.g.bz
      fn := G.g.fn
      oc := G.g.oc
      xc := G.g.xc
      pass := fun σ => passAt tk σ }
  own := po
  fnT := G.fnT
  stk := G.stk
  frm := G.frm
  nex := G.nex
  tk := tk
theorem sHd1 (G : Gs S bi sc N lv X) {a : Addr} {pn : List (Addr × Obj)} {c : Str} {e : Expr} (h : cHd1 bi sc c e = true) : ∃ x p, e = .Name x p ∧ Names (Cx.su X a pn) x (clU S (.own c)) := by
  unfold cHd1 at h
  split at h
  · rename_i x p
    simp only [Bool.and_eq_true, decide_eq_true_eq] at h
    obtain ⟨⟨⟨h1, h2⟩, h3⟩, h4⟩ := h
    subst h1
    obtain ⟨C, e1, e2⟩ := G.g.oc _ h4
    refine ⟨x, p, rfl, G.g.glob h2, (nm1 h3).1, .inl ?_⟩
    unfold clU
    simp only [e1]
    exact e2
  · cases h
theorem sHd (G : Gs S bi sc N lv X) {cs : List Str} {tup : Bool} {hx : Expr} (h : cHd bi sc cs tup hx = true) (a : Addr) (pn : List (Addr × Obj)) : Clz (Cx.su X a pn) hx (csU S cs) := by
  cases tup with
  | false =>
    unfold cHd at h
    simp only at h
    split at h
    · obtain ⟨x, p, rfl, hn⟩ := sHd1 (a := a) (pn := pn) G h
      exact .one hn
    · cases h
  | true =>
    unfold cHd at h
    simp only at h
    split at h
    · rw [Bool.and_eq_true] at h
      obtain ⟨x, p, rfl, h1⟩ := sHd1 (a := a) (pn := pn) G h.1
      obtain ⟨y, q, rfl, h2⟩ := sHd1 (a := a) (pn := pn) G h.2
      exact .two h1 h2
    · rw [Bool.and_eq_true, Bool.and_eq_true] at h
      obtain ⟨x, p, rfl, h1⟩ := sHd1 (a := a) (pn := pn) G h.1.1
      obtain ⟨y, q, rfl, h2⟩ := sHd1 (a := a) (pn := pn) G h.1.2
      obtain ⟨z, r, rfl, h3⟩ := sHd1 (a := a) (pn := pn) G h.2
      exact .three h1 h2 h3
    · cases h
theorem suVar (G : Gs S bi sc N lv X) {a : Addr} {pn : List (Addr × Obj)} {i : Nat} {x : Str} {p : Pos} (h1 : N[i]? = some x) (h2 : visB sc x = true) (h3 : nmOk x = true) : PE (Cx.su X a pn) (.Name x p) (tVar i) :=
  pe_var (X := Cx.su X a pn) (by show X.N[i]? = some x; rw [G.g.nx]; exact h1) (G.g.vis h2) (nm1 h3).1 (nm1 h3).2.1
theorem sFl (G : Gs S bi sc N lv X) {a : Addr} {pn : List (Addr × Obj)} {n : Nat} {f : Str} {e : Expr} (h : cFl sc N n f e = true) : PE (Cx.su X a pn) e (tFld S.K f (tVar n)) ∧ isStar e = false := by
  unfold cFl at h
  split at h
  · rename_i y yp g gp
    simp only [Bool.and_eq_true, decide_eq_true_eq] at h
    obtain ⟨⟨⟨h1, h2⟩, h3⟩, h4⟩ := h
    subst h4
    have z := pe_fldX (X := Cx.su X a pn) (f := g) (pos := gp) (suVar (a := a) (pn := pn) (p := yp) G h1 h2 h3) rfl
    refine ⟨?_, rfl⟩
    have ek : (Cx.su X a pn).K = S.K := G.g.K
    rw [ek] at z
    exact z
  · cases h
theorem sFls (G : Gs S bi sc N lv X) {a : Addr} {pn : List (Addr × Obj)} {n : Nat} : ∀ {fs : List Str} {es : List Expr}, cFls sc N n fs es = true → PA (Cx.su X a pn) es (tFlds S.K n fs)
  | [], es, h => by
    unfold cFls at h
    cases es with
    | nil => exact pa_nil
    | cons _ _ => cases h
  | f :: fs, es, h => by
    unfold cFls at h
    split at h
    · rw [Bool.and_eq_true] at h
      obtain ⟨p, st⟩ := sFl (a := a) (pn := pn) G h.1
      exact pa_cons p (sFls G h.2) (star1 st)
    · cases h
theorem sSu (G : Gs S bi sc N lv X) {n : Nat} {su : Su} {st : Stmt} (h : cSu sc N n su st = true) (a C : Addr) (d : Option Addr) (pn : List (Addr × Obj)) : PSs (Cx.su X a pn) [st] (suT S n su) := by
  have nd : (Cx.su X a pn).N.Nodup := by show X.N.Nodup; rw [G.g.nx]; exact G.g.nd
  cases su with
  | keep j =>
    unfold cSu at h
    simp only at h
    split at h
    · simp only [Bool.and_eq_true, decide_eq_true_eq] at h
      obtain ⟨⟨⟨⟨h1, h2⟩, h3⟩, h4⟩, h5⟩ := h
      exact pss_one (ps_set (X := Cx.su X a pn) nd (by show X.N[j]? = some _; rw [G.g.nx]; exact h1) (G.loc h2) (suVar (a := a) (pn := pn) G h3 h4 h5) (noSwap rfl) (.inl (G.fnT _)))
    · cases h
  | app j fs tup =>
    unfold cSu at h
    simp only at h
    split at h
    · rename_i x p m apos ae cpos pos
      simp only [Bool.and_eq_true, decide_eq_true_eq] at h
      obtain ⟨⟨⟨⟨⟨h1, h2⟩, h3⟩, h4⟩, h5⟩, h6⟩ := h
      subst h4
      have arg : ∃ t, PE (Cx.su X a pn) ae t ∧ isStar ae = false ∧ suT S n (.app j fs tup) = tDrop (tBM S.K "list" rAppend (tVar j) (tCons t tNil)) := by
        cases tup with
        | true =>
          simp only at h6
          split at h6
          · exact ⟨_, pe_tup (sFls (a := a) (pn := pn) G h6), rfl, rfl⟩
          · cases h6
        | false =>
          cases fs with
          | nil => cases h6
          | cons f fs =>
            cases fs with
            | cons _ _ => cases h6
            | nil =>
              obtain ⟨p1, p2⟩ := sFl (a := a) (pn := pn) G h6
              exact ⟨_, p1, p2, rfl⟩
      obtain ⟨t, pt, st, e⟩ := arg
      rw [e]
      have bm := pe_bm (X := Cx.su X a pn) (es := []) PySem.F.plainAttrs_list PySem.F.slot_list_append PySem.F.type_list_append mt_append (suVar (a := a) (pn := pn) G h1 h2 h3 (p := p)) (pa_cons pt pa_nil (star1 st)) rfl (by
        rw [star1 st]; rfl) h5 (star1 st) (by rfl)
      have ek : (Cx.su X a pn).K = S.K := G.g.K
      rw [ek] at bm
      exact pss_one (ps_expr bm (noSwap rfl))
    · cases h
end
mutual
theorem sM {S : Sr0} {bi : Bi} {sc : Scope} {N : List Str} {lv : Nat} {X : Cx} (G : Gs S bi sc N lv X) : ∀ (x : Sm) (s : Stmt), cM bi sc N x s = true → PS X s (tM S x)
  | .set i own e, s, h => by
    unfold cM at h
    split at h
    · rename_i x px v pos
      simp only [Bool.and_eq_true, decide_eq_true_eq] at h
      obtain ⟨⟨⟨h1, h2⟩, h3⟩, h4⟩ := h
      have nd : X.N.Nodup := by rw [G.g.nx]; exact G.g.nd
      have hi : X.N[i]? = some x := by rw [G.g.nx]; exact h1
      by_cases hc : isCompE v = false
      · exact ps_set nd hi (G.loc h2) (sE e v G.g h3) (noSwap hc) (.inl (G.fnT _))
      · -- a comprehension
        cases v with
        | ListComp elt gs scope cp =>
          by_cases hcell : cellB sc x = true
          · have hk : X.env.scope.names.lookup x = some .cell := by
              rw [G.g.scn]
              unfold cellB at hcell
              split at hcell
              · assumption
              · cases hcell
            exact ps_set nd hi (G.loc h2) (sE e _ G.g h3) (swapCell hk (fun _ _ _ _ z => by cases z) (fun _ _ _ _ _ z => by cases z)) (.inl (G.fnT _))
          · have hl : lcHere sc x px (.ListComp elt gs scope cp) = true := by
              have hc' : isCompE (.ListComp elt gs scope cp) = true := rfl
              rw [hc'] at h4
              simp only [Bool.not_true, Bool.false_or, Bool.or_eq_true] at h4
              exact h4.resolve_right hcell
            unfold lcHere at hl
            simp only [Bool.and_eq_true, Bool.not_eq_true'] at hl
            obtain ⟨⟨l1, l2⟩, l3⟩ := hl
            cases e with
            | lc x0 i0 s0 c0 =>
              unfold cE at h3
              split at h3
              · rename_i heq
                cases heq
                simp only [Bool.and_eq_true, decide_eq_true_eq] at h3
                obtain ⟨⟨⟨⟨⟨⟨⟨g1, g2⟩, g3⟩, g4⟩, g5⟩, g0⟩, g6⟩, g7⟩ := h3
                rw [Bool.not_eq_true'] at g0
                rename_i y yp iter ifs
                have P := sLc (yp := yp) x0 i0 s0 c0 G.g g1 g2 g3 g0 g5 g6 g7
                exact ps_setLc G.g.calm nd hi (G.lcl l1) (sw_true G.g.sck (G.lcl l1) l2 l3) P.pi P.ok P.g P.t P.e (noFold P.ns)
              · cases h3
            | lcU x0 is0 s0 c0 =>
              unfold cE at h3
              split at h3
              · rename_i heq
                cases heq
                rename_i ts k tp iter ifs
                simp only [Bool.and_eq_true] at h3
                obtain ⟨⟨⟨⟨g1, g2⟩, g3⟩, g4⟩, g5⟩ := h3
                have P := sLcU (k := k) (tp := tp) x0 is0 s0 c0 G.g g1 g2 g3 g4 g5
                have z : PS X (.Assign [.Name x px] (.ListComp elt [⟨.Tuple ts k tp, iter, ifs, 0⟩] scope cp) pos) (tAsg (tLc (tI S s0) (gTup X.K is0.length (gIs is0)) (tF S.blk c0) (tE S.blk x0) (((tgNames ts).zip is0).map (·.2))) (gName i)) :=
                  ps_setLc G.g.calm nd hi (G.lcl l1) (sw_true G.g.sck (G.lcl l1) l2 l3) P.pi P.ok P.g P.t P.e (noFold P.ns)
                rw [P.sd, G.g.K] at z
                exact z
              · cases h3
            | _ => (simp [cE] at h3)
        | SetComp _ _ _ _ => cases e <;> simp [cE] at h3
        | DictComp _ _ _ _ _ => cases e <;> simp [cE] at h3
        | _ => exact absurd rfl hc
    · cases h
  | .par i j o1 o2 a b, s, h => by
    unfold cM at h
    split at h
    · simp only [Bool.and_eq_true, decide_eq_true_eq, Bool.not_eq_true'] at h
      obtain ⟨⟨⟨⟨⟨⟨⟨⟨⟨⟨⟨⟨h1, h2⟩, h3⟩, h4⟩, h5⟩, h6⟩, h7⟩, h8⟩, h9⟩, h10⟩, h11⟩, h12⟩, h13⟩ := h
      have nd : X.N.Nodup := by rw [G.g.nx]; exact G.g.nd
      exact ps_par G.g.calm nd (by rw [G.g.nx]; exact h1) (by rw [G.g.nx]; exact h2) (by intro z; rw [z] at h3; simp at h3) (G.lcl h4) (G.lcl h5)
        (pa_cons (sE a _ G.g h8) (pa_cons (sE b _ G.g h9) pa_nil (star1 h11)) (star1 h10)) (swap2 G.g.sck (G.lcl h4) (G.lcl h5) h6 h7 h10 h11 h12 h13) rfl
    · cases h
  | .unp is e, s, h => by
    unfold cM at h
    split at h
    · rename_i ts k p v pos
      simp only [Bool.and_eq_true, Bool.not_eq_true'] at h
      obtain ⟨⟨⟨h1, h2⟩, h3⟩, h4⟩ := h
      obtain ⟨p1, p2, p3⟩ := sNames G h1
      show PS X _ (tAsg (tE S e) (gTup S.K is.length (gIs is)))
      rw [← G.g.K]
      refine ps_asg (sE e v G.g h2) (pg_tup G.g.calm p1 p2 p3) (show swapsWith v (some (.Tuple ts k p)) pos.line X.env = pure false from noSwapTup (k := k) (p := p)) ?_ rfl
      split at h4
      · exact noNone2 h4
      · rename_i hn
        exact noNone1 fun vs k p z => hn vs k p z
    · cases h
  | .put d k e, s, h => by
    unfold cM at h
    split at h
    · simp only [Bool.and_eq_true] at h
      obtain ⟨⟨h1, h2⟩, h3⟩ := h
      exact ps_dput (hu_of G.g.room) (sE d _ G.g h1) (sE k _ G.g h2) (sE e _ G.g h3) noSwapSub
    · cases h
  | .exp e, s, h => by
    unfold cM at h
    split at h
    · simp only [Bool.and_eq_true, Bool.not_eq_true'] at h
      exact ps_expr (sE e _ G.g h.1) (noSwap h.2)
    · cases h
  | .ret e, s, h => by
    unfold cM at h
    split at h
    · exact ps_ret (sE e _ G.g h)
    · cases h
  | .retN, s, h => by
    unfold cM at h
    split at h
    · exact ps_retN
    · cases h
  | .ife c a b, s, h => by
    unfold cM at h
    split at h
    · simp only [Bool.and_eq_true] at h
      obtain ⟨⟨h1, h2⟩, h3⟩ := h
      exact ps_if (sT c _ G.g h1).1 (sMs G a _ h2) (sMs G b _ h3)
    · cases h
  | .for_ i r b, s, h => by
    unfold cM at h
    split at h
    · rename_i x px iter body pos
      simp only [Bool.and_eq_true, decide_eq_true_eq] at h
      obtain ⟨⟨⟨⟨h1, h2⟩, h3⟩, h0⟩, h4⟩ := h
      rw [Bool.not_eq_true'] at h0
      have nd : X.N.Nodup := by rw [G.g.nx]; exact G.g.nd
      obtain ⟨pi, ns⟩ := sI r (.Name x px) iter G.g (.inl h0) h3
      exact ps_for G.own G.g.calm pi (pg_name nd (by rw [G.g.nx]; exact h1) (G.loc h2) (.inl (G.fnT _))) (sMs G b _ h4) (noFold ns)
    · cases h
  | .whl c b, s, h => by
    unfold cM at h
    split at h
    · simp only [Bool.and_eq_true] at h
      exact ps_while G.own (sT c _ G.g h.1).1 (sMs G b _ h.2)
    · cases h
  | .forU is r b, s, h => by
    unfold cM at h
    split at h
    · rename_i ts k tp iter body pos
      simp only [Bool.and_eq_true] at h
      obtain ⟨⟨h1, h2⟩, h3⟩ := h
      obtain ⟨p1, p2, p3⟩ := sNames G h1
      obtain ⟨pi, ns⟩ := sI r (.Tuple ts k tp) iter G.g (.inr ⟨ts, k, tp, rfl⟩) h2
      show PS X _ (tFor (tI S r) (gTup S.K is.length (gIs is)) (tMs S b))
      rw [← G.g.K]
      exact ps_for G.own G.g.calm pi (pg_tup G.g.calm p1 p2 p3) (sMs G b _ h3) (noFold ns)
    · cases h
  | .rai c es, s, h => by
    unfold cM at h
    split at h
    · rename_i x xp as cp pos
      simp only [Bool.and_eq_true, decide_eq_true_eq] at h
      obtain ⟨⟨⟨⟨⟨h1, h2⟩, h3⟩, h4⟩, h5⟩, h6⟩ := h
      subst h1
      obtain ⟨pa, st⟩ := sA es _ G.g h6
      obtain ⟨C, e1, e2⟩ := G.g.oc x h4
      show PS X _ (match S.cl x, S.C.xk x with
        | some C, some ns => fun _ σ H => tMkr C ns es.len (tA S es) σ H fun cls d H' => S.W cls d σ H'
        | _, _ => fun _ _ _ => False)
      rw [e1]
      cases hk : S.C.xk x with
      | none => exact ⟨fun _ _ _ _ _ _ z => z.elim⟩
      | some ns =>
        obtain ⟨gV, M, hg⟩ := G.g.xc x _ _ _ C ns h5 e1 hk
        have eg : ∀ vs : List V, vs.length = es.len → gV vs [] = vs := fun vs hv => by
          rw [hg vs [] hv rfl]
          show vs ++ [] = vs
          rw [List.append_nil]
        have room : X.A.depth + 1 < recursionLimit := by have := G.g.room.dp; omega
        cases as with
        | nil =>
          cases es with
          | nil => exact ps_raise G.g.calm G.tk (pmk_mkr0 M eg room (G.g.glob h2) e2 (nm1 h3).1)
          | cons _ _ => unfold cA at h6; cases h6
        | cons y ys =>
          rw [List.all_cons, Bool.and_eq_true, Bool.not_eq_true'] at st
          exact ps_raise G.g.calm G.tk (pmk_mkr M eg room (G.g.glob h2) e2 pa (nm1 h3).1 (star1 st.1) (any_stars st.2))
    · cases h
  | .trk n cs tup su b, s, h => by
    unfold cM at h
    split at h
    · rename_i body hx x st hp pos
      simp only [Bool.and_eq_true, decide_eq_true_eq] at h
      obtain ⟨⟨⟨⟨h1, h2⟩, h3⟩, h4⟩, h5⟩ := h
      have nd : X.N.Nodup := by rw [G.g.nx]; exact G.g.nd
      have z := ps_tryT (X := X) (pos := pos) (pos' := hp) (tb := fun W => tMs { S with W := W } b) (ts := fun _ _ _ => suT S n su) G.stk G.frm G.nex nd (by rw [G.g.nx]; exact h1) (G.lcl h2) (fun a pn => sHd G h3 a pn) G.tk
        (fun W pn xe tk po => sMs (G.tr tk po) b _ h5) (fun a C d pn => sSu G h4 a C d pn)
      rw [G.g.K] at z
      exact z
    · cases h
  | .pas, s, h => by
    unfold cM at h
    split at h
    · exact ps_pass
    · cases h
  | .brk, s, h => by
    unfold cM at h
    split at h
    · exact ps_break
    · cases h
  | .cnt, s, h => by
    unfold cM at h
    split at h
    · exact ps_continue
    · cases h
theorem sMs {S : Sr0} {bi : Bi} {sc : Scope} {N : List Str} {lv : Nat} {X : Cx} (G : Gs S bi sc N lv X) : ∀ (x : List Sm) (s : List Stmt), cMs bi sc N x s = true → PSs X s (tMs S x)
  | [], s, h => by
    unfold cMs at h
    cases s with
    | nil => exact pss_nil
    | cons _ _ => cases h
  | x :: r, s, h => by
    unfold cMs at h
    split at h
    · rw [Bool.and_eq_true] at h
      exact pss_cons (sM G x _ h.1) (sMs G r _ h.2)
    · cases h
end
end Vg

set_option Elab.async false
set_option linter.all false
set_option maxRecDepth 100000
namespace Vg
open PySem PySem.Spec PyProof.Rows L2
/-- what is known of the own classes of exceptions -/
structure XG (K : PySem.W.Frag) (mg : Str → Option Value) (C : Cts) (gv : Str → V) (cl : Str → Option Addr) (bi : Bi) : Prop where
  ok : ∀ W, ClOk ⟨K, W, cl, C, gv⟩
  oc : ∀ c, bi.oc c = true → ∃ D, cl c = some D ∧ mg c = some (.ref D)
  xc : ∀ c n ks fl D ns, bi.xc c n ks fl = true → cl c = some D → C.xk c = some ns → ∃ gV, Mkb K D ns n ks gV ∧ ∀ vs zs, vs.length = n → zs.length = ks.length → gV vs zs = vs ++ fillV gv fl zs
/-- what is known of the module at a level of calls -/
structure Glo (P : Program) (w : World) (K : PySem.W.Frag) (mg : Str → Option Value) (base : Heap) (k : Nat) (C : Cts) (gv : Str → V) (cl : Str → Option Addr) (bi : Bi) : Prop where
  xg : XG K mg C gv cl bi
  gl : ∀ x d, C.gt x = some d → dotted x = false → ∃ u, mg x = some u ∧ RelV (gv x) u
  kw : ∀ f c n ks fl, C.fn f = some c → bi.kw f n ks fl = true → ∃ fa fd ps g gV, mg f = some (.ref fa) ∧ PySem.W.keepIn K (.ref fa) = true ∧ KBn K fd ps n ks g gV ∧ (∀ vs zs, vs.length = n → zs.length = ks.length → gV vs zs = vs ++ fillV gv fl zs) ∧ FnG P w K mg base k fa fd ps (spOf K cl c)
  gv : ∀ x d, C.gt x = some d → ∀ F, Rp K F (gv x) d
  bz : ∀ x, bi x = true → mg x = none
  fn : ∀ f c, C.fn f = some c → bi.ps f = true → ∃ fa fd ps, mg f = some (.ref fa) ∧ PySem.W.keepIn K (.ref fa) = true ∧ Binds K fd ps [] ∧ FnG P w K mg base k fa fd ps (spOf K cl c)
section
variable {P : Program} {w : World} {K : PySem.W.Frag} {mg : Str → Option Value} {base : Heap} {k : Nat} {C : Cts} {gv : Str → V} {cl : Str → Option Addr} {bi : Bi} {c : Ct} {N ps : List Str} {x qual : Str} {params : Arguments} {body : List Stmt} {scope : Scope} {dvs : List V} {kws : List (Str × V)} {f : Addr} {fd : FuncData} {b : List Sm}
theorem RpAll.len {F : Hp} {vs : List V} {ds : List D} (h : RpAll K F vs ds) : vs.length = ds.length := h.length
theorem spLen (B : BodyOk C c N.length ps.length b) : ∀ vs H Q E, spOf K cl c vs H Q E → vs.length = ps.length := fun vs H Q E h => by
  obtain ⟨F, _, h⟩ := h
  cases hio : c.io with
  | false =>
    rw [hio] at h
    obtain ⟨ds, a, w⟩ := h
    rw [a.length]
    exact B.1 _ _ _ w
  | true =>
    rw [hio] at h
    obtain ⟨p, vs', d, ds, rfl, _, a, w⟩ := h
    have := B.1 _ _ _ w
    rw [List.length_cons] at this ⊢
    rw [a.length]
    exact this
theorem nolook {α β : Type} [BEq α] [LawfulBEq α] {l : List (α × β)} {y : α} {k : β} (h : l.lookup y = some k) : (y, k) ∈ l := by
  induction l with
  | nil => cases h
  | cons q l ih =>
    obtain ⟨a, b⟩ := q
    rw [List.lookup_cons] at h
    split at h
    · rename_i e
      rw [beq_iff_eq] at e
      cases h
      rw [e]
      exact List.mem_cons_self ..
    · exact List.mem_cons_of_mem _ (ih h)
/-- THE RULE -/
theorem fn_ok (F : FunD K x qual params body scope dvs kws f fd) (S : FnScope N ps scope) (G : Glo P w K mg base k C gv cl bi) (chk : cMs bi scope N b body = true) (B : BodyOk C c N.length ps.length b) :
    FnG P w K mg base (k + 1) f fd ps (spOf K cl c) := by
  obtain ⟨oc, od, dV, kV, doc, pm, an, cdv, ct, osl, rfl, lk, hcd, _, _⟩ := F.ex
  refine fnG_of lk hcd S (spLen B) fun A outer s H vs Q E hg hr hsp => ?_
  let S0 : Sr0 := ⟨K, fun cls d _ H' => E cls d H', cl, C, gv⟩
  have gd : Gd S0 bi scope N k (cxOf (L2.CX P w) P w K mg base N qual scope f cdv A outer s H E) :=
    { nx := rfl, nd := S.nd, K := rfl, scn := rfl, sck := S.kind, kk := S.kind, calm := rfl, gd := hg, room := hr
      gl := G.gl
      kw := G.kw
      bz := G.bz
      fn := G.fn
      oc := G.xg.oc
      xc := G.xg.xc
      pass := fun σ => passAt (takes_of rfl rfl rfl rfl) σ }
  have gs : Gs S0 bi scope N k (cxOf (L2.CX P w) P w K mg base N qual scope f cdv A outer s H E) :=
    { g := gd, own := passes_of rfl, fnT := fun _ => rfl, stk := rfl, frm := rfl, nex := rfl, tk := takes_of rfl rfl rfl rfl }
  exact ⟨_, sMs gs b body chk, body_ok (S := S0) (N := N) (np := ps.length) (c := c) G.gv (G.xg.ok _) B (fun _ _ _ _ => rfl) hsp⟩
end
end Vg

set_option Elab.async false
set_option linter.all false
set_option maxRecDepth 100000
namespace Vg
open PySem PySem.Spec PyProof.Rows L2
/-- what is tracked when the law begins: the script at most -/
structure At0 (P : Program) (w : World) (K : PySem.W.Frag) (hp : Heap) (H : Hp) (p : Addr) (ns : List Int) : Prop where
  ok : HOk P w H hp
  one : ∀ b u, H b = some u → b = p ∧ K.lookup p = none ∧ ∃ o zs, u = .frz o (.lst zs)
  seq : SqL K H p (ns.map V.int)
section
variable {P : Program} {w : World} {K : PySem.W.Frag} {mg mb : Str → Option Value} {k : Nat} {fa p : Addr} {fd : FuncData} {x : Str} {sp : Sp} {t : Shared} {us : List Value} {ns : List Int}
theorem at0_ex {hp : Heap} (kx : K.In hp) (hs : hp.get? p = some { cls := .type "list", data := .seq us.toArray }) (hi : IntsAre us ns) (hl : ns.length ≤ sizeLine) : ∃ H, At0 P w K hp H p ns := by
  have r : Vals (ns.map V.int) us := vals_ints hi
  by_cases e : K.lookup p = none
  · refine ⟨fun b => if b = p then some (.frz { cls := .type "list", data := .seq us.toArray } (.lst (ns.map V.int))) else none, ?_, ?_, ?_⟩
    · intro b u z
      simp only at z
      split at z
      · rename_i q
        subst q
        cases z
        refine ⟨hs, ?_, us, _, r, hs⟩
        rw [List.length_map]
        exact hl
      · cases z
    · intro b u z
      split at z
      · rename_i q
        cases z
        exact ⟨q, e, _, _, rfl⟩
      · cases z
    · exact .inl (.inr ⟨{ cls := .type "list", data := .seq us.toArray }, if_pos rfl⟩)
  · obtain ⟨o, ho⟩ := Option.ne_none_iff_exists'.mp e
    have q := kx p o ho
    rw [hs] at q
    cases q
    refine ⟨fun _ => none, ⟨fun _ _ z => (by cases z), fun _ _ z => (by cases z), .inr ⟨_, us.toArray, _, ho, rfl, rfl, rfl, ?_, by simpa using r⟩⟩⟩
    rw [List.size_toArray, hi.length]
    exact hl
theorem At0.off {H : Hp} {hp : Heap} (T : At0 P w K hp H p ns) (hs : hp.get? p = some { cls := .type "list", data := .seq us.toArray }) {b : Addr} {o : Obj} (e : hp.get? b = some o) (n : b ≠ p ∨ K.lookup p ≠ none) : (hidT hp H).get? b = some o :=
  hidT_get e (by
    cases q : H b with
    | none => rfl
    | some u =>
      obtain ⟨z1, z2, _⟩ := T.one b u q
      rcases n with n | n
      · exact absurd z1 n
      · exact absurd z2 n)
theorem At0.nspace {H : Hp} {hp : Heap} (T : At0 P w K hp H p ns) (hs : hp.get? p = some { cls := .type "list", data := .seq us.toArray }) {b : Addr} {m : Str → Option Value} (h : hp.Ns b m) : (hidT hp H).Ns b m := by
  obtain ⟨o, es, ep, e, d, r⟩ := h
  refine ⟨o, es, ep, T.off hs e (.inl fun z => ?_), d, r⟩
  rw [z, hs] at e
  cases e
  cases d
theorem At0.kin {H : Hp} {hp : Heap} (T : At0 P w K hp H p ns) (hs : hp.get? p = some { cls := .type "list", data := .seq us.toArray }) (kx : K.In hp) : K.In (hidT hp H) := fun b o e => by
  refine T.off hs (kx b o e) ?_
  by_cases z : b = p
  · rw [← z, e]
    exact .inr (by intro q; cases q)
  · exact .inl z
/-- the law's def called by the one who holds it -/
theorem lawG (kx : K.In t.heap) (hn : t.heap.Ns mainGlobals mg) (hb : t.heap.Ns builtinsNs mb) (hbb : ∀ y : Str, y ≠ "__name__" → mb y = bootBuiltins y) (nl : t.heap.NoLimit) (hg : t.gens = #[])
    (hs : t.heap.get? p = some { cls := .type "list", data := .seq us.toArray }) (hi : IntsAre us ns) (hl : ns.length ≤ sizeLine) (rm : Room k callerA)
    (F : ∀ base : Heap, K.In base → base.Ns mainGlobals mg → FnG P w K mg base k fa fd [x] sp) (bd : ∀ (s : Shared) (u : Value), BindsTo s fd ⟨[u], []⟩ [(x, u)])
    (wish : ∀ H : Hp, SqL K H p (ns.map V.int) → sp [.ref p] H (fun v _ => v = .bl true) fun _ _ _ => False) :
    codeAny (model P w) callerA (.call (.ref fa) ⟨[.ref p], []⟩) (fun r s2 => r = .ok (.ret (.bool true)) ∧ OldK t.heap s2.heap ∧ s2.os = t.os ∧ AllBare s2.gens) t := by
  obtain ⟨H, T⟩ := at0_ex (P := P) (w := w) kx hs hi hl
  have md : Mod K mg (hidT t.heap H) := by
    refine ⟨T.kin hs kx, T.nspace hs hn, ⟨mb, T.nspace hs hb, hbb⟩, ?_⟩
    obtain ⟨mc, h1, h2⟩ := nl
    exact ⟨mc, T.nspace hs h1, h2⟩
  have ev : Env0 P w K mg (hidT t.heap H) callerA [] t H := by
    refine ⟨rfl, md, fun _ _ e => of_hidT e, Nat.le_of_eq (hidT_size _ _), trivial, fun b z => ?_, T.ok, .of_eq hg⟩
    exact absurd (show b ∈ ([] : List Addr) from z) (by simp)
  have run := (F _ (T.kin hs kx) (T.nspace hs hn)).run callerA [] t H ⟨[.ref p], []⟩ [.ref p] [.ref p] _ _ rfl rm ev (bd t (.ref p)) (.cons rfl .nil) (wish H T.seq)
  refine codeAny_mono run fun r s2 h => ?_
  match r, h with
  | .error _, h =>
    obtain ⟨_, _, _, _, _, _, _, _, _, _, _, _, z⟩ := h
    exact z.elim
  | .ok .next, h => exact h.elim
  | .ok .brk, h => exact h.elim
  | .ok .cont, h => exact h.elim
  | .ok (.ret u), h =>
    obtain ⟨v, H2, h1, h2, un, ok2, rv, z⟩ := h
    have z : v = .bl true := z
    subst z
    have rv : u = Value.bool true := rv
    subst rv
    refine ⟨rfl, OldK.of_keep fun b o e => ?_, h1, h2⟩
    cases q : H b with
    | none => exact un.keep b o e q (by intro z; exact absurd (show b ∈ ([] : List Addr) from z) (by simp)) (by simp)
    | some u =>
      obtain ⟨_, _, o2, zs, z⟩ := T.one b u q
      subst z
      have a1 := (T.ok b _ q).1
      have a2 := (ok2 b _ (un.frzs b o2 _ q)).1
      rw [e] at a1
      cases a1
      exact a2
end
/-- THE END: the goal behind the law's head -/
theorem walkG {l : PySem.W.OpenLaw} {n k : Nat} {q : Program} {loose : List Str} {XP : (Str → Option Value) → Heap → Prop} {YP : World → Heap → Prop} {d : DefRec} {K : Params → PySem.W.Frag} {x : Str} {cl : Params → Str → Option Addr} {c : Ct}
    (h1 : l.most = some n) (h2 : n ≤ sizeLine) (h3 : d.params.defaults = []) (rm : Room k callerA) (hY : ∀ (w : World) (hp : Heap), YP w hp → (K w.params).In hp)
    (F : ∀ (w : World) (mg : Str → Option Value) (fa : Addr) (hp : Heap), (K w.params).In hp → hp.Ns mainGlobals mg → mg d.name = some (.ref fa) →
      ∃ fd : FuncData, (∀ (s : Shared) (u : Value), BindsTo s fd ⟨[u], []⟩ [(x, u)]) ∧
        ∀ base : Heap, (K w.params).In base → base.Ns mainGlobals mg → FnG l.prog w (K w.params) mg base k fa fd [x] (spOf (K w.params) (cl w.params) c))
    (hio : c.io = false) (hfr : c.fr = false) (wish : ∀ ns : List Int, ns.length ≤ n → c.wp [.scr ns] (fun r _ => r = .bl true) fun _ _ _ => False) :
    PySem.W.WalkO q loose XP YP l.row.toRowW d [] (fun f vs => PySem.call f vs) := by
  refine Att.attach_call h1 h3 fun w s0 t mg mb fa o pm cd doc p us ns G Y ho hd hcd hmg hobj hints hlen hg => ?_
  obtain ⟨fd, hb, hF⟩ := F w mg fa _ (hY w _ Y) G.T.g hmg
  refine lawG (hY w _ Y) G.T.g G.T.b G.T.builtins G.T.nolimit hg hobj hints (Nat.le_trans hlen h2) rm hF hb fun H sq => ?_
  refine ⟨H, Same.refl _, ?_⟩
  rw [hio]
  refine ⟨[.scr ns], .cons (.scr sq) .nil, c.mono _ _ _ _ _ (fun r _ z => ?_) (fun _ _ _ z => z.elim) (wish ns hlen)⟩
  · intro v H' F' _ rc
    rw [hfr] at rc
    subst z
    have rc : Rp (K w.params) F' v (.bl true) := rc
    cases rc
    rfl
end Vg

set_option Elab.async false
set_option linter.all false
set_option maxRecDepth 100000
namespace Vg
open PySem L2
theorem binD_mono {o : Operator} {x y : D} {Q Q' : KR} (h : ∀ r, Q r → Q' r) (w : binD o x y Q) : binD o x y Q' := by
  unfold binD at w ⊢
  split at w <;> first
    | exact w.elim
    | exact h _ w
    | exact ⟨w.1, h _ w.2⟩
    | exact ⟨w.1, w.2.1, w.2.2.1, h _ w.2.2.2⟩
    | exact ⟨w.1, w.2.1, w.2.2.1, w.2.2.2.1, h _ w.2.2.2.2⟩
theorem eqD_mono {x y : D} {Q Q' : Bool → Prop} (h : ∀ r, Q r → Q' r) (w : eqD x y Q) : eqD x y Q' := by
  unfold eqD at w ⊢
  obtain ⟨d, e, a, b, c, f, q⟩ := w
  exact ⟨d, e, a, b, c, f, h _ q⟩
theorem inD_mono {x y : D} {Q Q' : Bool → Prop} (h : ∀ r, Q r → Q' r) (w : inD x y Q) : inD x y Q' := by
  unfold inD at w ⊢
  split at w <;> first
    | exact w.elim
    | (obtain ⟨v, vs, a, b, c, d, q⟩ := w; exact ⟨v, vs, a, b, c, d, h _ q⟩)
    | (obtain ⟨v, a, q⟩ := w; exact ⟨v, a, h _ q⟩)
theorem cmpD_mono {o : CmpOp} {x y : D} {Q Q' : Bool → Prop} (h : ∀ r, Q r → Q' r) (w : cmpD o x y Q) : cmpD o x y Q' := by
  unfold cmpD at w ⊢
  split at w <;> first
    | exact w.elim
    | exact h _ w
    | exact eqD_mono h w
    | exact eqD_mono (fun r => h _) w
    | exact inD_mono h w
    | exact inD_mono (fun r => h _) w
    | (split at w <;> exact h _ w)
theorem truD_mono {x : D} {Q Q' : Bool → Prop} (h : ∀ r, Q r → Q' r) (w : truD x Q) : truD x Q' := by
  unfold truD at w ⊢
  split at w <;> first
    | exact w.elim
    | exact h _ w
    | exact ⟨w.1, h _ w.2⟩
theorem idxD_mono {x y : D} {Q Q' : KR} (h : ∀ r, Q r → Q' r) (w : idxD x y Q) : idxD x y Q' := by
  unfold idxD at w ⊢
  split at w <;> first
    | exact w.elim
    | (obtain ⟨d, a, q⟩ := w; exact ⟨d, a, h _ q⟩)
    | (obtain ⟨a, d, b, q⟩ := w; exact ⟨a, d, b, h _ q⟩)
    | (obtain ⟨a, d, b, c, q⟩ := w; exact ⟨a, d, b, c, h _ q⟩)
theorem slcD_mono {x : D} {a b : Option Int} {Q Q' : KR} (h : ∀ r, Q r → Q' r) (w : slcD x a b Q) : slcD x a b Q' := by
  unfold slcD at w ⊢
  split at w <;> first
    | exact w.elim
    | exact h _ w
    | exact ⟨w.1, h _ w.2⟩
theorem bltD_mono {f : Bf} {ds : List D} {Q Q' : KR} (h : ∀ r, Q r → Q' r) (w : bltD f ds Q) : bltD f ds Q' := by
  unfold bltD at w ⊢
  split at w <;> first
    | exact w.elim
    | exact h _ w
    | exact ⟨w.1, h _ w.2⟩
    | (obtain ⟨a, b, q⟩ := w; exact ⟨a, b, h _ q⟩)
    | (obtain ⟨a, b, c, q⟩ := w; exact ⟨a, b, c, h _ q⟩)
    | (obtain ⟨a, b, c, d, e, f, g, q⟩ := w; exact ⟨a, b, c, d, e, f, g, h _ q⟩)
theorem btyD_mono {f : Bt} {ds : List D} {Q Q' : KR} (h : ∀ r, Q r → Q' r) (w : btyD f ds Q) : btyD f ds Q' := by
  unfold btyD at w ⊢
  split at w <;> first
    | exact w.elim
    | exact h _ w
    | exact ⟨w.1, h _ w.2⟩
    | (obtain ⟨a, b, c, q⟩ := w; exact ⟨a, b, c, h _ q⟩)
theorem mthD_mono {m : Mt} {x : D} {ds : List D} {Q Q' : KR} (h : ∀ r, Q r → Q' r) (w : mthD m x ds Q) : mthD m x ds Q' := by
  unfold mthD at w ⊢
  split at w <;> first
    | exact w.elim
    | exact ⟨w.1, h _ w.2⟩
    | (obtain ⟨a, b, q⟩ := w; exact ⟨a, b, h _ q⟩)
    | (obtain ⟨a, b, c, q⟩ := w; exact ⟨a, b, c, h _ q⟩)
theorem mutD_mono {m : Mt} {x : D} {ds : List D} {Q Q' : RV → D → Prop} (h : ∀ r d, Q r d → Q' r d) (w : mutD m x ds Q) : mutD m x ds Q' := by
  unfold mutD at w ⊢
  split at w <;> first
    | exact w.elim
    | exact ⟨w.1, h _ _ w.2⟩
    | (obtain ⟨a, b, q⟩ := w; exact ⟨a, b, h _ _ q⟩)
    | (obtain ⟨a, b, c, d, e, f, q⟩ := w; exact ⟨a, b, c, d, e, f, h _ _ q⟩)
theorem callD_mono {c : Ct} {rs : List RV} {en : Ee} {Q Q' : KQ} {X X' : KX} (h : ∀ r e, Q r e → Q' r e) (g : ∀ x f e, X x f e → X' x f e) (w : callD c rs en Q X) : callD c rs en Q' X' := by
  unfold callD at w ⊢
  split at w
  · obtain ⟨i, rs', ds, e1, d, a, b, e, k⟩ := w
    exact ⟨i, rs', ds, e1, d, a, b, e, c.mono _ _ _ _ _ (fun _ _ => h _ _) (fun _ _ _ => g _ _ _) k⟩
  · obtain ⟨ds, e1, a, k⟩ := w
    exact ⟨ds, e1, a, c.mono _ _ _ _ _ (fun _ _ => h _ _) (fun _ _ _ => g _ _ _) k⟩
theorem goL_mono {body : D → Ee → (Option D → Ee → Prop) → Prop} (hb : ∀ d e K K', (∀ o e, K o e → K' o e) → body d e K → body d e K') : ∀ {ds acc : List D} {en : Ee} {K K' : List D → Ee → Prop}, (∀ a e, K a e → K' a e) → goL body ds acc en K → goL body ds acc en K'
  | [], _, _, _, _, h, w => h _ _ w
  | x :: xs, _, _, _, _, h, w => hb _ _ _ _ (fun o e => goL_mono hb h) w
structure Kx.Le (K K' : Kx) : Prop where
  nx : ∀ e, K.nx e → K'.nx e
  rt : ∀ r e, K.rt r e → K'.rt r e
  bk : ∀ e, K.bk e → K'.bk e
  ct : ∀ e, K.ct e → K'.ct e
  xq : ∀ x f e, K.xq x f e → K'.xq x f e
section
variable {C : Cts}
mutual
theorem mE : ∀ (x : Ex) {en : Ee} {Q Q' : KQ} {X X' : KX}, (∀ r e, Q r e → Q' r e) → (∀ x f e, X x f e → X' x f e) → wE C x en Q X → wE C x en Q' X'
  | .var i, en, _, _, _, _, h, g, w => by
    unfold wE at w ⊢
    split at w <;> first | exact h _ _ w | exact w.elim
  | .cst d, _, _, _, _, _, h, g, w => h _ _ w
  | .gl x, _, _, _, _, _, h, g, w => by
    obtain ⟨d, e, q⟩ := w
    exact ⟨d, e, h _ _ q⟩
  | .bty n, _, _, _, _, _, h, g, w => h _ _ w
  | .bin o a b, _, _, _, _, _, h, g, w => mE a (fun r e => mE b (fun s e2 z => by
      obtain ⟨x, y, p, q, z⟩ := z
      exact ⟨x, y, p, q, binD_mono (fun r => h _ _) z⟩) g) g w
  | .neg a, _, _, _, _, _, h, g, w => mE a (fun r e z => by
      obtain ⟨i, p, z⟩ := z
      exact ⟨i, p, h _ _ z⟩) g w
  | .cmp o a b, _, _, _, _, _, h, g, w => mE a (fun r e => mE b (fun s e2 z => by
      obtain ⟨x, y, p, q, z⟩ := z
      exact ⟨x, y, p, q, cmpD_mono (fun r => h _ _) z⟩) g) g w
  | .cmp2 o p a b c, _, _, _, _, _, h, g, w => mE a (fun r e => mE b (fun s e2 z => by
      obtain ⟨x, y, p, q, z⟩ := z
      refine ⟨x, y, p, q, cmpD_mono (fun t u => ⟨fun k => mE c (fun v e3 z => ?_) g (u.1 k), fun k => h _ _ (u.2 k)⟩) z⟩
      obtain ⟨x, y, p, q, z⟩ := z
      exact ⟨x, y, p, q, cmpD_mono (fun r => h _ _) z⟩) g) g w
  | .and a b, _, _, _, _, _, h, g, w => mE a (fun r e z => by
      obtain ⟨k, p, z1, z2⟩ := z
      exact ⟨k, p, fun u => mE b h g (z1 u), fun u => h _ _ (z2 u)⟩) g w
  | .or a b, _, _, _, _, _, h, g, w => mE a (fun r e z => by
      obtain ⟨k, p, z1, z2⟩ := z
      exact ⟨k, p, fun u => mE b h g (z1 u), fun u => h _ _ (z2 u)⟩) g w
  | .not a, _, _, _, _, _, h, g, w => mE a (fun r e z => by
      obtain ⟨k, p, z⟩ := z
      exact ⟨k, p, h _ _ z⟩) g w
  | .ife c a b, _, _, _, _, _, h, g, w => mT c (fun k e z => ⟨fun u => mE a h g (z.1 u), fun u => mE b h g (z.2 u)⟩) g w
  | .idx a i, _, _, _, _, _, h, g, w => mE a (fun r e => mE i (fun s e2 z => by
      obtain ⟨x, y, p, q, z⟩ := z
      exact ⟨x, y, p, q, idxD_mono (fun r => h _ _) z⟩) g) g w
  | .slc a lo hi, _, _, _, _, _, h, g, w => mE a (fun r e => mO lo (fun l e2 => mO hi (fun u e3 z => by
      obtain ⟨x, p, z⟩ := z
      exact ⟨x, p, slcD_mono (fun r => h _ _) z⟩) g) g) g w
  | .tup es, _, _, _, _, _, h, g, w => mEs es (fun ds e z => ⟨z.1, h _ _ z.2⟩) g w
  | .lst es, _, _, _, _, _, h, g, w => mEs es (fun ds e z => ⟨z.1, h _ _ z.2⟩) g w
  | .dct ps, _, _, _, _, _, h, g, w => mP ps (fun ds e z => ⟨z.1, z.2.1, h _ _ z.2.2⟩) g w
  | .lc x i s c, _, _, _, _, _, h, g, w => mS s (fun r ds e z => ⟨z.1, goL_mono (fun d e K K' hk w => by
      obtain ⟨old, p, q, w⟩ := w
      refine ⟨old, p, q, mC c (fun k e2 z => ⟨fun u => mE x (fun t e3 z => ?_) (fun _ _ _ z => z) (z.1 u), fun u => ⟨(z.2 u).1, hk _ _ (z.2 u).2⟩⟩) (fun _ _ _ z => z) w⟩
      obtain ⟨x, e4, a, b, z⟩ := z
      exact ⟨x, e4, a, b, hk _ _ z⟩) (fun a e => h _ _) z.2⟩) g w
  | .call f es, _, _, _, _, _, h, g, w => by
    obtain ⟨c, p, w⟩ := w
    exact ⟨c, p, mRs es (fun rs e z => callD_mono h g z) g w⟩
  | .callk f es ks kes fl, _, _, _, _, _, h, g, w => by
    obtain ⟨c, p, w⟩ := w
    refine ⟨c, p, mRs es (fun rs e => mRs kes (fun zs e2 z => ?_) g) g w⟩
    obtain ⟨l, dz, a, b, z⟩ := z
    exact ⟨l, dz, a, b, fillW_mono (fun _ => callD_mono h g) z⟩
  | .blt f es, _, _, _, _, _, h, g, w => mRs es (fun rs e z => by
      obtain ⟨ds, p, z⟩ := z
      exact ⟨ds, p, bltD_mono (fun r => h _ _) z⟩) g w
  | .bty1 f es, _, _, _, _, _, h, g, w => mRs es (fun rs e z => by
      obtain ⟨ds, p, z⟩ := z
      exact ⟨ds, p, btyD_mono (fun r => h _ _) z⟩) g w
  | .fld a n, _, _, _, _, _, h, g, w => mE a (fun r e z => by
      obtain ⟨c, fs, d, ns, p, q, t, u, z⟩ := z
      exact ⟨c, fs, d, ns, p, q, t, u, h _ _ z⟩) g w
  | .isx a cs tup, _, _, _, _, _, h, g, w => mE a (fun r e z => by
      obtain ⟨c, fs, b, ns, p, q, t, u, z⟩ := z
      exact ⟨c, fs, b, ns, p, q, t, u, h _ _ z⟩) g w
  | .mkx c es ks kes fl, _, _, _, _, _, h, g, w => ⟨w.1, mEs es (fun ds e => mEs kes (fun dz e2 z => by
      obtain ⟨a, b, c, z⟩ := z
      refine ⟨a, b, c, fillW_mono (fun dd z => ?_) z⟩
      obtain ⟨ns, p, q, z⟩ := z
      exact ⟨ns, p, q, h _ _ z⟩) g) g w.2⟩
  | .lcU x is s c, _, _, _, _, _, h, g, w => mS s (fun r ds e z => ⟨z.1, z.2.1, goL_mono (fun d e K K' hk w => by
      obtain ⟨olds, xs, p, q, l, w⟩ := w
      refine ⟨olds, xs, p, q, l, mC c (fun k e2 z => ⟨fun u => mE x (fun t e3 z => ?_) (fun _ _ _ z => z) (z.1 u), fun u => ⟨(z.2 u).1, hk _ _ (z.2 u).2⟩⟩) (fun _ _ _ z => z) w⟩
      obtain ⟨x, e4, a, b, z⟩ := z
      exact ⟨x, e4, a, b, hk _ _ z⟩) (fun a e => h _ _) z.2.2⟩) g w
  | .mut o m es, _, _, _, _, _, h, g, w => mE o (fun r e z => by
      obtain ⟨i, d1, p, q, t, z⟩ := z
      refine ⟨i, d1, p, q, t, mEs es (fun ds e2 z => ?_) g z⟩
      obtain ⟨d, p, z⟩ := z
      exact ⟨d, p, mutD_mono (fun r d => h _ _) z⟩) g w
  | .mth o m es, _, _, _, _, _, h, g, w => mE o (fun r e z => by
      obtain ⟨x1, p, t, z⟩ := z
      refine ⟨x1, p, t, mRs es (fun ds e2 z => ?_) g z⟩
      obtain ⟨x, ds, p, q, z⟩ := z
      exact ⟨x, ds, p, q, mthD_mono (fun r => h _ _) z⟩) g w
theorem mT : ∀ (x : Te) {en : Ee} {Q Q' : Bool → Ee → Prop} {X X' : KX}, (∀ r e, Q r e → Q' r e) → (∀ x f e, X x f e → X' x f e) → wT C x en Q X → wT C x en Q' X'
  | .val a, _, _, _, _, _, h, g, w => mE a (fun r e z => by
      obtain ⟨x, p, z⟩ := z
      exact ⟨x, p, truD_mono (fun r => h _ _) z⟩) g w
  | .and a b, _, _, _, _, _, h, g, w => mT a (fun k e z => ⟨fun u => mT b h g (z.1 u), fun u => h _ _ (z.2 u)⟩) g w
  | .or a b, _, _, _, _, _, h, g, w => mT a (fun k e z => ⟨fun u => mT b h g (z.1 u), fun u => h _ _ (z.2 u)⟩) g w
  | .not a, _, _, _, _, _, h, g, w => mT a (fun k e z => h _ _ z) g w
theorem mEs : ∀ (x : Es) {en : Ee} {Q Q' : List D → Ee → Prop} {X X' : KX}, (∀ r e, Q r e → Q' r e) → (∀ x f e, X x f e → X' x f e) → wEs C x en Q X → wEs C x en Q' X'
  | .nil, _, _, _, _, _, h, g, w => h _ _ w
  | .cons a r, _, _, _, _, _, h, g, w => mE a (fun r1 e z => by
      obtain ⟨d, e2, p, z⟩ := z
      exact ⟨d, e2, p, mEs r (fun ds e3 => h _ _) g z⟩) g w
theorem mP : ∀ (x : Ps) {en : Ee} {Q Q' : List (Key × D) → Ee → Prop} {X X' : KX}, (∀ r e, Q r e → Q' r e) → (∀ x f e, X x f e → X' x f e) → wP C x en Q X → wP C x en Q' X'
  | .nil, _, _, _, _, _, h, g, w => h _ _ w
  | .cons k a r, _, _, _, _, _, h, g, w => mE a (fun r1 e z => by
      obtain ⟨d, e2, p, z⟩ := z
      exact ⟨d, e2, p, mP r (fun ds e3 => h _ _) g z⟩) g w
theorem mRs : ∀ (x : Es) {en : Ee} {Q Q' : List RV → Ee → Prop} {X X' : KX}, (∀ r e, Q r e → Q' r e) → (∀ x f e, X x f e → X' x f e) → wRs C x en Q X → wRs C x en Q' X'
  | .nil, _, _, _, _, _, h, g, w => h _ _ w
  | .cons a r, _, _, _, _, _, h, g, w => mE a (fun r1 e => mRs r (fun ds e3 => h _ _) g) g w
theorem mO : ∀ (x : Oe) {en : Ee} {Q Q' : Option Int → Ee → Prop} {X X' : KX}, (∀ r e, Q r e → Q' r e) → (∀ x f e, X x f e → X' x f e) → wO C x en Q X → wO C x en Q' X'
  | .no, _, _, _, _, _, h, g, w => h _ _ w
  | .ex a, _, _, _, _, _, h, g, w => mE a (fun r e z => by
      obtain ⟨i, p, z⟩ := z
      exact ⟨i, p, h _ _ z⟩) g w
theorem mC : ∀ (x : Ot) {en : Ee} {Q Q' : Bool → Ee → Prop} {X X' : KX}, (∀ r e, Q r e → Q' r e) → (∀ x f e, X x f e → X' x f e) → wC C x en Q X → wC C x en Q' X'
  | .no, _, _, _, _, _, h, g, w => h _ _ w
  | .ex a, _, _, _, _, _, h, g, w => mT a h g w
theorem mS : ∀ (x : Sr) {en : Ee} {Q Q' : RV → List D → Ee → Prop} {X X' : KX}, (∀ r d e, Q r d e → Q' r d e) → (∀ x f e, X x f e → X' x f e) → wS C x en Q X → wS C x en Q' X'
  | .seq a, _, _, _, _, _, h, g, w => mE a (fun r e z => by
      obtain ⟨x, ds, p, q, z⟩ := z
      exact ⟨x, ds, p, q, h _ _ _ z⟩) g w
  | .enu a, _, _, _, _, _, h, g, w => mE a (fun r e z => by
      obtain ⟨ds, p, q, z⟩ := z
      exact ⟨ds, p, q, h _ _ _ z⟩) g w
  | .rng a, _, _, _, _, _, h, g, w => mE a (fun r e z => by
      obtain ⟨j, p, q, t, z⟩ := z
      exact ⟨j, p, q, t, h _ _ _ z⟩) g w
  | .rng2 a b, _, _, _, _, _, h, g, w => mE a (fun r e => mE b (fun s e2 z => by
      obtain ⟨i, j, p, q, t, z⟩ := z
      exact ⟨i, j, p, q, t, h _ _ _ z⟩) g) g w
end
theorem goF_mono {body : D → Ee → Kx → Prop} (hb : ∀ d e K K', Kx.Le K K' → body d e K → body d e K') : ∀ {ds : List D} {en : Ee} {K K' : Kx}, Kx.Le K K' → goF body ds en K → goF body ds en K'
  | [], _, _, _, h, w => h.nx _ w
  | x :: xs, _, K, K', h, w => hb _ _ { K with nx := fun e => goF body xs e K, ct := fun e => goF body xs e K, bk := K.nx } { K' with nx := fun e => goF body xs e K', ct := fun e => goF body xs e K', bk := K'.nx }
    ⟨fun e => goF_mono hb h, h.rt, h.nx, fun e => goF_mono hb h, h.xq⟩ w
theorem suW_mono {su : Su} {fl : List Str} {n : Nat} {x : Str} {fs : List (Str × D)} {en : Ee} {Q Q' : Ee → Prop} (h : ∀ e, Q e → Q' e) (w : suW su fl n x fs en Q) : suW su fl n x fs en Q' := by
  obtain ⟨w0, w⟩ := w
  refine ⟨w0, ?_⟩
  cases su with
  | keep j =>
    obtain ⟨a, e2, b, q⟩ := w
    exact ⟨a, e2, b, h _ q⟩
  | app j ns tup =>
    obtain ⟨a, xs, ds, b, c, d, e, f, q⟩ := w
    refine ⟨a, xs, ds, b, c, d, e, f, ?_⟩
    cases tup with
    | true => exact h _ q
    | false =>
      obtain ⟨d, e, q⟩ := q
      exact ⟨d, e, h _ q⟩
mutual
theorem mM : ∀ (x : Sm) {en : Ee} {K K' : Kx}, Kx.Le K K' → wM C x en K → wM C x en K'
  | .set i own e, _, _, _, h, w => mE e (fun r e1 z => by
      obtain ⟨e2, p, z⟩ := z
      exact ⟨e2, p, h.nx _ z⟩) h.xq w
  | .par i j o1 o2 a b, _, _, _, h, w => mE a (fun r e1 => mE b (fun s e2 z => by
      obtain ⟨p, q, e3, e4, a, b, z⟩ := z
      exact ⟨p, q, e3, e4, a, b, h.nx _ z⟩) h.xq) h.xq w
  | .unp is e, _, _, _, h, w => mE e (fun r e1 z => by
      obtain ⟨ds, e2, p, q, z⟩ := z
      exact ⟨ds, e2, p, q, h.nx _ z⟩) h.xq w
  | .put d k e, _, _, _, h, w => mE e (fun r e1 z => by
      obtain ⟨x, e2, p, z⟩ := z
      refine ⟨x, e2, p, mE d (fun s e3 z => ?_) h.xq z⟩
      obtain ⟨i, p, z⟩ := z
      refine ⟨i, p, mE k (fun u e4 z => ?_) h.xq z⟩
      obtain ⟨c, y, p, q, z⟩ := z
      refine ⟨c, y, p, q, ?_⟩
      unfold putO at z ⊢
      split at z
      · obtain ⟨q, a, b, z⟩ := z
        exact ⟨q, a, b, h.nx _ z⟩
      · exact z.elim) h.xq w
  | .exp e, _, _, _, h, w => mE e (fun _ e1 z => h.nx _ z) h.xq w
  | .ret e, _, _, _, h, w => mE e (fun r e1 z => h.rt _ _ z) h.xq w
  | .retN, _, _, _, h, w => h.rt _ _ w
  | .ife c a b, _, _, _, h, w => mT c (fun k e z => ⟨fun u => mMs a h (z.1 u), fun u => mMs b h (z.2 u)⟩) h.xq w
  | .for_ i s b, _, _, _, h, w => mS s (fun r ds e z => by
      obtain ⟨x, e1, p, z⟩ := z
      refine ⟨x, e1, p, goF_mono (fun d e K K' hk w => ?_) h z⟩
      obtain ⟨e1, p, w⟩ := w
      exact ⟨e1, p, mMs b hk w⟩) h.xq w
  | .forU is s b, _, _, _, h, w => mS s (fun r ds e z => by
      obtain ⟨x, e1, p, z⟩ := z
      refine ⟨x, e1, p, goF_mono (fun d e K K' hk w => ?_) h z⟩
      obtain ⟨xs, e1, p, q, w⟩ := w
      exact ⟨xs, e1, p, q, mMs b hk w⟩) h.xq w
  | .rai c es, _, _, _, h, w => ⟨w.1, mEs es (fun ds e z => by
      obtain ⟨ns, p, q, l, t, z⟩ := z
      exact ⟨ns, p, q, l, t, h.xq _ _ _ z⟩) h.xq w.2⟩
  | .trk n cs tup su b, _, K, K', h, w => mMs b
      (K := { K with xq := fun x fs e1 => ∃ k ns, C.xk x = some ns ∧ subs C x (cs.map .own) = some k ∧ (k = true → suW su ns n x fs e1 K.nx) ∧ (k = false → K.xq x fs e1) })
      (K' := { K' with xq := fun x fs e1 => ∃ k ns, C.xk x = some ns ∧ subs C x (cs.map .own) = some k ∧ (k = true → suW su ns n x fs e1 K'.nx) ∧ (k = false → K'.xq x fs e1) })
      ⟨h.nx, h.rt, h.bk, h.ct, fun x f e ⟨k, ns, p, q, z1, z2⟩ => ⟨k, ns, p, q, fun u => suW_mono h.nx (z1 u), fun u => h.xq _ _ _ (z2 u)⟩⟩ w
  | .whl c b, _, K, K', h, w => by
    obtain ⟨I, h0, w⟩ := w
    exact ⟨I, h0, fun m e i => mT c (fun k e1 z => ⟨fun u => mMs b (K := { K with nx := fun e2 => ∃ m', m' < m ∧ I m' e2, ct := fun e2 => ∃ m', m' < m ∧ I m' e2, bk := K.nx }) (K' := { K' with nx := fun e2 => ∃ m', m' < m ∧ I m' e2, ct := fun e2 => ∃ m', m' < m ∧ I m' e2, bk := K'.nx })
      ⟨fun _ z => z, h.rt, h.nx, fun _ z => z, h.xq⟩ (z.1 u), fun u => h.nx _ (z.2 u)⟩) h.xq (w m e i)⟩
  | .pas, _, _, _, h, w => h.nx _ w
  | .brk, _, _, _, h, w => h.bk _ w
  | .cnt, _, _, _, h, w => h.ct _ w
theorem mMs : ∀ (x : List Sm) {en : Ee} {K K' : Kx}, Kx.Le K K' → wMs C x en K → wMs C x en K'
  | [], _, _, _, h, w => h.nx _ w
  | s :: r, _, K, K', h, w => mM s (K := { K with nx := fun e => wMs C r e K }) (K' := { K' with nx := fun e => wMs C r e K' }) ⟨fun e => mMs r h, h.rt, h.bk, h.ct, h.xq⟩ w
end
end
/-- a for: I by the turn -/
theorem goF_inv {C : Cts} {i : Nat} {b : List Sm} {K : Kx} (ds : List D) (I : Nat → Ee → Prop) : ∀ {en : Ee}, I 0 en →
    (∀ k d e, ds[k]? = some d → I k e → ∃ e1, setV e i d = some e1 ∧ wMs C b e1 { K with nx := I (k + 1), ct := I (k + 1), bk := K.nx }) → (∀ e, I ds.length e → K.nx e) →
    goF (fun d en K' => ∃ e1, setV en i d = some e1 ∧ wMs C b e1 K') ds en K := by
  induction ds generalizing I with
  | nil => intro en h0 _ hd; exact hd _ h0
  | cons x xs ih =>
    intro en h0 hs hd
    obtain ⟨e1, h1, w⟩ := hs 0 x en rfl h0
    have step : ∀ e, I (0 + 1) e → goF (fun d en K' => ∃ e1, setV en i d = some e1 ∧ wMs C b e1 K') xs e K := fun e q => ih (fun k => I (k + 1)) q (fun k d e hk => hs (k + 1) d e hk) hd
    exact ⟨e1, h1, mMs b (K := { K with nx := I (0 + 1), ct := I (0 + 1), bk := K.nx }) (K' := { K with nx := fun e => goF _ xs e K, ct := fun e => goF _ xs e K, bk := K.nx }) ⟨step, fun _ _ q => q, fun _ q => q, step, fun _ _ _ q => q⟩ w⟩
/-- a comprehension: I by the turn -/
theorem goL_inv {body : D → Ee → (Option D → Ee → Prop) → Prop} (hb : ∀ d e K K', (∀ o e, K o e → K' o e) → body d e K → body d e K') {K : List D → Ee → Prop} (ds : List D) (I : Nat → List D → Ee → Prop) : ∀ {acc : List D} {en : Ee}, I 0 acc en →
    (∀ k d acc e, ds[k]? = some d → I k acc e → body d e fun o e => I (k + 1) (match o with | some d => acc ++ [d] | none => acc) e) → (∀ acc e, I ds.length acc e → K acc e) → goL body ds acc en K := by
  induction ds generalizing I with
  | nil => intro acc en h0 _ hd; exact hd _ _ h0
  | cons x xs ih =>
    intro acc en h0 hs hd
    exact hb _ _ _ _ (fun o e q => ih (fun k => I (k + 1)) q (fun k d acc e hk => hs (k + 1) d acc e hk) hd) (hs 0 x acc en rfl h0)
end Vg

set_option Elab.async false
set_option linter.all false
set_option maxRecDepth 100000
namespace Vg
open PySem PySem.Spec PyProof.Rows L2
def seek {α : Type} : List (Str × α) → Str → Option α
  | [], _ => none
  | (y, c) :: r, x => if x = y then some c else seek r x
theorem seek_mem {α : Type} {l : List (Str × α)} {x : Str} {c : α} (h : seek l x = some c) : (x, c) ∈ l := by
  induction l with
  | nil => cases h
  | cons q l ih =>
    obtain ⟨y, d⟩ := q
    unfold seek at h
    split at h
    · rename_i e
      cases h
      rw [e]
      exact List.mem_cons_self ..
    · exact List.mem_cons_of_mem _ (ih h)
abbrev Kwf := Str × Nat × List Str × List (Nat ⊕ Str)
def mkBi (bs ps : List Str) (ks : List Kwf) (oc : List Str := []) (xc : List Kwf := []) : Bi := ⟨fun x => decide (x ∈ bs), fun x => decide (x ∈ ps), fun f n k fl => ks.any fun q => decide (q = (f, n, k, fl)), fun x => decide (x ∈ oc), fun f n k fl => xc.any fun q => decide (q = (f, n, k, fl))⟩
abbrev Gts := List (Str × D × V)
def gtOf (g : Gts) : Str → Option D := fun x => (seek g x).map (·.1)
def gvOf (g : Gts) : Str → V := fun x => ((seek g x).map (·.2)).getD .non
/-- a def as it stands behind the top, with its ways of being called -/
structure Df (K : PySem.W.Frag) (mg : Str → Option Value) (bi : Bi) (gv : Str → V) (x : Str) (f : Addr) (fd : FuncData) (ps : List Str) : Prop where
  mg : mg x = some (.ref f)
  kp : PySem.W.keepIn K (.ref f) = true
  bd : bi.ps x = true → Binds K fd ps []
  kw : ∀ n ks fl, bi.kw x n ks fl = true → ∃ g gV, KBn K fd ps n ks g gV ∧ ∀ vs zs, vs.length = n → zs.length = ks.length → gV vs zs = vs ++ fillV gv fl zs
/-- a constant of the module, or a default -/
structure GtOk (K : PySem.W.Frag) (mg : Str → Option Value) (e : Str × D × V) : Prop where
  rp : ∀ F, Rp K F e.2.2 e.2.1
  gl : dotted e.1 = false → ∃ u, mg e.1 = some u ∧ RelV e.2.2 u
section
variable {P : Program} {w : World} {K : PySem.W.Frag} {mg : Str → Option Value} {base : Heap} {k : Nat} {cl : Str → Option Addr} {bs pn oc : List Str} {ks xc : List Kwf} {g : Gts} {L : List (Str × Ct)}
theorem Glo.nil {xk : Str → Option (List Str)} {sub : Str → Cn → Option Bool} (hg : ∀ e ∈ g, GtOk K mg e) (hb : ∀ x ∈ bs, mg x = none) (xg : XG K mg ⟨seek [], gtOf g, xk, sub⟩ (gvOf g) cl (mkBi bs pn ks oc xc)) : Glo P w K mg base k ⟨seek [], gtOf g, xk, sub⟩ (gvOf g) cl (mkBi bs pn ks oc xc) where
  xg := xg
  gl := fun x d h hd => by
    obtain ⟨e, h1, h2⟩ := Option.map_eq_some_iff.mp h
    subst h2
    obtain ⟨u, hu, r⟩ := (hg _ (seek_mem h1)).gl hd
    refine ⟨u, hu, ?_⟩
    show RelV (((seek g x).map (·.2)).getD .non) u
    rw [h1]
    exact r
  kw := fun _ _ _ _ _ h => by cases h
  gv := fun x d h F => by
    obtain ⟨e, h1, h2⟩ := Option.map_eq_some_iff.mp h
    subst h2
    show Rp K F (((seek g x).map (·.2)).getD .non) e.1
    rw [h1]
    exact (hg _ (seek_mem h1)).rp F
  bz := fun x h => hb x (of_decide_eq_true h)
  fn := fun _ _ h => by cases h
theorem Glo.add {xk : Str → Option (List Str)} {sub : Str → Cn → Option Bool} {x : Str} {c : Ct} {f : Addr} {fd : FuncData} {ps : List Str} {bi : Bi} {gv : Str → V} {gt : Str → Option D} (G : Glo P w K mg base k ⟨seek L, gt, xk, sub⟩ gv cl bi) (d : Df K mg bi gv x f fd ps) (F : FnG P w K mg base (k + 1) f fd ps (spOf K cl c)) :
    Glo P w K mg base (k + 1) ⟨seek ((x, c) :: L), gt, xk, sub⟩ gv cl bi where
  gl := G.gl
  gv := G.gv
  bz := G.bz
  xg := ⟨fun W => ⟨(G.xg.ok W).xk, (G.xg.ok W).sub, (G.xg.ok W).exm⟩, G.xg.oc, G.xg.xc⟩
  kw := fun y c' n ks fl h hk => by
    unfold seek at h
    split at h
    · rename_i e
      cases h
      subst e
      obtain ⟨a, b, k1, k2⟩ := d.kw n ks fl hk
      exact ⟨f, fd, ps, a, b, d.mg, d.kp, k1, k2, F⟩
    · obtain ⟨fa, fd, ps, a, b, h1, h2, h3, h4, h5⟩ := G.kw y c' n ks fl h hk
      exact ⟨fa, fd, ps, a, b, h1, h2, h3, h4, h5.mono (Nat.le_succ k)⟩
  fn := fun y c' h hk => by
    unfold seek at h
    split at h
    · rename_i e
      cases h
      subst e
      exact ⟨f, fd, ps, d.mg, d.kp, d.bd hk, F⟩
    · obtain ⟨fa, fd, ps, h1, h2, h3, h4⟩ := G.fn y c' h hk
      exact ⟨fa, fd, ps, h1, h2, h3, h4.mono (Nat.le_succ k)⟩
/-- which of the keywords' and of the lacking ones' values stand behind the written ones -/
def sel {α : Type} (ix : List (Nat ⊕ Nat)) (mv ws : List α) : List α := ix.flatMap fun o => match o with
  | .inl j => (ws.drop j).take 1
  | .inr i => (mv.drop i).take 1
theorem sel_vals {mz zs : List V} {mv ws : List Value} (a : Vals mz mv) (b : Vals zs ws) : ∀ ix : List (Nat ⊕ Nat), Vals (sel ix mz zs) (sel ix mv ws)
  | [] => .nil
  | .inl j :: r => ((b.drop j).take 1).append (sel_vals a b r)
  | .inr i :: r => ((a.drop i).take 1).append (sel_vals a b r)
/-- a form of calls by keywords -/
theorem kb_of {gv : Str → V} {x qual : Str} {params : Arguments} {body : List Stmt} {scope : Scope} {kws : List (Str × V)} {f : Addr} {fd : FuncData} {ps : List Str} (F : FunD K x qual params body scope [] kws f fd) (n : Nat) (ks : List Str) (fl : List (Nat ⊕ Str)) (ms : List (Str × V)) (ix : List (Nat ⊕ Nat)) (hk : kws ≠ []) (hms : ∀ q ∈ ms, q ∈ kws)
    (h : ∀ (D : Addr) (doc pm : Value) (an : Option Addr) (cdv ct : Value) (us mv ws : List Value), us.length = n → mv.length = ms.length → ws.length = ks.length →
      KwChain D ((ms.map (·.1)).zip mv) (bindArgs (PySem.W.fnOf x qual params body scope .none (.ref D) doc pm an cdv ct) ⟨us, ks.zip ws⟩) (ps.zip (us ++ sel ix mv ws)))
    (hv : ∀ zs : List V, zs.length = ks.length → sel ix (ms.map (·.2)) zs = fillV gv fl zs) :
    ∃ g gV, KBn K fd ps n ks g gV ∧ ∀ vs zs, vs.length = n → zs.length = ks.length → gV vs zs = vs ++ fillV gv fl zs := by
  obtain ⟨mv, hb⟩ := F.kbinds0 (ps := ps) n ks ms (fun us mv ws => us ++ sel ix mv ws) hk hms (fun a b c => a.append (sel_vals b c ix)) h
  exact ⟨_, _, hb, fun vs zs _ l => by rw [hv zs l]⟩
end
section
variable {K : PySem.W.Frag} {mg : Str → Option Value} {h : Heap} {x qual : Str} {st : Stmt} {f D : Addr} {oc : Value} {od an : Option Addr} {osl : Array (Option Value)} {doc pm cdv ct kV : Value} {kws : List (Str × V)}
/-- a def with no defaults -/
theorem df0 (l : K.lookup f = some ⟨oc, od, .func (PySem.W.fnOf x qual (defArgs st) (defBody st) (defScope st) .none kV doc pm an cdv ct), osl⟩) (c : PySem.W.codeIn K cdv qual = true) (k : PySem.W.keepIn K (.ref f) = true) :
    FunD K x qual (defArgs st) (defBody st) (defScope st) [] [] f (PySem.W.fnOf x qual (defArgs st) (defBody st) (defScope st) .none kV doc pm an cdv ct) :=
  ⟨⟨oc, od, .none, kV, doc, pm, an, cdv, ct, osl, rfl, l, c, .inl ⟨rfl, rfl⟩, .inl rfl⟩, k⟩
/-- a def with defaults by keyword only -/
theorem dfk (kws : List (Str × V)) (l : K.lookup f = some ⟨oc, od, .func (PySem.W.fnOf x qual (defArgs st) (defBody st) (defScope st) .none (.ref D) doc pm an cdv ct), osl⟩) (c : PySem.W.codeIn K cdv qual = true) (k : PySem.W.keepIn K (.ref f) = true)
    (q : ∀ q ∈ kws, ∃ u, PySem.W.nsIn K D q.1 = some (some u) ∧ RelV q.2 u) :
    FunD K x qual (defArgs st) (defBody st) (defScope st) [] kws f (PySem.W.fnOf x qual (defArgs st) (defBody st) (defScope st) .none (.ref D) doc pm an cdv ct) :=
  ⟨⟨oc, od, .none, .ref D, doc, pm, an, cdv, ct, osl, rfl, l, c, .inl ⟨rfl, rfl⟩, .inr ⟨D, rfl, q⟩⟩, k⟩
theorem df_of {bi : Bi} {gv : Str → V} {fd : FuncData} {ps : List Str} (X : K.In h) (G : h.Ns mainGlobals mg) (a : PySem.W.nsIn K mainGlobals x = some (some (.ref f))) (k : PySem.W.keepIn K (.ref f) = true) (bd : bi.ps x = true → Binds K fd ps [])
    (kw : ∀ n ks fl, bi.kw x n ks fl = true → ∃ g gV, KBn K fd ps n ks g gV ∧ ∀ vs zs, vs.length = n → zs.length = ks.length → gV vs zs = vs ++ fillV gv fl zs) : Df K mg bi gv x f fd ps :=
  ⟨PySem.W.mg_of X G a, k, bd, kw⟩
theorem kw_none {bi : Bi} {gv : Str → V} {fd : FuncData} {ps : List Str} (h : ∀ n ks fl, bi.kw x n ks fl = false) : ∀ n ks fl, bi.kw x n ks fl = true → ∃ g gV, KBn K fd ps n ks g gV ∧ ∀ vs zs, vs.length = n → zs.length = ks.length → gV vs zs = vs ++ fillV gv fl zs := fun n ks fl e => by
  rw [h] at e
  cases e
theorem kw_none_of {bs pn oc : List Str} {ks xc : List Kwf} (h : (ks.all fun q => !decide (q.1 = x)) = true) : ∀ n k fl, (mkBi bs pn ks oc xc).kw x n k fl = false := fun n k fl => by
  show (ks.any fun q => decide (q = (x, n, k, fl))) = false
  rw [List.any_eq_false]
  intro q hq e
  have := List.all_eq_true.mp h q hq
  rw [of_decide_eq_true e] at this
  simp at this
theorem kw_all_of {bs pn oc : List Str} {ks xc : List Kwf} {gv : Str → V} {fd : FuncData} {ps : List Str} (h : ∀ q ∈ ks, q.1 = x → ∃ g gV, KBn K fd ps q.2.1 q.2.2.1 g gV ∧ ∀ vs zs, vs.length = q.2.1 → zs.length = q.2.2.1.length → gV vs zs = vs ++ fillV gv q.2.2.2 zs) :
    ∀ n k fl, (mkBi bs pn ks oc xc).kw x n k fl = true → ∃ g gV, KBn K fd ps n k g gV ∧ ∀ vs zs, vs.length = n → zs.length = k.length → gV vs zs = vs ++ fillV gv fl zs := fun n k fl e => by
  have e : (ks.any fun q => decide (q = (x, n, k, fl))) = true := e
  obtain ⟨q, hq, e⟩ := List.any_eq_true.mp e
  have e := of_decide_eq_true e
  subst e
  exact h _ hq rfl
end
end Vg

set_option Elab.async false
set_option linter.all false
set_option maxRecDepth 100000
namespace Vg
open PySem L2
/-- a slot that holds nothing of one's own -/
abbrev uv (x : Vg.Slot) : Prop := x = .un ∨ ∃ z, x = .val z
theorem uv_elim {P : Vg.Slot → Prop} {x : Vg.Slot} (h : uv x) (h1 : P .un) (h2 : ∀ z, P (.val z)) : P x := by
  rcases h with rfl | ⟨z, rfl⟩
  · exact h1
  · exact h2 z
/-- the answer x, and d' what the first argument then holds, are as promised -/
def Ans {α β : Type} (post : α → β → Prop) (res : α → β → D × D) (a : α) (x d' : D) : Prop := ∃ b, post a b ∧ res a b = (x, d')
/-- args: the arguments' data by ghosts a; pre: what is asked of a; the answers by b, with post; res: the answer and what the first argument then holds -/
def ct (io fr : Bool) {α β : Type} (args : α → List D) (pre : α → Prop) (post : α → β → Prop) (res : α → β → D × D) : Ct where
  io := io
  fr := fr
  wp := fun ds Q _ => ∃ a, ds = args a ∧ pre a ∧ ∀ b, post a b → Q (res a b).1 (res a b).2
  mono := fun ds Q Q' X X' hq _ ⟨a, e, p, k⟩ => ⟨a, e, p, fun b h => hq _ _ (k b h)⟩
/-- what the body is to reach, for ghosts a -/
abbrev kCt (io fr : Bool) {α β : Type} (post : α → β → Prop) (res : α → β → D × D) (a : α) : Kx where
  nx := fun en => ∃ d', ioD io en = some d' ∧ Ans post res a .non d'
  rt := fun r en => ∃ x d', retD fr r en = some x ∧ ioD io en = some d' ∧ Ans post res a x d'
  bk := fun _ => False
  ct := fun _ => False
  xq := fun _ _ _ => False
theorem ct_ok {C : Cts} {io fr : Bool} {α β : Type} {args : α → List D} {pre : α → Prop} {post : α → β → Prop} {res : α → β → D × D} {n np : Nat} {b : List Sm} (h1 : ∀ a, (args a).length = np) (h2 : ∀ a, pre a → wMs C b (en0 io n (args a)) (kCt io fr post res a)) :
    BodyOk C (ct io fr args pre post res) n np b := by
  refine ⟨?_, ?_⟩
  · rintro ds Q X ⟨a, rfl, _, _⟩
    exact h1 a
  · rintro ds Q X ⟨a, rfl, p, k⟩
    refine mMs b ⟨?_, ?_, fun _ z => False.elim z, fun _ z => False.elim z, fun _ _ _ z => False.elim z⟩ (h2 a p)
    · rintro e ⟨d', e1, b, q, r⟩
      refine ⟨d', e1, ?_⟩
      have := k b q
      rw [r] at this
      exact this
    · rintro r e ⟨x, d', e1, e2, b, q, r⟩
      refine ⟨x, d', e1, e2, ?_⟩
      have := k b q
      rw [r] at this
      exact this
/-- a call that changes nothing -/
theorem call0 {fr : Bool} {α β : Type} {args : α → List D} {pre : α → Prop} {post : α → β → Prop} {res : α → β → D × D} {rs : List RV} {ds : List D} {en e1 : Ee} {Q : KQ} {X : KX} (a : α) (g : gives rs en = some (ds, e1)) (e : ds = args a) (p : pre a) (k : ∀ b, post a b → Q (if fr && isMut (res a b).1 then .f (res a b).1 else .v (res a b).1) e1) : callD (ct false fr args pre post res) rs en Q X := by
  unfold callD
  exact ⟨ds, e1, g, a, e, p, k⟩
/-- a call that changes its first argument -/
theorem call1 {fr : Bool} {α β : Type} {args : α → List D} {pre : α → Prop} {post : α → β → Prop} {res : α → β → D × D} {i : Nat} {rs : List RV} {d : D} {ds : List D} {en e1 : Ee} {Q : KQ} {X : KX} (a : α) (g : gives rs en = some (ds, e1)) (o : ownD e1 i = some d) (e : d :: ds = args a) (p : pre a) (k : ∀ b, post a b → Q (if fr && isMut (res a b).1 then .f (res a b).1 else .v (res a b).1) (reOwn e1 i (res a b).2)) : callD (ct true fr args pre post res) (.o i :: rs) en Q X := by
  unfold callD
  exact ⟨i, rs, ds, e1, d, rfl, g, o, a, e, p, k⟩
theorem nt {b : Bool} (h : (!b) = true) : b = false := by cases b <;> first | rfl | cases h
theorem nf {b : Bool} (h : (!b) = false) : b = true := by cases b <;> first | rfl | cases h
theorem setV_at {en : Ee} {i : Nat} {x : Vg.Slot} {d : D} (h : en[i]? = some x) (u : uv x) : setV en i d = some (en.set i (.val d)) := by
  unfold setV
  rw [h]
  rcases u with rfl | ⟨z, rfl⟩ <;> rfl
theorem asgV_at {o : Bool} {en : Ee} {i : Nat} {x : Vg.Slot} {d : D} (h : en[i]? = some x) (u : uv x) : asgS o (.v d) i en = some (en.set i (.val d)) := by
  cases o <;> exact setV_at h u
theorem asgF_at {en : Ee} {i : Nat} {x : Vg.Slot} {d : D} (h : en[i]? = some x) (u : uv x) : asgS false (.f d) i en = some (en.set i (.val d)) := setV_at h u
theorem asgT_at {en : Ee} {i : Nat} {x : Vg.Slot} {d : D} (h : en[i]? = some x) (u : uv x) : asgS true (.f d) i en = some (en.set i (.own d)) := by
  unfold asgS
  simp only [h]
  rcases u with rfl | ⟨z, rfl⟩ <;> rfl
theorem shown2 (a b : Bool) : (PyData.shown (.list [.bool a, .bool b])).length ≤ sizeLine := by
  have : ∀ a b : Bool, (PyData.shown (.list [.bool a, .bool b])).length ≤ 100 := by decide +kernel
  exact Nat.le_trans (this a b) (by unfold sizeLine; decide)
theorem shown4 (a b c d : Bool) : (PyData.shown (.list [.bool a, .bool b, .bool c, .bool d])).length ≤ sizeLine := by
  have : ∀ a b c d : Bool, (PyData.shown (.list [.bool a, .bool b, .bool c, .bool d])).length ≤ 100 := by decide +kernel
  exact Nat.le_trans (this a b c d) (by unfold sizeLine; decide)
end Vg

set_option Elab.async false
set_option linter.all false
set_option maxRecDepth 100000
namespace Vg
open PySem L2 TL
/-- a comprehension that changes nothing -/
theorem goL_fm {body : D → Ee → (Option D → Ee → Prop) → Prop} {en : Ee} {K : List D → Ee → Prop} (f : D → Option D) : ∀ {ds acc : List D}, (∀ d ∈ ds, ∀ k : Option D → Ee → Prop, k (f d) en → body d en k) → K (acc ++ ds.filterMap f) en → goL body ds acc en K
  | [], acc, _, h => by
    rw [List.filterMap_nil, List.append_nil] at h
    exact h
  | x :: xs, acc, hb, h => by
    refine hb x (List.mem_cons_self ..) _ ?_
    cases q : f x with
    | none =>
      rw [List.filterMap_cons_none q] at h
      exact goL_fm f (fun d hd => hb d (List.mem_cons_of_mem _ hd)) h
    | some y =>
      rw [List.filterMap_cons_some q] at h
      exact goL_fm f (fun d hd => hb d (List.mem_cons_of_mem _ hd)) (by rw [List.append_assoc]; exact h)
theorem goL_map {body : D → Ee → (Option D → Ee → Prop) → Prop} {en : Ee} {K : List D → Ee → Prop} (f : D → D) {ds : List D} (hb : ∀ d ∈ ds, ∀ k : Option D → Ee → Prop, k (some (f d)) en → body d en k) (h : K (ds.map f) en) : goL body ds [] en K :=
  goL_fm (fun d => some (f d)) hb (by
    have : ds.filterMap (fun d => some (f d)) = ds.map f := by simp
    rw [List.nil_append, this]
    exact h)
theorem goL_filter {body : D → Ee → (Option D → Ee → Prop) → Prop} {en : Ee} {K : List D → Ee → Prop} (p : D → Bool) {ds : List D} (hb : ∀ d ∈ ds, ∀ k : Option D → Ee → Prop, (p d = true → k (some d) en) → (p d = false → k none en) → body d en k) (h : K (ds.filter p) en) : goL body ds [] en K := by
  refine goL_fm (fun d => if p d = true then some d else none) (fun d hd k hk => hb d hd k (fun q => ?_) (fun q => ?_)) ?_
  · rw [q] at hk
    exact hk
  · rw [q] at hk
    exact hk
  · have : ds.filterMap (fun d => if p d = true then some d else none) = ds.filter p := by
      clear h hb
      induction ds with
      | nil => rfl
      | cons x xs ih =>
        cases q : p x <;> simp [List.filterMap_cons, List.filter_cons, q, ih]
    rw [List.nil_append, this]
    exact h
theorem tyD_str {d : D} (h : tyD d = "str") : ∃ s, d = .str s := by
  cases d <;> first | exact ⟨_, rfl⟩ | (simp [tyD] at h)
theorem tyD_int {d : D} (h : tyD d = "int") : ∃ s, d = .int s := by
  cases d <;> first | exact ⟨_, rfl⟩ | (simp [tyD] at h)
theorem atI_some {α : Type} {xs : List α} {i : Int} (h0 : 0 ≤ i) (h1 : i < xs.length) : ∃ x, atI xs i = some x ∧ x ∈ xs := by
  unfold atI ixN
  rw [if_pos h0, if_pos h1]
  have : i.toNat < xs.length := by omega
  exact ⟨xs[i.toNat], by simp [this], List.getElem_mem this⟩
theorem idx_lst {xs : List D} {i : Int} {Q : KR} (h0 : 0 ≤ i) (h1 : i < xs.length) (h : ∀ d ∈ xs, Q (.v d)) : idxD (.lst xs) (.int i) Q := by
  obtain ⟨x, e, m⟩ := atI_some h0 h1
  exact ⟨x, e, h x m⟩
theorem idx_str {z : Str} {i : Int} {Q : KR} (hz : sz z.length) (h0 : 0 ≤ i) (h1 : i < z.length) (h : ∀ c ∈ tl z, Q (.v (.str ⟨#[c]⟩))) : idxD (.str z) (.int i) Q := by
  obtain ⟨x, e, m⟩ := atI_some (xs := z.cps.toList) h0 (by rw [Array.length_toList]; exact h1)
  exact ⟨hz, x, e, h x m⟩
theorem cut_to {α : Type} {l : List α} {v : Int} (h : 0 ≤ v) : cutD l none (some v) = l.take v.toNat := by
  unfold cutD HT.sIx
  simp only [List.drop_zero, if_neg (Int.not_lt.mpr h), Nat.sub_zero]
  by_cases q : v.toNat ≤ l.length
  · rw [Nat.min_eq_left q]
  · rw [Nat.min_eq_right (by omega), List.take_length, List.take_of_length_le (by omega)]
theorem cut_from {α : Type} {l : List α} {v : Int} (h : 0 ≤ v) : cutD l (some v) none = l.drop v.toNat := by
  unfold cutD HT.sIx
  simp only [if_neg (Int.not_lt.mpr h)]
  by_cases q : v.toNat ≤ l.length
  · rw [Nat.min_eq_left q, List.take_of_length_le (by rw [List.length_drop]; exact Nat.le_refl _)]
  · rw [Nat.min_eq_right (by omega), List.drop_length, List.drop_of_length_le (by omega), List.take_nil]
end Vg

set_option Elab.async false
set_option linter.all false
set_option maxRecDepth 100000
namespace Vg
open PySem L2 TL NumText
theorem tl_neg {n : Nat} (h : 0 < n) : tl (Str.ofString (toString (-(n : Int)))) = 45 :: numL n := by
  obtain ⟨m, rfl⟩ : ∃ m, n = m + 1 := ⟨n - 1, by omega⟩
  have e : toString (-((m + 1 : Nat) : Int)) = "-" ++ toString ((m + 1 : Nat) : Int) := rfl
  rw [e, tl_ofString, String.toList_append, List.map_append, ← tl_ofString (toString ((m + 1 : Nat) : Int)), tl_num]
  rfl
theorem val_app (r : List Nat) (c : Nat) : digitsVal (r ++ [c]) = digitsVal r * 10 + (c - 48) := by
  unfold digitsVal
  rw [List.foldl_append]
  rfl
theorem numL_head (n : Nat) : n ≠ 0 → (numL n).head? ≠ some 48 := by
  induction n using Nat.strongRecOn with
  | _ n ih =>
    intro hn
    by_cases h : n < 10
    · rw [numL_lt h]
      intro z
      have z : 48 + n = 48 := by simpa using z
      omega
    · rw [numL_step (by omega)]
      have := ih (n / 10) (by omega) (by omega)
      rw [List.head?_append]
      cases q : (numL (n / 10)).head? with
      | none => exact absurd (List.head?_eq_none_iff.mp q) (numL_ne _)
      | some c => rw [q] at this; simpa using this
theorem canon1 {l : List Nat} (h : numL (digitsVal l) = l) (h0 : l.head? = some 48) : l = [48] := by
  by_cases z : digitsVal l = 0
  · rw [z] at h
    rw [← h]
    rfl
  · have := numL_head _ z
    rw [h] at this
    exact absurd h0 this
theorem canon2 (k : Nat) : ∀ l : List Nat, l.length = k → AllDigits l → l ≠ [] → (l.head? ≠ some 48 ∨ l.length = 1) → numL (digitsVal l) = l := by
  induction k with
  | zero => intro l hk _ hn _; exact absurd (List.length_eq_zero_iff.mp hk) hn
  | succ k ih =>
    intro l hk hd hn ho
    obtain ⟨r, c, rfl⟩ : ∃ r c, l = r ++ [c] := ⟨l.dropLast, l.getLast hn, (List.dropLast_concat_getLast hn).symm⟩
    have hc : 48 ≤ c ∧ c ≤ 57 := hd c (by simp)
    rw [val_app]
    by_cases hr : r = []
    · subst hr
      show numL (0 * 10 + (c - 48)) = [c]
      rw [numL_lt (by omega)]
      congr 1
      omega
    · have hl : r.length ≠ 0 := fun z => hr (List.length_eq_zero_iff.mp z)
      have hh : r.head? ≠ some 48 := by
        rcases ho with ho | ho
        · intro z
          apply ho
          rw [List.head?_append, z]
          rfl
        · rw [List.length_append, List.length_singleton] at ho
          omega
      have hv := ih r (by simpa using hk) (fun d hd' => hd d (by simp [hd'])) hr (.inl hh)
      have h0 : digitsVal r ≠ 0 := fun z => by
        rw [z] at hv
        apply hh
        rw [← hv]
        rfl
      rw [numL_step (by omega)]
      have e1 : (digitsVal r * 10 + (c - 48)) / 10 = digitsVal r := by omega
      have e2 : 48 + (digitsVal r * 10 + (c - 48)) % 10 = c := by omega
      rw [e1, e2, hv]
def figs (w : List Nat) : List Nat := if w.head? = some 45 then w.tail else w
def valW (w : List Nat) : Int := if w.head? = some 45 then -((digitsVal w.tail : Nat) : Int) else ((digitsVal w : Nat) : Int)
theorem head45 {w : List Nat} (h : w.head? = some 45) : w = 45 :: w.tail := by
  cases w with
  | nil => cases h
  | cons c r =>
    have : c = 45 := by simpa using h
    rw [this]
    rfl
theorem val_zero {l : List Nat} (h : AllDigits l) (hn : l ≠ []) (z : digitsVal l = 0) : l.head? = some 48 := by
  by_cases q : l.head? = some 48
  · exact q
  · have := canon2 _ l rfl h hn (.inl q)
    rw [z] at this
    rw [← this]
    rfl
theorem str_val {w : List Nat} (h : AllDigits (figs w)) (hn : figs w ≠ []) : tl (Str.ofString (toString (valW w))) = w ↔ ¬((figs w).head? = some 48 ∧ w ≠ [48]) := by
  unfold figs at h hn ⊢
  unfold valW
  by_cases q : w.head? = some 45
  · rw [if_pos q] at h hn ⊢
    rw [if_pos q]
    have hw := head45 q
    have n48 : w ≠ [48] := fun z => by rw [z] at q; cases q
    by_cases z : digitsVal w.tail = 0
    · constructor
      · intro e
        rw [z] at e
        have e : ([48] : List Nat) = w := e
        exact absurd e.symm n48
      · intro e
        exact absurd ⟨val_zero h hn z, n48⟩ e
    · rw [tl_neg (Nat.pos_of_ne_zero z)]
      constructor
      · rintro e ⟨h1, _⟩
        have e2 : numL (digitsVal w.tail) = w.tail := by
          rw [hw] at e
          exact (List.cons.inj e).2
        have := canon1 e2 h1
        rw [this] at z
        exact z rfl
      · intro e
        have h1 : w.tail.head? ≠ some 48 := fun z => e ⟨z, n48⟩
        rw [canon2 _ _ rfl h hn (.inl h1)]
        exact hw.symm
  · rw [if_neg q] at h hn ⊢
    rw [if_neg q, tl_num]
    constructor
    · rintro e ⟨h1, h2⟩
      exact h2 (canon1 e h1)
    · intro e
      refine canon2 _ _ rfl h hn ?_
      by_cases h1 : w.head? = some 48
      · have : w = [48] := Classical.not_not.mp fun z => e ⟨h1, z⟩
        rw [this]
        exact .inr rfl
      · exact .inl h1
theorem int_val {s : Str} (h : AllDigits (figs (tl s))) (hn : figs (tl s) ≠ []) (hl : s.length ≤ 4300) : intText? s = some (valW (tl s)) := by
  unfold figs at h hn
  unfold valW
  by_cases q : (tl s).head? = some 45
  · rw [if_pos q] at h hn
    rw [if_pos q]
    exact intText_neg (head45 q) h hn hl
  · rw [if_neg q] at h hn
    rw [if_neg q]
    exact intText_digits h hn hl
theorem val_lt (k : Nat) : ∀ l : List Nat, l.length = k → AllDigits l → digitsVal l < 10 ^ k := by
  induction k with
  | zero => intro l hk _; rw [List.length_eq_zero_iff.mp hk]; decide
  | succ k ih =>
    intro l hk hd
    have hn : l ≠ [] := fun z => by rw [z] at hk; cases hk
    obtain ⟨r, c, rfl⟩ : ∃ r c, l = r ++ [c] := ⟨l.dropLast, l.getLast hn, (List.dropLast_concat_getLast hn).symm⟩
    have hc : 48 ≤ c ∧ c ≤ 57 := hd c (by simp)
    have := ih r (by simpa using hk) (fun d hd' => hd d (by simp [hd']))
    rw [val_app, Nat.pow_succ]
    omega
theorem val_bound {w : List Nat} (h : AllDigits (figs w)) (hl : (figs w).length ≤ 5) : -100000 < valW w ∧ valW w < 100000 := by
  have vl := val_lt _ (figs w) rfl h
  have vl : digitsVal (figs w) < 10 ^ 5 := Nat.lt_of_lt_of_le vl (Nat.pow_le_pow_right (by decide) hl)
  unfold valW figs at *
  split at vl
  · rename_i q; rw [if_pos q]; omega
  · rename_i q; rw [if_neg q]; omega
theorem log_lt {n : Int} (h : -2 ^ 64 < n ∧ n < 2 ^ 64) : n.natAbs.log2 < 1920 := by
  by_cases z : n.natAbs = 0
  · rw [z]; decide
  · have : n.natAbs < 2 ^ 1920 := Nat.lt_of_lt_of_le (show n.natAbs < 2 ^ 64 by omega) (Nat.pow_le_pow_right (by decide) (by decide))
    exact (Nat.log2_lt z).mpr this
/-- the number that a word writes, between lo and hi -/
def rd (w : List Nat) (lo hi : Int) : Option Int :=
  if (figs w).length = 0 ∨ 6 ≤ (figs w).length ∨ ¬ (∀ c ∈ figs w, 48 ≤ c ∧ c ≤ 57) ∨ ((figs w).head? = some 48 ∧ w ≠ [48]) then none else if lo ≤ valW w ∧ valW w ≤ hi then some (valW w) else none
theorem rd_wide {w : List Nat} {lo hi : Int} (h : -9999 ≤ lo) : rd w (max lo (-9999)) (min hi 99999) = rd w lo hi := by
  unfold rd
  split
  · rfl
  · rename_i n
    have e1 : max lo (-9999) = lo := by omega
    have n2 : (figs w).length < 6 := by
      by_cases z : 6 ≤ (figs w).length
      · exact absurd (.inr (.inl z)) n
      · omega
    have n3 : ∀ c ∈ figs w, 48 ≤ c ∧ c ≤ 57 := Classical.not_not.mp fun z => n (.inr (.inr (.inl z)))
    have vl := val_lt _ (figs w) rfl n3
    have vl : digitsVal (figs w) < 10 ^ 5 := Nat.lt_of_lt_of_le vl (Nat.pow_le_pow_right (by decide) (by omega))
    have v2 : valW w ≤ 99999 := by
      unfold valW figs at *
      split at vl
      · rename_i q; rw [if_pos q]; omega
      · rename_i q; rw [if_neg q]; omega
    rw [e1]
    have e3 : (lo ≤ valW w ∧ valW w ≤ min hi 99999) ↔ (lo ≤ valW w ∧ valW w ≤ hi) := by
      constructor <;> (rintro ⟨a, b⟩; constructor <;> omega)
    simp only [e3]
end Vg

set_option Elab.async false
set_option linter.all false
set_option maxRecDepth 100000
namespace Vg
open PySem L2 TL NumText
def okS (s : Str) : Prop := s.length ≤ 60000 ∧ ∀ c ∈ tl s, c < 0x110000
theorem okS.sz {s : Str} (h : okS s) : sz s.length := by
  have := h.1
  unfold Vg.sz sizeLine
  omega
theorem okS.ok {s : Str} (h : okS s) : PyData.strOk s = true := by
  unfold PyData.strOk
  rw [← Array.all_toList, List.all_eq_true]
  intro c hc
  exact decide_eq_true (h.2 c hc)
theorem toPys_str : ∀ ss : List Str, toPys (ss.map .str) = some (ss.map .str)
  | [] => rfl
  | s :: ss => by
    show (match toPy (.str s), toPys (ss.map .str) with
      | some x, some xs => some (x :: xs)
      | _, _ => none) = _
    rw [toPys_str ss]
    rfl
theorem lay_strs : ∀ {ss : List Str}, (∀ s ∈ ss, PyData.strOk s = true) → PyData.canLayAll0 (ss.map .str) = true
  | [], _ => rfl
  | s :: ss, h => by
    show (PyData.canLay0 (.str s) && PyData.canLayAll0 (ss.map .str)) = true
    rw [lay_strs fun t ht => h t (List.mem_cons_of_mem _ ht), Bool.and_true]
    exact h s (List.mem_cons_self ..)
theorem depth_strs : ∀ ss : List Str, PyData.depthAll (ss.map .str) = 0
  | [] => rfl
  | s :: ss => by
    show max 0 (PyData.depthAll (ss.map .str)) = 0
    rw [depth_strs ss]
    rfl
theorem shaped_strs {ss : List Str} (h : ∀ s ∈ ss, PyData.strOk s = true) : SeqAt.shaped (.list (ss.map .str)) = true := by
  unfold SeqAt.shaped
  show (PyData.canLayAll0 (ss.map .str) && decide (PyData.depthAll (ss.map .str) + 1 ≤ 64)) = true
  rw [lay_strs h, depth_strs]
  rfl
theorem eqv_nil (xs : List PyData) : PyData.eqv (.list xs) (.list []) = xs.isEmpty := by
  cases xs <;> rfl
theorem eq_strs_nil {ss : List Str} {Q : Bool → Prop} (h : ∀ s ∈ ss, PyData.strOk s = true) (q : Q ss.isEmpty) : eqD (.lst (ss.map .str)) (.lst []) Q := by
  unfold eqD
  exact ⟨.list (ss.map .str), .list [], by
    show (toPys (ss.map .str)).map PyData.list = _
    rw [toPys_str]
    rfl, rfl, shaped_strs h, by rfl, by
    rw [eqv_nil]
    cases ss
    · exact q
    · exact q⟩
theorem eq_chars_nil {l : List Nat} {Q : Bool → Prop} (h : ∀ c ∈ l, c < 0x110000) (q : Q l.isEmpty) : eqD (.lst (l.map fun c => .str ⟨#[c]⟩)) (.lst []) Q := by
  have e : (l.map fun c => D.str ⟨#[c]⟩) = (l.map fun c => (⟨#[c]⟩ : Str)).map .str := by rw [List.map_map]; rfl
  rw [e]
  refine eq_strs_nil (fun s hs => ?_) ?_
  · obtain ⟨c, hc, rfl⟩ := List.mem_map.mp hs
    unfold PyData.strOk
    rw [← Array.all_toList, List.all_eq_true]
    intro d hd
    have : d = c := by simpa using hd
    subst this
    exact decide_eq_true (h d hc)
  · cases l <;> exact q
/-- comprehensions over the images of a row -/
theorem goL_fmA {α : Type} {body : D → Ee → (Option D → Ee → Prop) → Prop} {en : Ee} {K : List D → Ee → Prop} (g : α → D) (f : α → Option D) : ∀ {l : List α} {acc : List D}, (∀ a ∈ l, ∀ k : Option D → Ee → Prop, k (f a) en → body (g a) en k) → K (acc ++ l.filterMap f) en → goL body (l.map g) acc en K
  | [], acc, _, h => by
    rw [List.filterMap_nil, List.append_nil] at h
    exact h
  | x :: xs, acc, hb, h => by
    refine hb x (List.mem_cons_self ..) _ ?_
    cases q : f x with
    | none =>
      rw [List.filterMap_cons_none q] at h
      exact goL_fmA g f (fun d hd => hb d (List.mem_cons_of_mem _ hd)) h
    | some y =>
      rw [List.filterMap_cons_some q] at h
      exact goL_fmA g f (fun d hd => hb d (List.mem_cons_of_mem _ hd)) (by rw [List.append_assoc]; exact h)
theorem goL_mapA {α : Type} {body : D → Ee → (Option D → Ee → Prop) → Prop} {en : Ee} {K : List D → Ee → Prop} (g : α → D) (f : α → D) {l : List α} (hb : ∀ a ∈ l, ∀ k : Option D → Ee → Prop, k (some (f a)) en → body (g a) en k) (h : K (l.map f) en) : goL body (l.map g) [] en K :=
  goL_fmA g (fun d => some (f d)) hb (by
    have : l.filterMap (fun d => some (f d)) = l.map f := by simp
    rw [List.nil_append, this]
    exact h)
theorem goL_filA {α : Type} {body : D → Ee → (Option D → Ee → Prop) → Prop} {en : Ee} {K : List D → Ee → Prop} (g : α → D) (p : α → Bool) {l : List α} (hb : ∀ a ∈ l, ∀ k : Option D → Ee → Prop, (p a = true → k (some (g a)) en) → (p a = false → k none en) → body (g a) en k) (h : K ((l.filter p).map g) en) : goL body (l.map g) [] en K := by
  refine goL_fmA g (fun d => if p d = true then some (g d) else none) (fun d hd k hk => hb d hd k (fun q => ?_) (fun q => ?_)) ?_
  · rw [q] at hk
    exact hk
  · rw [q] at hk
    exact hk
  · have : l.filterMap (fun d => if p d = true then some (g d) else none) = (l.filter p).map g := by
      clear h hb
      induction l with
      | nil => rfl
      | cons x xs ih =>
        cases q : p x <;> simp [List.filterMap_cons, List.filter_cons, q, ih]
    rw [List.nil_append, this]
    exact h
/-- a for whose state is told by what was walked -/
theorem goF_fold {C : Cts} {i : Nat} {b : List Sm} {σ α : Type} (g : α → D) (mk : Vg.Slot → σ → Ee) (f : σ → α → σ) (hset : ∀ x s d, uv x → setV (mk x s) i d = some (mk (.val d) s)) : ∀ {l : List α} {x0 : Vg.Slot} {s0 : σ} {K : Kx}, uv x0 →
    (∀ pre a post, l = pre ++ a :: post → ∀ K' : Kx, K'.nx (mk (.val (g a)) (f (pre.foldl f s0) a)) → K'.ct (mk (.val (g a)) (f (pre.foldl f s0) a)) → wMs C b (mk (.val (g a)) (pre.foldl f s0)) K') → (∀ x, uv x → K.nx (mk x (l.foldl f s0))) →
    goF (fun d en K' => ∃ e1, setV en i d = some e1 ∧ wMs C b e1 K') (l.map g) (mk x0 s0) K
  | [], x0, s0, K, hx, _, hd => hd x0 hx
  | a :: l, x0, s0, K, hx, hb, hd => by
    have next : goF (fun d en K' => ∃ e1, setV en i d = some e1 ∧ wMs C b e1 K') (l.map g) (mk (.val (g a)) (f s0 a)) K :=
      goF_fold g mk f hset (.inr ⟨_, rfl⟩) (fun pre a' post e K' => hb (a :: pre) a' post (by rw [e]; rfl) K') hd
    exact ⟨_, hset x0 s0 _ hx, hb [] a l rfl _ next next⟩
theorem idx0_str {z : Str} {c : Nat} {r : List Nat} {Q : KR} (hz : sz z.length) (h : tl z = c :: r) (q : Q (.v (.str ⟨#[c]⟩))) : idxD (.str z) (.int 0) Q := by
  refine ⟨hz, c, ?_, q⟩
  have h : z.cps.toList = c :: r := h
  rw [h]
  simp [atI, ixN]
theorem digit_index {c : Nat} (h : 48 ≤ c ∧ c ≤ 57) : Txt.index0 "0123456789" ⟨#[c]⟩ = some (c - 48) := by
  have : ∀ k, k < 10 → Txt.index0 "0123456789" ⟨#[48 + k]⟩ = some k := by decide +kernel
  have e := this (c - 48) (by omega)
  rwa [show 48 + (c - 48) = c by omega] at e
/-- a comprehension by an invariant of the turn, what was gathered and the slots -/
theorem goL_lc {C : Cts} {x : Ex} {i : Nat} {c : Ot} {r : RV} {e0 en : Ee} {K : List D → Ee → Prop} {ds : List D} (I : Nat → List D → Ee → Prop) (h0 : I 0 [] en)
    (hs : ∀ k d acc e, ds[k]? = some d → I k acc e → ∃ old, e[i]? = some old ∧ (old = .un ∨ ∃ z, old = .val z) ∧
      wC C c (e.set i (.val d)) (fun t e2 => (t = true → wE C x e2 (fun t e3 => ∃ x e4, give t e3 = some (x, e4) ∧ drf (e4.set i old) r = drf e0 r ∧ I (k + 1) (acc ++ [x]) (e4.set i old)) fun _ _ _ => False) ∧ (t = false → drf (e2.set i old) r = drf e0 r ∧ I (k + 1) acc (e2.set i old))) fun _ _ _ => False)
    (hd : ∀ acc e, I ds.length acc e → K acc e) :
    goL (fun d en K => ∃ old, en[i]? = some old ∧ (old = .un ∨ ∃ z, old = .val z) ∧
      wC C c (en.set i (.val d)) (fun k e2 => (k = true → wE C x e2 (fun t e3 => ∃ x e4, give t e3 = some (x, e4) ∧ drf (e4.set i old) r = drf e0 r ∧ K (some x) (e4.set i old)) fun _ _ _ => False) ∧ (k = false → drf (e2.set i old) r = drf e0 r ∧ K none (e2.set i old))) fun _ _ _ => False) ds [] en K := by
  refine goL_inv (fun d e K K' hk w => ?_) ds I h0 (fun k d acc e hk hi => ?_) hd
  · obtain ⟨old, p, q, w⟩ := w
    refine ⟨old, p, q, mC c (fun k e2 z => ⟨fun u => mE x (fun t e3 z => ?_) (fun _ _ _ z => z) (z.1 u), fun u => ⟨(z.2 u).1, hk _ _ (z.2 u).2⟩⟩) (fun _ _ _ z => z) w⟩
    obtain ⟨x, e4, a, b, z⟩ := z
    exact ⟨x, e4, a, b, hk _ _ z⟩
  · exact hs k d acc e hk hi
theorem rng_get {lo : Int} {n k : Nat} {d : D} (h : (rngD lo n)[k]? = some d) : k < n ∧ d = .int (lo + k) := by
  unfold rngD at h
  rw [List.getElem?_map, Option.map_eq_some_iff] at h
  obtain ⟨j, hj, rfl⟩ := h
  obtain ⟨h1, h2⟩ := List.getElem?_eq_some_iff.mp hj
  rw [List.getElem_range] at h2
  rw [List.length_range] at h1
  subst h2
  exact ⟨h1, rfl⟩
theorem tl_joined (ss : List Str) : tl (Txt.join "" ss) = (ss.map tl).flatten := by
  have e : tl ("" : Str) = [] := by decide +kernel
  rw [join_eq, tl_join, e]
  have : ∀ l : List (List Nat), joinL [] l = l.flatten := by
    intro l
    induction l with
    | nil => rfl
    | cons a l ih =>
      cases l with
      | nil => simp [joinL]
      | cons b l =>
        show a ++ ([] ++ joinL [] (b :: l)) = _
        rw [ih]
        rfl
  exact this _
end Vg

set_option Elab.async false
set_option linter.all false
set_option maxRecDepth 100000
namespace Vg
open PySem L2 TL
/-- the draws: n is no less than what was drawn -/
def Dr (n : Nat) (d : D) : Prop := ∃ (cs : List Int) (a l u : Int), d = .dct [(.inr "cells", .lst (cs.map .int)), (.inr "at", .int a), (.inr "left", .int l), (.inr "used", .int u)] ∧ cs ≠ [] ∧ cs.length < 1000 ∧ 0 ≤ a ∧ a ≤ n ∧ 0 ≤ u ∧ u ≤ n
theorem Dr.mono {n m : Nat} {d : D} (h : Dr n d) (l : n ≤ m) : Dr m d := by
  obtain ⟨cs, a, l, u, e, h1, h2, h3, h4, h5, h6⟩ := h
  exact ⟨cs, a, l, u, e, h1, h2, h3, by omega, h5, by omega⟩
/-- a def that draws at most k times -/
def cDr (α : Type) {β : Type} (k : Nat) (args : α → List D) (pre : α → Prop) (post : α → β → Prop) (res : β → D) (fr : Bool := false) : Ct :=
  ct true fr (α := Nat × D × α) (β := β × D) (fun a => a.2.1 :: args a.2.2) (fun a => Dr a.1 a.2.1 ∧ a.1 + k ≤ 2 ^ 38 ∧ pre a.2.2) (fun a b => post a.2.2 b.1 ∧ Dr (a.1 + k) b.2) (fun _ b => (res b.1, b.2))
def AnsDr {α β : Type} (k : Nat) (post : α → β → Prop) (res : β → D) (n : Nat) (a : α) (x d' : D) : Prop := ∃ b, post a b ∧ x = res b ∧ Dr (n + k) d'
def kDr {α β : Type} (fr : Bool) (k : Nat) (post : α → β → Prop) (res : β → D) (n : Nat) (a : α) : Kx where
  nx := fun en => ∃ d', ioD true en = some d' ∧ AnsDr k post res n a .non d'
  rt := fun r en => ∃ x d', retD fr r en = some x ∧ ioD true en = some d' ∧ AnsDr k post res n a x d'
  bk := fun _ => False
  ct := fun _ => False
  xq := fun _ _ _ => False
theorem cDr_ok {C : Cts} {α β : Type} {k : Nat} {args : α → List D} {pre : α → Prop} {post : α → β → Prop} {res : β → D} {fr : Bool} {N np : Nat} {b : List Sm} (h1 : ∀ a, (args a).length + 1 = np)
    (h2 : ∀ n d a, Dr n d → n + k ≤ 2 ^ 38 → pre a → wMs C b (en0 true N (d :: args a)) (kDr fr k post res n a)) : BodyOk C (cDr α k args pre post res fr) N np b := by
  refine ct_ok (fun a => h1 a.2.2) ?_
  rintro ⟨n, d, a⟩ ⟨hd, hn, hp⟩
  refine mMs b ⟨?_, ?_, fun _ z => False.elim z, fun _ z => False.elim z, fun _ _ _ z => False.elim z⟩ (h2 n d a hd hn hp)
  · rintro e ⟨d', e1, b, q, r, h⟩
    exact ⟨d', e1, (b, d'), ⟨q, h⟩, by rw [r]⟩
  · rintro r e ⟨x, d', e1, e2, b, q, rfl, h⟩
    exact ⟨_, d', e1, e2, (b, d'), ⟨q, h⟩, rfl⟩
theorem callDr {α β : Type} {k : Nat} {args : α → List D} {pre : α → Prop} {post : α → β → Prop} {res : β → D} {fr : Bool} {n i : Nat} {d : D} {rs : List RV} {ds : List D} {en e1 : Ee} {Q : KQ} {X : KX} (a : α) (h : Dr n d) (hn : n + k ≤ 2 ^ 38) (g : gives rs en = some (ds, e1)) (o : ownD e1 i = some d) (e : ds = args a) (p : pre a)
    (kont : ∀ b d', post a b → Dr (n + k) d' → Q (if fr && isMut (res b) then .f (res b) else .v (res b)) (reOwn e1 i d')) : callD (cDr α k args pre post res fr) (.o i :: rs) en Q X :=
  call1 (n, d, a) g o (by rw [e]) ⟨h, hn, p⟩ fun b q => kont b.1 b.2 q.1 q.2
theorem ansDr {α β : Type} {k : Nat} {post : α → β → Prop} {res : β → D} {n : Nat} {a : α} {d' : D} {m : Nat} (b : β) (h : post a b) (hd : Dr m d') (hm : m ≤ n + k) : AnsDr k post res n a (res b) d' := ⟨b, h, rfl, hd.mono hm⟩
theorem ansDrE {α β : Type} {k : Nat} {post : α → β → Prop} {res : β → D} {n : Nat} {a : α} {d' x : D} {m : Nat} (b : β) (h : post a b) (e : x = res b) (hd : Dr m d') (hm : m ≤ n + k) : AnsDr k post res n a x d' := ⟨b, h, e, hd.mono hm⟩
end Vg

set_option Elab.async false
set_option linter.all false
set_option maxRecDepth 100000
namespace Vg
open PySem PySem.Spec PyProof.Rows L2
open PySem.W (Frag findIn subIn typeIn hasDictIn specialIn takesIn mroIn keepIn kitOne exmOne excIn excInitIn)
/-- what stands for a class -/
def valC (K : Frag) : Cn → Value
  | .own c => match clK K c with
    | some D => .ref D
    | none => .none
  | .blt b => .type b.nm
def clsB (K : Frag) (C : Addr) : Bool :=
  keepIn K (.ref C) && (findIn K (.ref C) "__setattr__" == some (some (.builtin "object.__setattr__"))) && (findIn K (.ref C) "__getattribute__" == some (some (.builtin "BaseException.__getattribute__"))) &&
  (findIn K (.ref C) "__getattr__" == some none) && (subIn K (.ref C) (.type "BaseException") == some true) && (typeIn K (.ref C) == some (.type "type")) && hasDictIn K C &&
  (findIn K (.ref C) "__class__" == some (some (.builtin "object.__class__"))) && (specialIn K (.builtin "object.__class__") "__get__" == some (some (.builtin "getset_descriptor.__get__"))) &&
  (takesIn K (.builtin "object.__class__") == some true) && (mroIn K C (.type "object") == some true)
theorem clsB_ok {K : Frag} {C : Addr} (h : clsB K C = true) : XCls K C := by
  unfold clsB at h
  simp only [Bool.and_eq_true, beq_iff_eq] at h
  obtain ⟨⟨⟨⟨⟨⟨⟨⟨⟨⟨h1, h2⟩, h3⟩, h4⟩, h5⟩, h6⟩, h7⟩, h8⟩, h9⟩, h10⟩, h11⟩ := h
  exact ⟨h1, h2, h3, h4, h5, h6, h7, h8, h9, h10, h11⟩
/-- all that the layer asks of the own classes: xk their fields, up what each lies under, dom what is asked about -/
def tabB (K : Frag) (xk : List (Str × List Str)) (up : List (Str × List Cn)) (dom : List Cn) : Bool :=
  (xk.all fun q => match clK K q.1 with
    | some C => clsB K C && (q.2.all fun n => findIn K (.ref C) n == some none) &&
      (dom.all fun d => (kitOne K (.ref C) (valC K d) == some (decide (d ∈ (seek up q.1).getD []))) && (match d with
        | .own c => (clK K c).isSome && (seek xk c).isSome && (exmOne K (.ref C) (valC K d) == some (decide (d ∈ (seek up q.1).getD [])))
        | .blt _ => true))
    | none => false)
def clX (xk : List (Str × List Str)) (K : Frag) (c : Str) : Option Addr := if (seek xk c).isSome = true then clK K c else none
def subG (xk : List (Str × List Str)) (up : List (Str × List Cn)) (dom : List Cn) (c : Str) (d : Cn) : Option Bool := if (seek xk c).isSome = true ∧ d ∈ dom then some (decide (d ∈ (seek up c).getD [])) else none
theorem clOk_of {K : Frag} {xk : List (Str × List Str)} {up : List (Str × List Cn)} {dom : List Cn} {W : WX} {fn : Str → Option Ct} {gt : Str → Option D} {gv : Str → V} (h : tabB K xk up dom = true) : ClOk ⟨K, W, clX xk K, ⟨fn, gt, seek xk, subG xk up dom⟩, gv⟩ := by
  have row : ∀ c ns, seek xk c = some ns → ∃ C, clK K c = some C ∧ clsB K C = true ∧ (∀ n ∈ ns, findIn K (.ref C) n = some none) ∧ ∀ d ∈ dom, kitOne K (.ref C) (valC K d) = some (decide (d ∈ (seek up c).getD [])) ∧ ∀ o, d = .own o → (clK K o).isSome = true ∧ (seek xk o).isSome = true ∧ exmOne K (.ref C) (valC K d) = some (decide (d ∈ (seek up c).getD [])) := by
    intro c ns e
    have m := seek_mem e
    have := List.all_eq_true.mp h _ m
    split at this
    · rename_i C hC
      simp only [Bool.and_eq_true, List.all_eq_true, beq_iff_eq] at this
      obtain ⟨⟨h1, h2⟩, h3⟩ := this
      refine ⟨C, hC, h1, h2, fun d hd => ⟨(h3 d hd).1, ?_⟩⟩
      rintro o rfl
      have z := (h3 _ hd).2
      simp only [Bool.and_eq_true, beq_iff_eq] at z
      exact ⟨z.1.1, z.1.2, z.2⟩
    · cases this
  have cl_at : ∀ {c C}, clX xk K c = some C → (seek xk c).isSome = true ∧ clK K c = some C := by
    intro c C e
    unfold clX at e
    split at e
    · rename_i z
      exact ⟨z, e⟩
    · cases e
  have u_at : ∀ d : Cn, (∀ o, d = .own o → (clK K o).isSome = true ∧ (seek xk o).isSome = true) → clU ⟨K, W, clX xk K, ⟨fn, gt, seek xk, subG xk up dom⟩, gv⟩ d = valC K d := by
    intro d hd
    cases d with
    | own o =>
      obtain ⟨_, e2⟩ := hd o rfl
      show (match clX xk K o with | some C => Value.ref C | none => .none) = (match clK K o with | some D => Value.ref D | none => .none)
      unfold clX
      rw [if_pos e2]
    | blt b => rfl
  refine ⟨?_, ?_, ?_⟩
  · intro c ns e
    obtain ⟨C, h1, h2, h3, _⟩ := row c ns e
    refine ⟨C, ?_, h1, clsB_ok h2, h3⟩
    show clX xk K c = some C
    unfold clX
    rw [if_pos (by rw [show seek xk c = some ns from e]; rfl)]
    exact h1
  · intro c d b C e hc
    obtain ⟨z1, z2⟩ := cl_at hc
    obtain ⟨ns, hns⟩ := Option.isSome_iff_exists.mp z1
    obtain ⟨C', h1, h2, h3, h4⟩ := row c ns hns
    rw [z2] at h1
    cases h1
    have e : subG xk up dom c d = some b := e
    unfold subG at e
    split at e
    · rename_i z
      cases e
      obtain ⟨k1, k2⟩ := h4 d z.2
      have ud := u_at d fun o ho => ⟨(k2 o ho).1, (k2 o ho).2.1⟩
      refine ⟨fun o ho => ?_, ?_⟩
      · show (clX xk K o).isSome = true
        unfold clX
        rw [if_pos (k2 o ho).2.1]
        exact (k2 o ho).1
      · rw [ud]
        exact k1
    · cases e
  · intro c d b C e hc
    obtain ⟨z1, z2⟩ := cl_at hc
    obtain ⟨ns, hns⟩ := Option.isSome_iff_exists.mp z1
    obtain ⟨C', h1, h2, h3, h4⟩ := row c ns hns
    rw [z2] at h1
    cases h1
    have e : subG xk up dom c (.own d) = some b := e
    unfold subG at e
    split at e
    · rename_i z
      cases e
      obtain ⟨k1, k2⟩ := h4 _ z.2
      have ud := u_at (.own d) fun o ho => ⟨(k2 o ho).1, (k2 o ho).2.1⟩
      rw [ud]
      exact (k2 d rfl).2.2
    · cases e
inductive Bk where
  | value | lookup | runtime
  deriving DecidableEq
def Bk.nm : Bk → String
  | .value => "ValueError" | .lookup => "LookupError" | .runtime => "RuntimeError"
def Bk.bm (b : Bk) : List Value := [.type b.nm, .type "Exception", .type "BaseException", .type "object"]
def Bk.new : Bk → String
  | .value => "ValueError.__new__" | .lookup => "LookupError.__new__" | .runtime => "RuntimeError.__new__"
theorem Bk.facts : ∀ b : Bk, ∃ (B initId : String), ExcBaseFacts B b.new initId b.bm
  | .value => ⟨_, _, F.excBase_ValueError⟩
  | .lookup => ⟨_, _, F.excBase_LookupError⟩
  | .runtime => ⟨_, _, F.excBase_RuntimeError⟩
theorem Bk.pass : ∀ (b : Bk) (z : Value), refuseLoop z "__setattr__" b.bm = pure ()
  | .value, z => F.store_ValueError.passes z
  | .lookup, z => F.store_LookupError.passes z
  | .runtime, z => F.store_RuntimeError.passes z
theorem xno_of {K : Frag} {C : Addr} (b : Bk) (h : excIn K C b.bm b.new = true) : XNo K C := by
  obtain ⟨B, i, f⟩ := b.facts
  exact ⟨B, b.new, i, b.bm, f, h⟩
/-- classes that have no own __init__ -/
def noB (K : Frag) (l : List (Str × Bk)) : Bool := l.all fun q => match clK K q.1 with
  | some C => excIn K C q.2.bm q.2.new
  | none => false
theorem noB_at {K : Frag} {l : List (Str × Bk)} {c : Str} {b : Bk} {C : Addr} (h : noB K l = true) (m : (c, b) ∈ l) (e : clK K c = some C) : XNo K C := by
  have := List.all_eq_true.mp h _ m
  simp only [e] at this
  exact xno_of b this
/-- classes that have one -/
def iniC (K : Frag) (l : List (Str × Bk)) : Bool := l.all fun q => match clK K q.1 with
  | some C => excInitIn K C q.2.bm q.2.new && hasDictIn K C
  | none => false
theorem iniC_at {K : Frag} {l : List (Str × Bk)} {c : Str} {b : Bk} {C : Addr} (h : iniC K l = true) (m : (c, b) ∈ l) (e : clK K c = some C) :
    ∃ (B newId initId : String) (bmB : List Value) (nm q : Str) (N : Addr) (bs bm : List Value) (sn : List Str) (sub : List Value) (ab : Bool) (col : Option Bool) (dd : Option Addr) (k0 k1 k2 k3 k5 : Option Value),
      ExcBaseFacts B newId initId bmB ∧ K.lookup C = some (excClassObj nm q C N bs bm true sn sub ab col dd k0 k1 k2 k3 k5 newId) ∧ (∀ X : String, bm.contains (.type X) = bmB.contains (.type X)) ∧ ∀ z, PySem.refuseLoop z "__setattr__" (.ref C :: bm) = pure () := by
  have q := List.all_eq_true.mp h _ m
  simp only [e, Bool.and_eq_true] at q
  obtain ⟨q, hd⟩ := q
  obtain ⟨B, i, F⟩ := b.facts
  unfold excInitIn at q
  split at q
  · rename_i dd cd sl ho
    split at q
    · rename_i C' bm k0 k1 k2 k3 n k5 hm hs
      simp only [Bool.and_eq_true, beq_iff_eq, Bool.not_eq_true'] at q
      obtain ⟨⟨⟨rfl, rfl⟩, hdel⟩, ht⟩ := q
      have hd2 : cd.hasDict = true := by
        unfold hasDictIn PySem.W.clsIn at hd
        rw [ho] at hd
        exact hd
      obtain ⟨nm, bs, mro, ns, qn, hdd, sn, sub, ab, col, del⟩ := cd
      dsimp only at hm hdel hd2
      subst hm hdel hd2
      have hsl : sl = #[k0, k1, k2, k3, some (.builtin b.new), k5] := by
        obtain ⟨l⟩ := sl
        simp only at hs
        rw [hs]
      subst hsl
      exact ⟨B, b.new, i, b.bm, nm, qn, ns, bs, bm, sn, sub, ab, col, dd, k0, k1, k2, k3, k5, F, ho, fun T => PySem.W.excTail_contains T _ ht, fun z => by rw [refuseLoop_ref]; exact PySem.W.excTail_pass z (b.pass z) _ ht⟩
    · cases q
  · cases q
/-- an own __init__ as it is written -/
structure IniD (K : Frag) (C fI : Addr) (nms : List Str) (st : Stmt) (qual : Str) (dvs : List V) (fd : FuncData) : Prop where
  iC : findIn K (.ref C) "__init__" = some (some (.ref fI))
  F : FunD K "__init__" qual (defArgs st) (defBody st) (defScope st) dvs [] fI fd
theorem xini_of {K : Frag} {C fI : Addr} {nms : List Str} {st : Stmt} {qual : Str} {dvs : List V} {fd : FuncData} {l : List (Str × Bk)} {c : Str} {b : Bk} (I : IniD K C fI nms st qual dvs fd) (h : iniC K l = true) (m : (c, b) ∈ l) (e : clK K c = some C)
    (tI : typeIn K (.ref fI) = some (.type "function")) (no : ∀ n ∈ nms, findIn K (.ref C) n = some none) (q : (Xa.iniB nms (defBody st) && decide ((("self" : Str) :: nms).Nodup) && decide (nms ≠ []) && decide (nms.length ≤ 10) && (nms.all fun f => !(f == ("__debug__" : Str))) &&
      decide ((defScope st).kind = .function) && decide ((defScope st).isCoroutine = false) && decide ((defScope st).isGenerator = false) && ((("self" : Str) :: nms).all fun y => decide ((defScope st).names.lookup y = some NameKind.local))) = true) : XIni K C fI nms fd := by
  simp only [Bool.and_eq_true, decide_eq_true_eq, List.all_eq_true, Bool.not_eq_true'] at q
  obtain ⟨⟨⟨⟨⟨⟨⟨⟨q1, q2⟩, q3⟩, q4⟩, q5⟩, q6⟩, q7⟩, q8⟩, q9⟩ := q
  obtain ⟨oc, od, dV, kV, doc, pm, an, cdv, ct, osl, e1, e2, e3, _, _⟩ := I.F.ex
  exact ⟨iniC_at h m e, I.iC, tI, q2, q3, q4, fun f hf => ⟨no f hf, q5 f hf⟩, oc, od, qual, _, _, _, dV, kV, doc, pm, an, cdv, ct, osl, e1, e2, e3, q1, q6, q7, q8, q9⟩
section
variable {K : Frag} {x qual : Str} {st : Stmt} {f T : Addr} {oc kV : Value} {od an : Option Addr} {osl : Array (Option Value)} {doc pm cdv ct : Value}
/-- a def with defaults by place -/
theorem dfp (dvs : List V) {its : List Value} {oT : Obj} {n : Nat} (l : K.lookup f = some ⟨oc, od, .func (PySem.W.fnOf x qual (defArgs st) (defBody st) (defScope st) (.ref T) kV doc pm an cdv ct), osl⟩) (c : PySem.W.codeIn K cdv qual = true) (k : keepIn K (.ref f) = true)
    (h0 : dvs ≠ []) (lT : K.lookup T = some oT) (hT : oT.data = .seq its.toArray n) (r : Vals dvs its) :
    FunD K x qual (defArgs st) (defBody st) (defScope st) dvs [] f (PySem.W.fnOf x qual (defArgs st) (defBody st) (defScope st) (.ref T) kV doc pm an cdv ct) :=
  ⟨⟨oc, od, .ref T, kV, doc, pm, an, cdv, ct, osl, rfl, l, c, .inr ⟨h0, T, oT, its, n, rfl, lT, hT, r⟩, .inl rfl⟩, k⟩
/-- a form of making: all fields are written -/
theorem bdx0 {fd : FuncData} {nms : List Str} {params : Arguments} {body : List Stmt} {scope : Scope} (F : FunD K x qual params body scope [] [] f fd) (n : Nat) (ks : List Str) (g : {α : Type} → List α → List α → List α)
    (h : ∀ (kV doc pm : Value) (an : Option Addr) (cdv ct me : Value) (us ws : List Value), us.length = n → ws.length = ks.length → bindArgs (PySem.W.fnOf x qual params body scope .none kV doc pm an cdv ct) ⟨me :: us, ks.zip ws⟩ = pure ((("self" : Str), me) :: nms.zip (g us ws))) : BdX K fd nms n ks (fun us ws => g us ws) := by
  intro s me us ws X l1 l2
  obtain ⟨oc, od, dV, kV, doc, pm, an, cdv, ct, osl, rfl, lk, hcd, hD, hK⟩ := F.ex
  rcases hD with ⟨_, rfl⟩ | ⟨e, _⟩
  · exact BindsTo.of_eq (h kV doc pm an cdv ct (.ref me) us ws l1 l2)
  · exact absurd rfl e
/-- some may lack -/
theorem bdxD {fd : FuncData} {nms : List Str} {params : Arguments} {body : List Stmt} {scope : Scope} {dvs : List V} (F : FunD K x qual params body scope dvs [] f fd) (n : Nat) (ks : List Str) (g : {α : Type} → List α → List α → List α → List α) (hd : dvs ≠ [])
    (hrel : ∀ {vs ds zs : List V} {us its ws : List Value}, Vals vs us → Vals ds its → Vals zs ws → Vals (g vs ds zs) (g us its ws))
    (h : ∀ (T : Addr) (kV doc pm : Value) (an : Option Addr) (cdv ct me : Value) (us its ws : List Value), us.length = n → its.length = dvs.length → ws.length = ks.length →
      ∃ k, bindArgs (PySem.W.fnOf x qual params body scope (.ref T) kV doc pm an cdv ct) ⟨me :: us, ks.zip ws⟩ = seqItems? (.ref T) >>= k ∧ k (some its.toArray) = pure ((("self" : Str), me) :: nms.zip (g us its ws))) :
    ∃ its : List Value, Vals dvs its ∧ BdX K fd nms n ks (fun us ws => g us its ws) := by
  obtain ⟨oc, od, dV, kV, doc, pm, an, cdv, ct, osl, rfl, lk, hcd, hD, hK⟩ := F.ex
  rcases hD with ⟨e, _⟩ | ⟨_, T, o, its, m, rfl, lT, oT, rT⟩
  · exact absurd e hd
  · refine ⟨its, rT, fun s me us ws X l1 l2 => ?_⟩
    obtain ⟨k, e1, e2⟩ := h T kV doc pm an cdv ct (.ref me) us its ws l1 rT.length.symm l2
    refine BindsTo.of_looks fun M => ?_
    rw [e1]
    exact looks_items X lT oT (.of_pure e2)
/-- which of the written ones, the keywords' and the defaults stand where -/
def selX {α : Type} (n : Nat) (ix : List (Nat ⊕ Nat)) (us its ws : List α) : List α := us.take n ++ sel ix its ws
theorem selX_rel {n : Nat} {ix : List (Nat ⊕ Nat)} {vs ds zs : List V} {us its ws : List Value} (a : Vals vs us) (b : Vals ds its) (c : Vals zs ws) : Vals (selX n ix vs ds zs) (selX n ix us its ws) := (a.take n).append (sel_vals b c ix)
/-- C(..), of a class with an own __init__ -/
theorem mkb0 {gv : Str → V} {C : Addr} {fd : FuncData} {nms : List Str} {params : Arguments} {body : List Stmt} {scope : Scope} (X : XCls K C) (Y : XIni K C f nms fd) (F : FunD K x qual params body scope [] [] f fd) (n : Nat) (ks : List Str) (fl : List (Nat ⊕ Str)) (ix : List (Nat ⊕ Nat))
    (h : ∀ (kV doc pm : Value) (an : Option Addr) (cdv ct me : Value) (us ws : List Value), us.length = n → ws.length = ks.length → bindArgs (PySem.W.fnOf x qual params body scope .none kV doc pm an cdv ct) ⟨me :: us, ks.zip ws⟩ = pure ((("self" : Str), me) :: nms.zip (us ++ sel ix [] ws)))
    (hv : ∀ zs : List V, zs.length = ks.length → sel ix [] zs = fillV gv fl zs) : ∃ gV, Mkb K C nms n ks gV ∧ ∀ vs zs, vs.length = n → zs.length = ks.length → gV vs zs = vs ++ fillV gv fl zs :=
  ⟨fun vs zs => vs ++ sel ix [] zs, ⟨X, .inr ⟨Y.ne, f, fd, _, Y, bdx0 F n ks (fun us ws => us ++ sel ix [] ws) h, fun a b => a.append (sel_vals .nil b ix)⟩⟩, fun vs zs _ l => congrArg (vs ++ ·) (hv zs l)⟩
theorem mkbD {gv : Str → V} {C : Addr} {fd : FuncData} {nms : List Str} {params : Arguments} {body : List Stmt} {scope : Scope} {dvs : List V} (X : XCls K C) (Y : XIni K C f nms fd) (F : FunD K x qual params body scope dvs [] f fd) (hd : dvs ≠ []) (n : Nat) (ks : List Str) (fl : List (Nat ⊕ Str)) (ix : List (Nat ⊕ Nat))
    (h : ∀ (T : Addr) (kV doc pm : Value) (an : Option Addr) (cdv ct me : Value) (us its ws : List Value), us.length = n → its.length = dvs.length → ws.length = ks.length →
      ∃ k, bindArgs (PySem.W.fnOf x qual params body scope (.ref T) kV doc pm an cdv ct) ⟨me :: us, ks.zip ws⟩ = seqItems? (.ref T) >>= k ∧ k (some its.toArray) = pure ((("self" : Str), me) :: nms.zip (us ++ sel ix its ws)))
    (hv : ∀ zs : List V, zs.length = ks.length → sel ix dvs zs = fillV gv fl zs) : ∃ gV, Mkb K C nms n ks gV ∧ ∀ vs zs, vs.length = n → zs.length = ks.length → gV vs zs = vs ++ fillV gv fl zs := by
  obtain ⟨its, r, b⟩ := bdxD F n ks (fun us its ws => us ++ sel ix its ws) hd (fun a b c => a.append (sel_vals b c ix)) h
  exact ⟨fun vs zs => vs ++ sel ix dvs zs, ⟨X, .inr ⟨Y.ne, f, fd, _, Y, b, fun a c => a.append (sel_vals r c ix)⟩⟩, fun vs zs _ l => congrArg (vs ++ ·) (hv zs l)⟩
end
/-- what the module's forms of making are -/
def MkOk (K : Frag) (xk : List (Str × List Str)) (gv : Str → V) (q : Kwf) : Prop := ∃ C ns, clK K q.1 = some C ∧ seek xk q.1 = some ns ∧ ∃ gV, Mkb K C ns q.2.1 q.2.2.1 gV ∧ ∀ vs zs, vs.length = q.2.1 → zs.length = q.2.2.1.length → gV vs zs = vs ++ fillV gv q.2.2.2 zs
theorem mk_no {K : Frag} {xk : List (Str × List Str)} {up : List (Str × List Cn)} {dom : List Cn} {gv : Str → V} {l : List (Str × Bk)} {c : Str} (h : tabB K xk up dom = true) (hn : noB K l = true) (b : Bk) (m : (c, b) ∈ l) (hx : seek xk c = some []) : MkOk K xk gv (c, 0, [], []) := by
  obtain ⟨C, e, q, _⟩ : ∃ C, clK K c = some C ∧ XCls K C ∧ True := by
    have := List.all_eq_true.mp h _ (seek_mem hx)
    split at this
    · rename_i C hC
      simp only [Bool.and_eq_true] at this
      exact ⟨C, hC, clsB_ok this.1.1, trivial⟩
    · cases this
  exact ⟨C, [], e, hx, fun vs _ => vs, ⟨q, .inl ⟨rfl, noB_at hn m e, rfl, rfl⟩⟩, fun vs zs _ _ => by simp [fillV]⟩
theorem xcls_at {K : Frag} {xk : List (Str × List Str)} {up : List (Str × List Cn)} {dom : List Cn} {c : Str} {ns : List Str} {C : Addr} (h : tabB K xk up dom = true) (hx : seek xk c = some ns) (e : clK K c = some C) : XCls K C ∧ ∀ n ∈ ns, findIn K (.ref C) n = some none := by
  have := List.all_eq_true.mp h _ (seek_mem hx)
  simp only [e, Bool.and_eq_true, List.all_eq_true, beq_iff_eq] at this
  exact ⟨clsB_ok this.1.1, this.1.2⟩
theorem clK_of {K : Frag} {c : Str} {C : Addr} (a : PySem.W.nsIn K mainGlobals c = some (some (.ref C))) : clK K c = some C := by
  unfold clK
  rw [a]
theorem xg_of {K : Frag} {mg : Str → Option Value} {hp : Heap} {xk : List (Str × List Str)} {up : List (Str × List Cn)} {dom : List Cn} {fn : Str → Option Ct} {gt : Str → Option D} {gv : Str → V} {bs pn oc : List Str} {ks xc : List Kwf} (X : K.In hp) (G : hp.Ns mainGlobals mg)
    (h : tabB K xk up dom = true) (ho : (oc.all fun c => (seek xk c).isSome) = true) (hx : ∀ q ∈ xc, MkOk K xk gv q) : XG K mg ⟨fn, gt, seek xk, subG xk up dom⟩ gv (clX xk K) (mkBi bs pn ks oc xc) where
  ok := fun W => clOk_of h
  oc := fun c e => by
    have m : c ∈ oc := of_decide_eq_true e
    have z := List.all_eq_true.mp ho c m
    obtain ⟨ns, hns⟩ := Option.isSome_iff_exists.mp z
    have := List.all_eq_true.mp h _ (seek_mem hns)
    split at this
    · rename_i C hC
      refine ⟨C, ?_, ?_⟩
      · unfold clX
        rw [if_pos z]
        exact hC
      · have hC : clK K c = some C := hC
        unfold clK at hC
        split at hC
        · rename_i C' e
          cases hC
          exact PySem.W.mg_of X G e
        · cases hC
    · cases this
  xc := fun c n ks fl D ns e hc hk => by
    obtain ⟨q, hq, e⟩ := List.any_eq_true.mp e
    have e := of_decide_eq_true e
    subst e
    obtain ⟨C, ns', h1, h2, h3⟩ := hx _ hq
    have hc : clX xk K c = some D := hc
    unfold clX at hc
    split at hc
    · rw [h1] at hc
      cases hc
      have hk : seek xk c = some ns := hk
      rw [h2] at hk
      cases hk
      exact h3
    · cases hc
/-- a def that stands in a class -/
def inCls (s : Stmt) (j : Nat) : Stmt := match s with
  | .ClassDef _ _ _ b _ _ _ _ _ _ _ => b.getD j (.Pass ⟨0, 0, 0, 0⟩)
  | _ => .Pass ⟨0, 0, 0, 0⟩
/-- THE END, with own classes -/
theorem walkX (xk : List (Str × List Str)) {l : PySem.W.OpenLaw} {n k : Nat} {q : Program} {loose : List Str} {XP : (Str → Option Value) → Heap → Prop} {YP : World → Heap → Prop} {d : DefRec} {K : Params → PySem.W.Frag} {x : Str} {c : Ct}
    (h1 : l.most = some n) (h2 : n ≤ sizeLine) (h3 : d.params.defaults = []) (rm : Room k callerA) (hY : ∀ (w : World) (hp : Heap), YP w hp → (K w.params).In hp)
    (F : ∀ (w : World) (mg : Str → Option Value) (fa : Addr) (hp : Heap), (K w.params).In hp → hp.Ns mainGlobals mg → mg d.name = some (.ref fa) →
      ∃ fd : FuncData, (∀ (s : Shared) (u : Value), BindsTo s fd ⟨[u], []⟩ [(x, u)]) ∧
        ∀ base : Heap, (K w.params).In base → base.Ns mainGlobals mg → FnG l.prog w (K w.params) mg base k fa fd [x] (spOf (K w.params) (clX xk (K w.params)) c))
    (hio : c.io = false) (hfr : c.fr = false) (wish : ∀ ns : List Int, ns.length ≤ n → c.wp [.scr ns] (fun r _ => r = .bl true) fun _ _ _ => False) :
    PySem.W.WalkO q loose XP YP l.row.toRowW d [] (fun f vs => PySem.call f vs) :=
  walkG (cl := fun p => clX xk (K p)) h1 h2 h3 rm hY F hio hfr wish
end Vg

local macro_rules | `(tactic| walk_at "vside") => `(tactic| first | with_reducible assumption | rfl | assumption | exact trivial | decide | omega | exact Or.inl rfl | exact Or.inr ⟨_, rfl⟩ | (unfold L2.CMul; omega) | (unfold L2.CDiv; omega) | (unfold L2.CPow; omega) | (unfold Vg.sz PySem.sizeLine; omega) | (simp only [List.length_cons, List.length_nil, List.length_map, List.length_append, Vg.sz, PySem.sizeLine]; omega) | (simp only [List.map_cons, List.map_nil]; decide +kernel) | (simp only [List.length_map, Array.length_toList]; assumption) | (simp only [Vg.rng_len, Vg.sz, PySem.sizeLine]; omega) | exact Nat.le_of_ble_eq_true rfl | with_reducible exact Vg.shown2 _ _ | with_reducible exact Vg.shown4 _ _ _ _ | (intro k z; cases z) | (intro k z; cases z; decide) | exact ⟨Vg.D.non, rfl⟩)

set_option Elab.async false
set_option linter.all false
set_option maxRecDepth 100000
namespace Vg
open PySem PySem.Spec PyProof.Rows L2
def top (i : Nat) : Stmt := PySem.Challenge.pw_gateslack_k02_refusals_by_hand.main.body.getD i (.Pass ⟨0, 0, 0, 0⟩)
def bi : Bi := mkBi ["IndexError", "KeyError", "LookupError", "NotImplementedError", "RuntimeError", "ValueError", "enumerate", "int", "isinstance", "len", "min", "range", "repr"] ["_law_are_caught", "_law_begin", "_law_by_names", "_law_families", "_law_fields", "_law_made", "_law_mixed", "_law_next", "_law_words"] [] ["TimingError", "BadNetlist", "BadClock", "BadPath", "BadFilling", "BadCheck", "BadPaper", "BadEdit", "BadText", "BadLine", "NotThere", "NoSignal", "NoEnd", "NoCorner", "Refused", "Busy", "NothingDone", "TooMany"] [("BadNetlist", 1, [], []), ("BadClock", 0, [], []), ("BadPath", 0, [], []), ("BadFilling", 0, [], []), ("BadCheck", 0, [], []), ("BadPaper", 1, [], []), ("BadEdit", 0, [], []), ("BadText", 2, [], []), ("BadLine", 0, [], []), ("NoSignal", 1, [], []), ("NoEnd", 1, [], []), ("NoCorner", 1, [], []), ("Busy", 0, [], []), ("NothingDone", 0, [], []), ("TooMany", 1, [], []), ("BadNetlist", 0, ["place"], [.inl 0]), ("BadPaper", 0, ["place"], [.inl 0]), ("BadText", 0, ["word", "line"], [.inl 1, .inl 0]), ("BadText", 1, [], [.inr "BadText.word"]), ("BadText", 0, [], [.inr "BadText.line", .inr "BadText.word"]), ("BadText", 0, ["word"], [.inr "BadText.line", .inl 0]), ("NoSignal", 0, ["name"], [.inl 0]), ("NoEnd", 0, ["name"], [.inl 0]), ("TooMany", 0, ["most"], [.inl 0])]
def xkT : List (Str × List Str) := [("TimingError", []), ("BadNetlist", ["place"]), ("BadClock", []), ("BadPath", []), ("BadFilling", []), ("BadCheck", []), ("BadPaper", ["place"]), ("BadEdit", []), ("BadText", ["line", "word"]), ("BadLine", []), ("NotThere", []), ("NoSignal", ["name"]), ("NoEnd", ["name"]), ("NoCorner", ["number"]), ("Refused", []), ("Busy", []), ("NothingDone", []), ("TooMany", ["most"])]
def upT : List (Str × List Cn) := [("TimingError", [.own "TimingError", .blt .value]), ("BadNetlist", [.own "BadNetlist", .own "TimingError", .blt .value]), ("BadClock", [.own "BadClock", .own "TimingError", .blt .value]), ("BadPath", [.own "BadPath", .own "TimingError", .blt .value]), ("BadFilling", [.own "BadFilling", .own "TimingError", .blt .value]), ("BadCheck", [.own "BadCheck", .own "TimingError", .blt .value]), ("BadPaper", [.own "BadPaper", .own "TimingError", .blt .value]), ("BadEdit", [.own "BadEdit", .own "TimingError", .blt .value]), ("BadText", [.own "BadText", .own "TimingError", .blt .value]), ("BadLine", [.own "BadLine", .own "TimingError", .blt .value]), ("NotThere", [.own "NotThere", .blt .lookup]), ("NoSignal", [.own "NoSignal", .own "NotThere", .blt .lookup]), ("NoEnd", [.own "NoEnd", .own "NotThere", .blt .lookup]), ("NoCorner", [.own "NoCorner", .own "NotThere", .blt .lookup]), ("Refused", [.own "Refused", .blt .runtime]), ("Busy", [.own "Busy", .own "Refused", .blt .runtime]), ("NothingDone", [.own "NothingDone", .own "Refused", .blt .runtime]), ("TooMany", [.own "TooMany", .own "Refused", .blt .runtime])]
abbrev s_law_begin : Stmt := top 20
def n_law_begin : List Str := ["script"]
def b_law_begin : List Sm := [.ret (.dct (.cons "cells" (.bin .Add (.var 0) (.lst (.cons (.cst (.int 0)) .nil))) (.cons "at" (.cst (.int 0)) (.cons "left" (.cst (.int 0)) (.cons "used" (.cst (.int 0)) .nil)))))]
theorem sc_law_begin : FnScope n_law_begin ["script"] (defScope s_law_begin) := ⟨rfl, rfl, rfl, by decide +kernel, rfl, by decide +kernel, by decide +kernel⟩
theorem ck_law_begin : cMs bi (defScope s_law_begin) n_law_begin b_law_begin (defBody s_law_begin) = true := by decide +kernel
abbrev s_law_mixed : Stmt := top 21
def n_law_mixed : List Str := ["cell", "k", "number"]
def b_law_mixed : List Sm := [.set 2 false (.bin .Mod (.bin .Add (.bin .Add (.bin .Add (.bin .Mod (.var 0) (.cst (.int 1000000007))) (.bin .Mult (.bin .Mult (.cst (.int 7919)) (.var 1)) (.var 1))) (.bin .Mult (.cst (.int 31)) (.var 1))) (.cst (.int 7))) (.cst (.int 2147483647))), .set 2 false (.bin .Mod (.bin .Mult (.bin .Mod (.bin .Mult (.var 2) (.var 2)) (.cst (.int 2147483647))) (.var 2)) (.cst (.int 2147483629))), .ret (.bin .FloorDiv (.bin .Mod (.bin .Mult (.var 2) (.bin .Add (.cst (.int 69621)) (.bin .Mult (.cst (.int 2)) (.bin .Mod (.var 1) (.cst (.int 1000)))))) (.cst (.int 2147483647))) (.cst (.int 7)))]
theorem sc_law_mixed : FnScope n_law_mixed ["cell", "k"] (defScope s_law_mixed) := ⟨rfl, rfl, rfl, by decide +kernel, rfl, by decide +kernel, by decide +kernel⟩
theorem ck_law_mixed : cMs bi (defScope s_law_mixed) n_law_mixed b_law_mixed (defBody s_law_mixed) = true := by decide +kernel
abbrev s_law_next : Stmt := top 22
def n_law_next : List Str := ["draw", "many", "found", "cells", "cell"]
def b_law_next : List Sm := [.ife (.val (.cmp .Gt (.idx (.var 0) (.cst (.str "left"))) (.cst (.int 0)))) [.set 2 false (.bin .Mod (.idx (.var 0) (.cst (.str "left"))) (.var 1)), .put (.var 0) (.cst (.str "left")) (.bin .FloorDiv (.idx (.var 0) (.cst (.str "left"))) (.var 1)), .ret (.var 2)] [], .set 3 false (.idx (.var 0) (.cst (.str "cells"))), .set 4 false (.idx (.var 3) (.bin .Mod (.idx (.var 0) (.cst (.str "at"))) (.blt .len (.cons (.var 3) .nil)))), .put (.var 0) (.cst (.str "at")) (.bin .Add (.idx (.var 0) (.cst (.str "at"))) (.cst (.int 1))), .ife (.and (.val (.cmp .GtE (.var 4) (.bin .Pow (.cst (.int 10)) (.cst (.int 18))))) (.val (.cmp .LtE (.idx (.var 0) (.cst (.str "at"))) (.blt .len (.cons (.var 3) .nil))))) [.put (.var 0) (.cst (.str "left")) (.bin .FloorDiv (.var 4) (.var 1)), .ret (.bin .Mod (.var 4) (.var 1))] [], .put (.var 0) (.cst (.str "used")) (.bin .Add (.idx (.var 0) (.cst (.str "used"))) (.cst (.int 1))), .ret (.bin .Mod (.call "_law_mixed" (.cons (.call "_law_mixed" (.cons (.var 4) (.cons (.idx (.var 0) (.cst (.str "at"))) .nil))) (.cons (.idx (.var 0) (.cst (.str "used"))) .nil))) (.var 1))]
theorem sc_law_next : FnScope n_law_next ["draw", "many"] (defScope s_law_next) := ⟨rfl, rfl, rfl, by decide +kernel, rfl, by decide +kernel, by decide +kernel⟩
theorem ck_law_next : cMs bi (defScope s_law_next) n_law_next b_law_next (defBody s_law_next) = true := by decide +kernel
abbrev s_law_words : Stmt := top 23
def n_law_words : List Str := ["error", "found", "called", "is_so"]
def b_law_words : List Sm := [.set 1 false (.lst (.cons (.tup (.cons (.cst (.str "netlist")) (.cons (.isx (.var 0) [(.own "BadNetlist")] false) .nil))) (.cons (.tup (.cons (.cst (.str "clock")) (.cons (.isx (.var 0) [(.own "BadClock")] false) .nil))) .nil))), .set 1 false (.bin .Add (.var 1) (.lst (.cons (.tup (.cons (.cst (.str "path")) (.cons (.isx (.var 0) [(.own "BadPath")] false) .nil))) (.cons (.tup (.cons (.cst (.str "filling")) (.cons (.isx (.var 0) [(.own "BadFilling")] false) .nil))) .nil)))), .set 1 false (.bin .Add (.var 1) (.lst (.cons (.tup (.cons (.cst (.str "check")) (.cons (.isx (.var 0) [(.own "BadCheck")] false) .nil))) (.cons (.tup (.cons (.cst (.str "paper")) (.cons (.isx (.var 0) [(.own "BadPaper")] false) .nil))) .nil)))), .set 1 false (.bin .Add (.var 1) (.lst (.cons (.tup (.cons (.cst (.str "edit")) (.cons (.isx (.var 0) [(.own "BadEdit")] false) .nil))) (.cons (.tup (.cons (.cst (.str "text")) (.cons (.isx (.var 0) [(.own "BadText")] false) .nil))) .nil)))), .set 1 false (.bin .Add (.var 1) (.lst (.cons (.tup (.cons (.cst (.str "line")) (.cons (.isx (.var 0) [(.own "BadLine")] false) .nil))) (.cons (.tup (.cons (.cst (.str "no signal")) (.cons (.isx (.var 0) [(.own "NoSignal")] false) .nil))) .nil)))), .set 1 false (.bin .Add (.var 1) (.lst (.cons (.tup (.cons (.cst (.str "no end")) (.cons (.isx (.var 0) [(.own "NoEnd")] false) .nil))) (.cons (.tup (.cons (.cst (.str "no corner")) (.cons (.isx (.var 0) [(.own "NoCorner")] false) .nil))) .nil)))), .set 1 false (.bin .Add (.var 1) (.lst (.cons (.tup (.cons (.cst (.str "busy")) (.cons (.isx (.var 0) [(.own "Busy")] false) .nil))) (.cons (.tup (.cons (.cst (.str "nothing")) (.cons (.isx (.var 0) [(.own "NothingDone")] false) .nil))) .nil)))), .set 1 false (.bin .Add (.var 1) (.lst (.cons (.tup (.cons (.cst (.str "many")) (.cons (.isx (.var 0) [(.own "TooMany")] false) .nil))) .nil))), .ret (.lcU (.var 2) [2, 3] (.seq (.var 1)) (.ex (.val (.var 3))))]
theorem sc_law_words : FnScope n_law_words ["error"] (defScope s_law_words) := ⟨rfl, rfl, rfl, by decide +kernel, rfl, by decide +kernel, by decide +kernel⟩
theorem ck_law_words : cMs bi (defScope s_law_words) n_law_words b_law_words (defBody s_law_words) = true := by decide +kernel
abbrev s_law_families : Stmt := top 24
def n_law_families : List Str := ["error", "found", "called", "is_so"]
def b_law_families : List Sm := [.set 1 false (.lst (.cons (.tup (.cons (.cst (.str "timing")) (.cons (.isx (.var 0) [(.own "TimingError")] false) .nil))) (.cons (.tup (.cons (.cst (.str "value")) (.cons (.isx (.var 0) [(.blt .value)] false) .nil))) .nil))), .set 1 false (.bin .Add (.var 1) (.lst (.cons (.tup (.cons (.cst (.str "there")) (.cons (.isx (.var 0) [(.own "NotThere")] false) .nil))) (.cons (.tup (.cons (.cst (.str "lookup")) (.cons (.isx (.var 0) [(.blt .lookup)] false) .nil))) .nil)))), .set 1 false (.bin .Add (.var 1) (.lst (.cons (.tup (.cons (.cst (.str "refused")) (.cons (.isx (.var 0) [(.own "Refused")] false) .nil))) (.cons (.tup (.cons (.cst (.str "runtime")) (.cons (.isx (.var 0) [(.blt .runtime)] false) .nil))) .nil)))), .set 1 false (.bin .Add (.var 1) (.lst (.cons (.tup (.cons (.cst (.str "key")) (.cons (.isx (.var 0) [(.blt .key)] false) .nil))) (.cons (.tup (.cons (.cst (.str "index")) (.cons (.isx (.var 0) [(.blt .index)] false) .nil))) .nil)))), .set 1 false (.bin .Add (.var 1) (.lst (.cons (.tup (.cons (.cst (.str "not done")) (.cons (.isx (.var 0) [(.blt .notimpl)] false) .nil))) .nil))), .ret (.lcU (.var 2) [2, 3] (.seq (.var 1)) (.ex (.val (.var 3))))]
theorem sc_law_families : FnScope n_law_families ["error"] (defScope s_law_families) := ⟨rfl, rfl, rfl, by decide +kernel, rfl, by decide +kernel, by decide +kernel⟩
theorem ck_law_families : cMs bi (defScope s_law_families) n_law_families b_law_families (defBody s_law_families) = true := by decide +kernel
abbrev s_law_made : Stmt := top 25
def n_law_made : List Str := ["amount", "spot", "what", "some"]
def b_law_made : List Sm := [.set 3 false (.lst (.cons (.mkx "BadNetlist" (.cons (.tup (.cons (.var 0) (.cons (.var 1) .nil))) .nil) [] .nil []) (.cons (.mkx "BadClock" .nil [] .nil []) (.cons (.mkx "BadPath" .nil [] .nil []) (.cons (.mkx "BadFilling" .nil [] .nil []) (.cons (.mkx "BadCheck" .nil [] .nil []) (.cons (.mkx "BadPaper" (.cons (.tup (.cons (.var 1) .nil)) .nil) [] .nil []) .nil))))))), .set 3 false (.bin .Add (.var 3) (.lst (.cons (.mkx "BadEdit" .nil [] .nil []) (.cons (.mkx "BadText" (.cons (.var 0) (.cons (.var 1) .nil)) [] .nil []) (.cons (.mkx "BadLine" .nil [] .nil []) .nil))))), .ret (.bin .Add (.var 3) (.lst (.cons (.mkx "NoSignal" (.cons (.var 2) .nil) [] .nil []) (.cons (.mkx "NoEnd" (.cons (.var 2) .nil) [] .nil []) (.cons (.mkx "NoCorner" (.cons (.var 1) .nil) [] .nil []) (.cons (.mkx "Busy" .nil [] .nil []) (.cons (.mkx "NothingDone" .nil [] .nil []) (.cons (.mkx "TooMany" (.cons (.var 0) .nil) [] .nil []) .nil))))))))]
theorem sc_law_made : FnScope n_law_made ["amount", "spot", "what"] (defScope s_law_made) := ⟨rfl, rfl, rfl, by decide +kernel, rfl, by decide +kernel, by decide +kernel⟩
theorem ck_law_made : cMs bi (defScope s_law_made) n_law_made b_law_made (defBody s_law_made) = true := by decide +kernel
abbrev s_law_fields : Stmt := top 26
def n_law_fields : List Str := ["some", "found"]
def b_law_fields : List Sm := [.set 1 false (.lst (.cons (.fld (.idx (.var 0) (.cst (.int 0))) "place") (.cons (.fld (.idx (.var 0) (.cst (.int 5))) "place") (.cons (.fld (.idx (.var 0) (.cst (.int 7))) "line") (.cons (.fld (.idx (.var 0) (.cst (.int 7))) "word") .nil))))), .ret (.bin .Add (.var 1) (.lst (.cons (.fld (.idx (.var 0) (.cst (.int 9))) "name") (.cons (.fld (.idx (.var 0) (.cst (.int 10))) "name") (.cons (.fld (.idx (.var 0) (.cst (.int 11))) "number") (.cons (.fld (.idx (.var 0) (.cst (.int 14))) "most") .nil))))))]
theorem sc_law_fields : FnScope n_law_fields ["some"] (defScope s_law_fields) := ⟨rfl, rfl, rfl, by decide +kernel, rfl, by decide +kernel, by decide +kernel⟩
theorem ck_law_fields : cMs bi (defScope s_law_fields) n_law_fields b_law_fields (defBody s_law_fields) = true := by decide +kernel
abbrev s_law_by_names : Stmt := top 27
def n_law_by_names : List Str := ["amount", "spot", "what", "some", "found", "texts", "one", "there"]
def b_law_by_names : List Sm := [.set 3 false (.lst (.cons (.mkx "BadNetlist" .nil ["place"] (.cons (.tup (.cons (.var 0) .nil)) .nil) [.inl 0]) (.cons (.mkx "BadPaper" .nil ["place"] (.cons (.var 1) .nil) [.inl 0]) .nil))), .set 4 false (.lst (.cons (.fld (.idx (.var 3) (.cst (.int 0))) "place") (.cons (.fld (.idx (.var 3) (.cst (.int 1))) "place") .nil))), .set 5 false (.lst (.cons (.mkx "BadText" .nil ["word", "line"] (.cons (.var 1) (.cons (.var 0) .nil)) [.inl 1, .inl 0]) (.cons (.mkx "BadText" (.cons (.var 0) .nil) [] .nil [.inr "BadText.word"]) (.cons (.mkx "BadText" .nil [] .nil [.inr "BadText.line", .inr "BadText.word"]) (.cons (.mkx "BadText" .nil ["word"] (.cons (.var 0) .nil) [.inr "BadText.line", .inl 0]) .nil))))), .for_ 6 (.seq (.var 5)) [.set 4 false (.bin .Add (.var 4) (.lst (.cons (.tup (.cons (.fld (.var 6) "line") (.cons (.fld (.var 6) "word") .nil))) .nil)))], .set 7 false (.lst (.cons (.mkx "NoSignal" .nil ["name"] (.cons (.var 2) .nil) [.inl 0]) (.cons (.mkx "NoEnd" .nil ["name"] (.cons (.var 0) .nil) [.inl 0]) (.cons (.mkx "TooMany" .nil ["most"] (.cons (.var 1) .nil) [.inl 0]) .nil)))), .ret (.bin .Add (.var 4) (.lst (.cons (.fld (.idx (.var 7) (.cst (.int 0))) "name") (.cons (.fld (.idx (.var 7) (.cst (.int 1))) "name") (.cons (.fld (.idx (.var 7) (.cst (.int 2))) "most") .nil)))))]
theorem sc_law_by_names : FnScope n_law_by_names ["amount", "spot", "what"] (defScope s_law_by_names) := ⟨rfl, rfl, rfl, by decide +kernel, rfl, by decide +kernel, by decide +kernel⟩
theorem ck_law_by_names : cMs bi (defScope s_law_by_names) n_law_by_names b_law_by_names (defBody s_law_by_names) = true := by decide +kernel
abbrev s_law_are_caught : Stmt := top 28
def n_law_are_caught : List Str := ["amount", "spot", "what", "found", "e"]
def b_law_are_caught : List Sm := [.set 3 true (.lst .nil), .trk 4 ["BadText"] false (.app 3 ["line", "word"] true) [.rai "BadText" (.cons (.var 0) (.cons (.var 1) .nil))], .trk 4 ["TimingError"] false (.app 3 ["place"] false) [.rai "BadNetlist" (.cons (.tup (.cons (.var 1) (.cons (.var 0) .nil))) .nil)], .trk 4 ["NotThere"] false (.app 3 ["name"] false) [.rai "NoEnd" (.cons (.var 2) .nil)], .trk 4 ["TimingError", "Refused"] true (.app 3 ["most"] false) [.rai "TooMany" (.cons (.var 0) .nil)], .ret (.cmp .Eq (.blt .repr (.cons (.var 3) .nil)) (.blt .repr (.cons (.lst (.cons (.tup (.cons (.var 0) (.cons (.var 1) .nil))) (.cons (.tup (.cons (.var 1) (.cons (.var 0) .nil))) (.cons (.var 2) (.cons (.var 0) .nil))))) .nil)))]
theorem sc_law_are_caught : FnScope n_law_are_caught ["amount", "spot", "what"] (defScope s_law_are_caught) := ⟨rfl, rfl, rfl, by decide +kernel, rfl, by decide +kernel, by decide +kernel⟩
theorem ck_law_are_caught : cMs bi (defScope s_law_are_caught) n_law_are_caught b_law_are_caught (defBody s_law_are_caught) = true := by decide +kernel
abbrev s_law : Stmt := top 29
def n_law : List Str := ["script", "draw", "due", "k", "amount", "spot", "what", "some", "at", "one", "family", "told"]
def b_law : List Sm := [.set 1 true (.call "_law_begin" (.cons (.var 0) .nil)), .set 2 false (.lst (.cons (.cst (.str "netlist")) (.cons (.cst (.str "clock")) (.cons (.cst (.str "path")) (.cons (.cst (.str "filling")) (.cons (.cst (.str "check")) (.cons (.cst (.str "paper")) (.cons (.cst (.str "edit")) (.cons (.cst (.str "text")) (.cons (.cst (.str "line")) .nil)))))))))), .set 2 false (.bin .Add (.var 2) (.lst (.cons (.cst (.str "no signal")) (.cons (.cst (.str "no end")) (.cons (.cst (.str "no corner")) (.cons (.cst (.str "busy")) (.cons (.cst (.str "nothing")) (.cons (.cst (.str "many")) .nil)))))))), .for_ 3 (.rng (.bin .Add (.blt .min (.cons (.cst (.int 40)) (.cons (.blt .len (.cons (.var 0) .nil)) .nil))) (.cst (.int 1)))) [.par 4 5 false false (.call "_law_next" (.cons (.var 1) (.cons (.bin .Pow (.cst (.int 10)) (.cst (.int 9))) .nil))) (.call "_law_next" (.cons (.var 1) (.cons (.cst (.int 40)) .nil))), .set 6 false (.idx (.lst (.cons (.cst (.str "name")) (.cons (.cst (.str "a")) (.cons (.cst (.str "")) (.cons (.cst (.str "longer")) .nil))))) (.call "_law_next" (.cons (.var 1) (.cons (.cst (.int 4)) .nil)))), .set 7 false (.call "_law_made" (.cons (.var 4) (.cons (.var 5) (.cons (.var 6) .nil)))), .forU [8, 9] (.enu (.var 7)) [.set 10 false (.idx (.lst (.cons (.lst (.cons (.cst (.str "timing")) (.cons (.cst (.str "value")) .nil))) (.cons (.lst (.cons (.cst (.str "there")) (.cons (.cst (.str "lookup")) .nil))) (.cons (.lst (.cons (.cst (.str "refused")) (.cons (.cst (.str "runtime")) .nil))) .nil)))) (.bin .Add (.bty1 .int (.cons (.cmp .Gt (.var 8) (.cst (.int 8))) .nil)) (.bty1 .int (.cons (.cmp .Gt (.var 8) (.cst (.int 11))) .nil)))), .ife (.or (.val (.cmp .NotEq (.call "_law_words" (.cons (.var 9) .nil)) (.lst (.cons (.idx (.var 2) (.var 8)) .nil)))) (.val (.cmp .NotEq (.call "_law_families" (.cons (.var 9) .nil)) (.var 10)))) [.ret (.cst (.bl false))] []], .set 11 false (.lst (.cons (.tup (.cons (.var 4) (.cons (.var 5) .nil))) (.cons (.tup (.cons (.var 5) .nil)) (.cons (.var 4) (.cons (.var 5) (.cons (.var 6) (.cons (.var 6) (.cons (.var 5) (.cons (.var 4) .nil))))))))), .ife (.val (.cmp .NotEq (.blt .repr (.cons (.call "_law_fields" (.cons (.var 7) .nil)) .nil)) (.blt .repr (.cons (.var 11) .nil)))) [.ret (.cst (.bl false))] [], .set 11 false (.lst (.cons (.tup (.cons (.var 4) .nil)) (.cons (.var 5) (.cons (.tup (.cons (.var 4) (.cons (.var 5) .nil))) (.cons (.tup (.cons (.var 4) (.cons (.cst (.int 0)) .nil))) (.cons (.tup (.cons (.cst (.int 0)) (.cons (.cst (.int 0)) .nil))) (.cons (.tup (.cons (.cst (.int 0)) (.cons (.var 4) .nil))) (.cons (.var 6) (.cons (.var 4) (.cons (.var 5) .nil)))))))))), .ife (.val (.cmp .NotEq (.blt .repr (.cons (.call "_law_by_names" (.cons (.var 4) (.cons (.var 5) (.cons (.var 6) .nil)))) .nil)) (.blt .repr (.cons (.var 11) .nil)))) [.ret (.cst (.bl false))] [], .ife (.not (.val (.call "_law_are_caught" (.cons (.var 4) (.cons (.var 5) (.cons (.var 6) .nil)))))) [.ret (.cst (.bl false))] []], .ret (.cst (.bl true))]
theorem sc_law : FnScope n_law ["script"] (defScope s_law) := ⟨rfl, rfl, rfl, by decide +kernel, rfl, by decide +kernel, by decide +kernel⟩
theorem ck_law : cMs bi (defScope s_law) n_law b_law (defBody s_law) = true := by decide +kernel
end Vg

set_option Elab.async false
set_option linter.all false
set_option maxRecDepth 100000
namespace Vg
open PySem L2
def c_mixed : Ct := ct false false (α := Int × Int) (β := Int) (fun a => [.int a.1, .int a.2]) (fun a => 0 ≤ a.2 ∧ a.2 < 2 ^ 40) (fun _ _ => True) (fun _ r => (.int r, .non))
theorem ok_mixed {C : Cts} : BodyOk C c_mixed n_law_mixed.length 2 b_law_mixed := by
  refine ct_ok (fun _ => rfl) ?_
  rintro ⟨x, k⟩ ⟨h0, h1⟩
  dsimp only at h0 h1 ⊢
  (refine Exists.intro _ (Exists.intro _ (And.intro rfl (And.intro rfl (And.intro (by walk_at "vside") (Exists.intro _ (Exists.intro _ (And.intro rfl (And.intro rfl (And.intro (by walk_at "vside") (Exists.intro _ (Exists.intro _ (And.intro rfl (And.intro rfl (And.intro (by walk_at "vside") (Exists.intro _ (Exists.intro _ (And.intro rfl (And.intro rfl (Exists.intro _ (Exists.intro _ (And.intro rfl (And.intro rfl (And.intro (by walk_at "vside") (Exists.intro _ (Exists.intro _ (And.intro rfl (And.intro rfl (Exists.intro _ (Exists.intro _ (And.intro rfl (And.intro rfl (Exists.intro _ (Exists.intro _ (And.intro rfl (And.intro rfl (And.intro (by walk_at "vside") (Exists.intro _ (And.intro rfl (Exists.intro _ (Exists.intro _ (And.intro rfl (And.intro rfl (And.intro (by walk_at "vside") (Exists.intro _ (Exists.intro _ (And.intro rfl (And.intro rfl (And.intro (by walk_at "vside") (Exists.intro _ (Exists.intro _ (And.intro rfl (And.intro rfl (And.intro (by walk_at "vside") (Exists.intro _ (Exists.intro _ (And.intro rfl (And.intro rfl (And.intro (by walk_at "vside") (Exists.intro _ (And.intro rfl (Exists.intro _ (Exists.intro _ (And.intro rfl (And.intro rfl (And.intro (by walk_at "vside") (Exists.intro _ (Exists.intro _ (And.intro rfl (And.intro rfl (And.intro (by walk_at "vside") (Exists.intro _ (Exists.intro _ (And.intro rfl (And.intro rfl (Exists.intro _ (Exists.intro _ (And.intro rfl (And.intro rfl (And.intro (by walk_at "vside") (Exists.intro _ (Exists.intro _ (And.intro rfl (And.intro rfl (And.intro (by walk_at "vside") (Exists.intro _ (Exists.intro _ (And.intro rfl (And.intro rfl (And.intro (by walk_at "vside") (Exists.intro _ (Exists.intro _ (And.intro rfl (And.intro rfl ((?u13c2n57678g1 : Vg.Ans _ _ _ (D.int ((x % 1000000007 + 7919 * k * k + 31 * k + 7) % 2147483647 * ((x % 1000000007 + 7919 * k * k + 31 * k + 7) % 2147483647) % 2147483647 * ((x % 1000000007 + 7919 * k * k + 31 * k + 7) % 2147483647) % 2147483629 * (69621 + 2 * (k % 1000)) % 2147483647 / 7)) (D.non)))))))))))))))))))))))))))))))))))))))))))))))))))))))))))))))))))))))))))))))))))))))))))))))))
  exact ⟨_, trivial, rfl⟩
def c_begin : Ct := ct false true (α := List Int) (β := D) (fun a => [.scr a]) (fun a => a.length < 900) (fun _ d => Dr 0 d) (fun _ d => (d, .non))
theorem ok_begin {C : Cts} : BodyOk C c_begin n_law_begin.length 1 b_law_begin := by
  refine ct_ok (fun _ => rfl) ?_
  intro ns h
  (refine Exists.intro _ (Exists.intro _ (And.intro rfl (And.intro (by walk_at "vside") (Exists.intro _ (Exists.intro _ (And.intro rfl (And.intro rfl (And.intro (by walk_at "vside") (Exists.intro _ (Exists.intro _ (And.intro rfl (Exists.intro _ (Exists.intro _ (And.intro rfl (Exists.intro _ (Exists.intro _ (And.intro rfl (Exists.intro _ (Exists.intro _ (And.intro rfl (And.intro (by walk_at "vside") (And.intro (by walk_at "vside") (Exists.intro _ (Exists.intro _ (And.intro rfl (And.intro rfl ((?u19c2n86248g1 : Vg.Ans _ _ _ (D.dct [(Sum.inr (Str.ofString "cells"), D.lst (List.map D.int ns ++ [D.int 0])), (Sum.inr (Str.ofString "at"), D.int 0), (Sum.inr (Str.ofString "left"), D.int 0), (Sum.inr (Str.ofString "used"), D.int 0)]) (D.non))))))))))))))))))))))))))))))
  exact ⟨_, ⟨ns ++ [0], 0, 0, 0, by simp, by simp, by simp; omega, by omega, by omega, by omega, by omega⟩, rfl⟩
def c_next : Ct := cDr Int 1 (fun m => [.int m]) (fun m => 0 < m ∧ m < 2 ^ 30) (fun m r => 0 ≤ r ∧ r < m) .int
theorem ok_next {C : Cts} (h1 : C.fn "_law_mixed" = some c_mixed) : BodyOk C c_next n_law_next.length 2 b_law_next := by
  refine cDr_ok (fun _ => rfl) ?_
  rintro n d m ⟨cs, a, l, u, rfl, e1, e2, a1, a2, u1, u2⟩ p1 ⟨p2, p3⟩
  have lp : 0 < cs.length := List.length_pos_iff.mpr e1
  (refine Exists.intro _ (Exists.intro _ (And.intro rfl (And.intro rfl (Exists.intro _ (Exists.intro _ (And.intro rfl (And.intro rfl (Exists.intro _ (Exists.intro _ (And.intro rfl (And.intro rfl (Exists.intro _ (And.intro rfl (And.intro (fun h0 => have t1 := (of_decide_eq_true h0); Exists.intro _ (Exists.intro _ (And.intro rfl (And.intro rfl (Exists.intro _ (Exists.intro _ (And.intro rfl (And.intro rfl (Exists.intro _ (Exists.intro _ (And.intro rfl (And.intro rfl (And.intro (by walk_at "vside") (Exists.intro _ (And.intro rfl (Exists.intro _ (Exists.intro _ (And.intro rfl (And.intro rfl (Exists.intro _ (Exists.intro _ (And.intro rfl (And.intro rfl (Exists.intro _ (Exists.intro _ (And.intro rfl (And.intro rfl (And.intro (by walk_at "vside") (Exists.intro _ (Exists.intro _ (And.intro rfl (Exists.intro _ (And.intro rfl (Exists.intro _ (Exists.intro _ (And.intro rfl (And.intro rfl (Exists.intro _ (And.intro rfl (And.intro (by walk_at "vside") (Exists.intro _ (Exists.intro _ (And.intro rfl (And.intro rfl ((?u26c2n90308g1 : Vg.AnsDr _ _ _ _ _ (D.int (l % m)) (D.dct [(Sum.inr (Str.ofString "cells"), D.lst (List.map D.int cs)), (Sum.inr (Str.ofString "at"), D.int a), ((Sum.inr (Str.ofString "left"), D.int l).fst, D.int (l / m)), (Sum.inr (Str.ofString "used"), D.int u)]))))))))))))))))))))))))))))))))))))))))))))))) (fun h0 => have t1 := (of_decide_eq_false h0); Exists.intro _ (Exists.intro _ (And.intro rfl (And.intro rfl (Exists.intro _ (Exists.intro _ (And.intro rfl (And.intro rfl (Exists.intro _ (And.intro rfl (Exists.intro _ (Exists.intro _ (And.intro rfl (And.intro rfl (Exists.intro _ (Exists.intro _ (And.intro rfl (And.intro rfl (Exists.intro _ (And.intro rfl (Exists.intro _ (Exists.intro _ (And.intro rfl (And.intro rfl (And.intro (by walk_at "vside") (Exists.intro _ (Exists.intro _ (And.intro rfl (And.intro rfl ((?u26c2n90308g2 : Vg.idxD (D.lst (List.map D.int cs)) (D.int (a % (↑(List.map D.int cs).length : Int))) _))))))))))))))))))))))))))))))))))))))))))))))
  · exact ⟨_, ⟨Int.emod_nonneg _ (Int.ne_of_gt p2), Int.emod_lt_of_pos _ p2⟩, rfl, ⟨cs, a, l / m, u, rfl, e1, e2, a1, by omega, u1, by omega⟩⟩
  · refine idx_lst (Int.emod_nonneg _ (by simp; omega)) (Int.emod_lt_of_pos _ (by simp; omega)) fun d hd => ?_
    obtain ⟨c, _, rfl⟩ := List.mem_map.mp hd
    have fin : ∀ (z : Int) (l' u' : Int), 0 ≤ u' → u' ≤ n + 1 → AnsDr 1 (fun (m r : Int) => 0 ≤ r ∧ r < m) .int n m (.int (z % m)) (.dct [(.inr "cells", .lst (cs.map .int)), (.inr "at", .int (a + 1)), (.inr "left", .int l'), (.inr "used", .int u')]) := fun z l' u' q1 q2 =>
      ⟨_, ⟨Int.emod_nonneg _ (Int.ne_of_gt p2), Int.emod_lt_of_pos _ p2⟩, rfl, ⟨cs, a + 1, l', u', rfl, e1, e2, by omega, by omega, q1, by omega⟩⟩
    (refine Exists.intro _ (And.intro rfl (Exists.intro _ (Exists.intro _ (And.intro rfl (And.intro rfl (Exists.intro _ (Exists.intro _ (And.intro rfl (And.intro rfl (Exists.intro _ (Exists.intro _ (And.intro rfl (And.intro rfl (Exists.intro _ (Exists.intro _ (And.intro rfl (Exists.intro _ (And.intro rfl (Exists.intro _ (Exists.intro _ (And.intro rfl (And.intro rfl (Exists.intro _ (And.intro rfl (And.intro (by walk_at "vside") (Exists.intro _ (Exists.intro _ (And.intro rfl (And.intro rfl (And.intro (by walk_at "vside") (Exists.intro _ (Exists.intro _ (And.intro rfl (And.intro rfl (Exists.intro _ (And.intro rfl (And.intro (fun h0 => have t2 := (of_decide_eq_true h0); Exists.intro _ (Exists.intro _ (And.intro rfl (And.intro rfl (Exists.intro _ (Exists.intro _ (And.intro rfl (And.intro rfl (Exists.intro _ (And.intro rfl (Exists.intro _ (Exists.intro _ (And.intro rfl (And.intro rfl (Exists.intro _ (And.intro rfl (And.intro (fun h0 => have t3 := (of_decide_eq_true h0); Exists.intro _ (Exists.intro _ (And.intro rfl (And.intro rfl (And.intro (by walk_at "vside") (Exists.intro _ (Exists.intro _ (And.intro rfl (Exists.intro _ (And.intro rfl (Exists.intro _ (Exists.intro _ (And.intro rfl (And.intro rfl (Exists.intro _ (And.intro rfl (And.intro (by walk_at "vside") (Exists.intro _ (Exists.intro _ (And.intro rfl (And.intro rfl (And.intro (by walk_at "vside") (Exists.intro _ (Exists.intro _ (And.intro rfl (And.intro rfl ((?u32c4n72627g1 : Vg.AnsDr _ _ _ _ _ (D.int (c % m)) (D.dct [(Sum.inr (Str.ofString "cells"), D.lst (List.map D.int cs)), ((Sum.inr (Str.ofString "at"), D.int a).fst, D.int (a + 1)), ((Sum.inr (Str.ofString "left"), D.int l).fst, D.int (c / m)), (Sum.inr (Str.ofString "used"), D.int u)]))))))))))))))))))))))))))))) (fun h0 => have t3 := (of_decide_eq_false h0); Exists.intro _ (Exists.intro _ (And.intro rfl (And.intro rfl (Exists.intro _ (Exists.intro _ (And.intro rfl (And.intro rfl (Exists.intro _ (Exists.intro _ (And.intro rfl (And.intro rfl (Exists.intro _ (Exists.intro _ (And.intro rfl (Exists.intro _ (And.intro rfl (Exists.intro _ (Exists.intro _ (And.intro rfl (And.intro rfl (Exists.intro _ (And.intro rfl (And.intro (by walk_at "vside") (Exists.intro _ (And.intro h1 (Exists.intro _ (And.intro h1 (Exists.intro _ (Exists.intro _ (And.intro rfl (And.intro rfl (Exists.intro _ (Exists.intro _ (And.intro rfl (And.intro rfl ((?u32c4n72627g2 : Vg.callD (c_mixed) ([RV.v (D.int c), RV.v (D.int (a + 1))]) ([Slot.io (D.dct [(Sum.inr (Str.ofString "cells"), D.lst (List.map D.int cs)), ((Sum.inr (Str.ofString "at"), D.int a).fst, D.int (a + 1)), (Sum.inr (Str.ofString "left"), D.int l), ((Sum.inr (Str.ofString "used"), D.int u).fst, D.int (u + 1))]), Slot.val (D.int m), Slot.un, Slot.val (D.lst (List.map D.int cs)), Slot.val (D.int c)]) _ _))))))))))))))))))))))))))))))))))))))))))))))))))))))) (fun h0 => have t2 := (of_decide_eq_false h0); And.intro (fun h0 => Bool.noConfusion h0) (fun _ => Exists.intro _ (Exists.intro _ (And.intro rfl (And.intro rfl (Exists.intro _ (Exists.intro _ (And.intro rfl (And.intro rfl (Exists.intro _ (Exists.intro _ (And.intro rfl (And.intro rfl (Exists.intro _ (Exists.intro _ (And.intro rfl (Exists.intro _ (And.intro rfl (Exists.intro _ (Exists.intro _ (And.intro rfl (And.intro rfl (Exists.intro _ (And.intro rfl (And.intro (by walk_at "vside") (Exists.intro _ (And.intro h1 (Exists.intro _ (And.intro h1 (Exists.intro _ (Exists.intro _ (And.intro rfl (And.intro rfl (Exists.intro _ (Exists.intro _ (And.intro rfl (And.intro rfl ((?u32c4n72627g3 : Vg.callD (c_mixed) ([RV.v (D.int c), RV.v (D.int (a + 1))]) ([Slot.io (D.dct [(Sum.inr (Str.ofString "cells"), D.lst (List.map D.int cs)), ((Sum.inr (Str.ofString "at"), D.int a).fst, D.int (a + 1)), (Sum.inr (Str.ofString "left"), D.int l), ((Sum.inr (Str.ofString "used"), D.int u).fst, D.int (u + 1))]), Slot.val (D.int m), Slot.un, Slot.val (D.lst (List.map D.int cs)), Slot.val (D.int c)]) _ _)))))))))))))))))))))))))))))))))))))))))))))))))))))))))))))))))))))))))))))
    · exact fin _ _ _ u1 (by omega)
    · refine call0 (c, a + 1) rfl rfl ⟨by dsimp only; omega, by dsimp only; omega⟩ fun r _ => ?_
      (refine Exists.intro _ (Exists.intro _ (And.intro rfl (And.intro rfl (Exists.intro _ (Exists.intro _ (And.intro rfl (And.intro rfl ((?u35c6n94010g1 : Vg.callD (c_mixed) ([RV.v (D.int r), RV.v (D.int (u + 1))]) ([Slot.io (D.dct [(Sum.inr (Str.ofString "cells"), D.lst (List.map D.int cs)), ((Sum.inr (Str.ofString "at"), D.int a).fst, D.int (a + 1)), (Sum.inr (Str.ofString "left"), D.int l), ((Sum.inr (Str.ofString "used"), D.int u).fst, D.int (u + 1))]), Slot.val (D.int m), Slot.un, Slot.val (D.lst (List.map D.int cs)), Slot.val (D.int c)]) _ _))))))))))
      refine call0 (r, u + 1) rfl rfl ⟨by dsimp only; omega, by dsimp only; omega⟩ fun r2 _ => ?_
      (refine Exists.intro _ (Exists.intro _ (And.intro rfl (And.intro rfl (And.intro (by walk_at "vside") (Exists.intro _ (Exists.intro _ (And.intro rfl (And.intro rfl ((?u37c6n458g1 : Vg.AnsDr _ _ _ _ _ (D.int (r2 % m)) (D.dct [(Sum.inr (Str.ofString "cells"), D.lst (List.map D.int cs)), ((Sum.inr (Str.ofString "at"), D.int a).fst, D.int (a + 1)), (Sum.inr (Str.ofString "left"), D.int l), ((Sum.inr (Str.ofString "used"), D.int u).fst, D.int (u + 1))]))))))))))))
      exact fin _ _ _ (by omega) (by omega)
    · refine call0 (c, a + 1) rfl rfl ⟨by dsimp only; omega, by dsimp only; omega⟩ fun r _ => ?_
      (refine Exists.intro _ (Exists.intro _ (And.intro rfl (And.intro rfl (Exists.intro _ (Exists.intro _ (And.intro rfl (And.intro rfl ((?u40c6n46145g1 : Vg.callD (c_mixed) ([RV.v (D.int r), RV.v (D.int (u + 1))]) ([Slot.io (D.dct [(Sum.inr (Str.ofString "cells"), D.lst (List.map D.int cs)), ((Sum.inr (Str.ofString "at"), D.int a).fst, D.int (a + 1)), (Sum.inr (Str.ofString "left"), D.int l), ((Sum.inr (Str.ofString "used"), D.int u).fst, D.int (u + 1))]), Slot.val (D.int m), Slot.un, Slot.val (D.lst (List.map D.int cs)), Slot.val (D.int c)]) _ _))))))))))
      refine call0 (r, u + 1) rfl rfl ⟨by dsimp only; omega, by dsimp only; omega⟩ fun r2 _ => ?_
      (refine Exists.intro _ (Exists.intro _ (And.intro rfl (And.intro rfl (And.intro (by walk_at "vside") (Exists.intro _ (Exists.intro _ (And.intro rfl (And.intro rfl ((?u42c6n65688g1 : Vg.AnsDr _ _ _ _ _ (D.int (r2 % m)) (D.dct [(Sum.inr (Str.ofString "cells"), D.lst (List.map D.int cs)), ((Sum.inr (Str.ofString "at"), D.int a).fst, D.int (a + 1)), (Sum.inr (Str.ofString "left"), D.int l), ((Sum.inr (Str.ofString "used"), D.int u).fst, D.int (u + 1))]))))))))))))
      exact fin _ _ _ (by omega) (by omega)
end Vg

set_option Elab.async false
set_option linter.all false
set_option maxRecDepth 100000
set_option maxHeartbeats 1000000
namespace Vg
open PySem L2 TL
theorem callNext {n : Nat} {d : D} {m : Int} {i : Nat} {en : Ee} {Q : KQ} {X : KX} (h : Dr n d) (hn : n + 1 ≤ 2 ^ 38) (o : ownD en i = some d) (h0 : 0 < m) (h1 : m < 2 ^ 30) (k : ∀ r d', 0 ≤ r → r < m → Dr (n + 1) d' → Q (.v (.int r)) (reOwn en i d')) : callD c_next [.o i, .v (.int m)] en Q X :=
  callDr m h hn rfl o rfl ⟨h0, h1⟩ fun b d' q => k b d' q.1 q.2
def xkOf : Str → Option (List Str) := seek xkT
def domT : List Cn := upT.map (fun q => .own q.1) ++ [.blt .value, .blt .lookup, .blt .runtime, .blt .key, .blt .index, .blt .notimpl]
def upB (c : Str) (d : Cn) : Bool := decide (d ∈ (seek upT c).getD [])
def subOf : Str → Cn → Option Bool := subG xkT upT domT
theorem sub1 {C : Cts} (h : C.sub = subOf) {c : Str} (hc : (xkOf c).isSome = true) {d : Cn} (hd : d ∈ domT) : subs C c [d] = some (upB c d) := by
  unfold subs
  rw [h]
  have e : subOf c d = some (upB c d) := by
    unfold subOf subG
    rw [if_pos ⟨hc, hd⟩]
    rfl
  rw [e]
  unfold subs
  simp
def cls15 : List Str := ["BadNetlist", "BadClock", "BadPath", "BadFilling", "BadCheck", "BadPaper", "BadEdit", "BadText", "BadLine", "NoSignal", "NoEnd", "NoCorner", "Busy", "NothingDone", "TooMany"]
def ws15 (c : Str) : List (Str × Bool) := [("netlist", upB c (.own "BadNetlist")), ("clock", upB c (.own "BadClock")), ("path", upB c (.own "BadPath")), ("filling", upB c (.own "BadFilling")), ("check", upB c (.own "BadCheck")), ("paper", upB c (.own "BadPaper")), ("edit", upB c (.own "BadEdit")), ("text", upB c (.own "BadText")), ("line", upB c (.own "BadLine")), ("no signal", upB c (.own "NoSignal")), ("no end", upB c (.own "NoEnd")), ("no corner", upB c (.own "NoCorner")), ("busy", upB c (.own "Busy")), ("nothing", upB c (.own "NothingDone")), ("many", upB c (.own "TooMany"))]
def fs9 (c : Str) : List (Str × Bool) := [("timing", upB c (.own "TimingError")), ("value", upB c (.blt .value)), ("there", upB c (.own "NotThere")), ("lookup", upB c (.blt .lookup)), ("refused", upB c (.own "Refused")), ("runtime", upB c (.blt .runtime)), ("key", upB c (.blt .key)), ("index", upB c (.blt .index)), ("not done", upB c (.blt .notimpl))]
def pairD (p : Str × Bool) : D := .tup [.str p.1, .bl p.2]
def toldOf (l : List (Str × Bool)) : List D := (l.filter (·.2)).map fun p => .str p.1
/-- those that are told so -/
theorem goL_told {C : Cts} {i j : Nat} {en : Ee} {r : RV} {K : List D → Ee → Prop} (hij : i ≠ j) (hi : ∃ a, en[i]? = some a ∧ uv a) (hj : ∃ a, en[j]? = some a ∧ uv a) (hr : ∀ a b : Vg.Slot, uv a → uv b → drf ((en.set j b).set i a) r = drf en r)
    (l : List (Str × Bool)) (h : K (toldOf l) en) :
    goL (fun d en' K => ∃ olds xs, freeS en' [i, j] = some olds ∧ d = .tup xs ∧ xs.length = [i, j].length ∧
      wC C (.ex (.val (.var j))) (putS [i, j] xs en') (fun k e2 => (k = true → wE C (.var i) e2 (fun t e3 => ∃ x e4, give t e3 = some (x, e4) ∧ drf (rstS [i, j] olds e4) r = drf en r ∧ K (some x) (rstS [i, j] olds e4)) fun _ _ _ => False) ∧ (k = false → drf (rstS [i, j] olds e2) r = drf en r ∧ K none (rstS [i, j] olds e2))) fun _ _ _ => False) (l.map pairD) [] en K := by
  obtain ⟨a, ha, ua⟩ := hi
  obtain ⟨b, hb, ub⟩ := hj
  have ai : i < en.length := (List.getElem?_eq_some_iff.mp ha).1
  have aj : j < en.length := (List.getElem?_eq_some_iff.mp hb).1
  have fr : freeS en [i, j] = some [a, b] := by
    unfold freeS freeS freeS
    rw [ha, hb]
    rcases ua with rfl | ⟨z, rfl⟩ <;> rcases ub with rfl | ⟨y, rfl⟩ <;> rfl
  have back : ∀ x y : D, rstS [i, j] [a, b] (putS [i, j] [x, y] en) = en := by
    intro x y
    show (((en.set i (.val x)).set j (.val y)).set j b).set i a = en
    apply List.ext_getElem?
    intro k
    by_cases k1 : k = i
    · subst k1
      rw [List.getElem?_set_self (by simpa using ai), ha]
    · rw [List.getElem?_set_ne (Ne.symm k1)]
      by_cases k2 : k = j
      · subst k2
        rw [List.getElem?_set_self (by simpa using aj), hb]
      · rw [List.getElem?_set_ne (Ne.symm k2), List.getElem?_set_ne (Ne.symm k2), List.getElem?_set_ne (Ne.symm k1)]
  refine goL_fmA pairD (fun p => if p.2 = true then some (.str p.1) else none) (fun p _ k hk => ?_) ?_
  · obtain ⟨s, t⟩ := p
    refine ⟨[a, b], [.str s, .bl t], fr, rfl, rfl, ?_⟩
    have e1 : (putS [i, j] [D.str s, D.bl t] en)[j]? = some (.val (.bl t)) := by
      show ((en.set i _).set j _)[j]? = _
      rw [List.getElem?_set_self (by simpa using aj)]
    have e2 : (putS [i, j] [D.str s, D.bl t] en)[i]? = some (.val (.str s)) := by
      show ((en.set i _).set j _)[i]? = _
      rw [List.getElem?_set_ne (Ne.symm hij), List.getElem?_set_self (by simpa using ai)]
    show wT C (.val (.var j)) _ _ _
    unfold wT wE
    rw [e1]
    refine ⟨.bl t, rfl, ?_⟩
    show (t = true → _) ∧ (t = false → _)
    refine ⟨fun h => ?_, fun h => ?_⟩
    · unfold wE
      rw [e2]
      refine ⟨.str s, _, rfl, ?_, ?_⟩
      · rw [back]
      · rw [back]
        subst h
        exact hk
    · rw [back]
      subst h
      exact ⟨rfl, hk⟩
  · have : l.filterMap (fun p => if p.2 = true then some (D.str p.1) else none) = toldOf l := by
      clear h
      unfold toldOf
      induction l with
      | nil => rfl
      | cons x xs ih =>
        obtain ⟨s, t⟩ := x
        cases t <;> simp [List.filterMap_cons, List.filter_cons, ih]
    rw [List.nil_append, this]
    exact h
def c_law_words : Ct := ct false false (α := Str × List (Str × D)) (β := Unit) (fun a => [.exc a.1 a.2]) (fun a => (xkOf a.1).isSome = true) (fun _ _ => True) (fun a _ => (.lst (toldOf (ws15 a.1)), .non))
theorem ok_law_words {C : Cts} (hx : C.xk = xkOf) (hs : C.sub = subOf) : BodyOk C c_law_words n_law_words.length 1 b_law_words := by
  refine ct_ok (fun _ => rfl) ?_
  rintro ⟨c, fs⟩ hc
  obtain ⟨ns, hn⟩ := Option.isSome_iff_exists.mp hc
  dsimp only at hn hc ⊢
  rw [← hx] at hn
  have s1 := sub1 hs hc (d := .own "BadNetlist") (by decide +kernel)
  have s2 := sub1 hs hc (d := .own "BadClock") (by decide +kernel)
  have s3 := sub1 hs hc (d := .own "BadPath") (by decide +kernel)
  have s4 := sub1 hs hc (d := .own "BadFilling") (by decide +kernel)
  have s5 := sub1 hs hc (d := .own "BadCheck") (by decide +kernel)
  have s6 := sub1 hs hc (d := .own "BadPaper") (by decide +kernel)
  have s7 := sub1 hs hc (d := .own "BadEdit") (by decide +kernel)
  have s8 := sub1 hs hc (d := .own "BadText") (by decide +kernel)
  have s9 := sub1 hs hc (d := .own "BadLine") (by decide +kernel)
  have s10 := sub1 hs hc (d := .own "NoSignal") (by decide +kernel)
  have s11 := sub1 hs hc (d := .own "NoEnd") (by decide +kernel)
  have s12 := sub1 hs hc (d := .own "NoCorner") (by decide +kernel)
  have s13 := sub1 hs hc (d := .own "Busy") (by decide +kernel)
  have s14 := sub1 hs hc (d := .own "NothingDone") (by decide +kernel)
  have s15 := sub1 hs hc (d := .own "TooMany") (by decide +kernel)
  (refine Exists.intro _ (Exists.intro _ (And.intro rfl (Exists.intro _ (Exists.intro _ (Exists.intro _ (Exists.intro _ (And.intro rfl (And.intro hn (And.intro s1 (And.intro rfl (Exists.intro _ (Exists.intro _ (And.intro rfl (And.intro (by walk_at "vside") (Exists.intro _ (Exists.intro _ (And.intro rfl (Exists.intro _ (Exists.intro _ (And.intro rfl (Exists.intro _ (Exists.intro _ (Exists.intro _ (Exists.intro _ (And.intro rfl (And.intro hn (And.intro s2 (And.intro rfl (Exists.intro _ (Exists.intro _ (And.intro rfl (And.intro (by walk_at "vside") (Exists.intro _ (Exists.intro _ (And.intro rfl (And.intro (by walk_at "vside") (Exists.intro _ (And.intro rfl (Exists.intro _ (Exists.intro _ (And.intro rfl (Exists.intro _ (Exists.intro _ (Exists.intro _ (Exists.intro _ (And.intro rfl (And.intro hn (And.intro s3 (And.intro rfl (Exists.intro _ (Exists.intro _ (And.intro rfl (And.intro (by walk_at "vside") (Exists.intro _ (Exists.intro _ (And.intro rfl (Exists.intro _ (Exists.intro _ (And.intro rfl (Exists.intro _ (Exists.intro _ (Exists.intro _ (Exists.intro _ (And.intro rfl (And.intro hn (And.intro s4 (And.intro rfl (Exists.intro _ (Exists.intro _ (And.intro rfl (And.intro (by walk_at "vside") (Exists.intro _ (Exists.intro _ (And.intro rfl (And.intro (by walk_at "vside") (Exists.intro _ (Exists.intro _ (And.intro rfl (And.intro rfl (And.intro (by walk_at "vside") (Exists.intro _ (And.intro rfl (Exists.intro _ (Exists.intro _ (And.intro rfl (Exists.intro _ (Exists.intro _ (Exists.intro _ (Exists.intro _ (And.intro rfl (And.intro hn (And.intro s5 (And.intro rfl (Exists.intro _ (Exists.intro _ (And.intro rfl (And.intro (by walk_at "vside") (Exists.intro _ (Exists.intro _ (And.intro rfl (Exists.intro _ (Exists.intro _ (And.intro rfl (Exists.intro _ (Exists.intro _ (Exists.intro _ (Exists.intro _ (And.intro rfl (And.intro hn (And.intro s6 (And.intro rfl (Exists.intro _ (Exists.intro _ (And.intro rfl (And.intro (by walk_at "vside") (Exists.intro _ (Exists.intro _ (And.intro rfl (And.intro (by walk_at "vside") (Exists.intro _ (Exists.intro _ (And.intro rfl (And.intro rfl (And.intro (by walk_at "vside") (Exists.intro _ (And.intro rfl (Exists.intro _ (Exists.intro _ (And.intro rfl (Exists.intro _ (Exists.intro _ (Exists.intro _ (Exists.intro _ (And.intro rfl (And.intro hn (And.intro s7 (And.intro rfl (Exists.intro _ (Exists.intro _ (And.intro rfl (And.intro (by walk_at "vside") (Exists.intro _ (Exists.intro _ (And.intro rfl (Exists.intro _ (Exists.intro _ (And.intro rfl (Exists.intro _ (Exists.intro _ (Exists.intro _ (Exists.intro _ (And.intro rfl (And.intro hn (And.intro s8 (And.intro rfl (Exists.intro _ (Exists.intro _ (And.intro rfl (And.intro (by walk_at "vside") (Exists.intro _ (Exists.intro _ (And.intro rfl (And.intro (by walk_at "vside") (Exists.intro _ (Exists.intro _ (And.intro rfl (And.intro rfl (And.intro (by walk_at "vside") (Exists.intro _ (And.intro rfl (Exists.intro _ (Exists.intro _ (And.intro rfl (Exists.intro _ (Exists.intro _ (Exists.intro _ (Exists.intro _ (And.intro rfl (And.intro hn (And.intro s9 (And.intro rfl (Exists.intro _ (Exists.intro _ (And.intro rfl (And.intro (by walk_at "vside") (Exists.intro _ (Exists.intro _ (And.intro rfl (Exists.intro _ (Exists.intro _ (And.intro rfl (Exists.intro _ (Exists.intro _ (Exists.intro _ (Exists.intro _ (And.intro rfl (And.intro hn (And.intro s10 (And.intro rfl (Exists.intro _ (Exists.intro _ (And.intro rfl (And.intro (by walk_at "vside") (Exists.intro _ (Exists.intro _ (And.intro rfl (And.intro (by walk_at "vside") (Exists.intro _ (Exists.intro _ (And.intro rfl (And.intro rfl (And.intro (by walk_at "vside") (Exists.intro _ (And.intro rfl (Exists.intro _ (Exists.intro _ (And.intro rfl (Exists.intro _ (Exists.intro _ (Exists.intro _ (Exists.intro _ (And.intro rfl (And.intro hn (And.intro s11 (And.intro rfl (Exists.intro _ (Exists.intro _ (And.intro rfl (And.intro (by walk_at "vside") (Exists.intro _ (Exists.intro _ (And.intro rfl (Exists.intro _ (Exists.intro _ (And.intro rfl (Exists.intro _ (Exists.intro _ (Exists.intro _ (Exists.intro _ (And.intro rfl (And.intro hn (And.intro s12 (And.intro rfl (Exists.intro _ (Exists.intro _ (And.intro rfl (And.intro (by walk_at "vside") (Exists.intro _ (Exists.intro _ (And.intro rfl (And.intro (by walk_at "vside") (Exists.intro _ (Exists.intro _ (And.intro rfl (And.intro rfl (And.intro (by walk_at "vside") (Exists.intro _ (And.intro rfl (Exists.intro _ (Exists.intro _ (And.intro rfl (Exists.intro _ (Exists.intro _ (Exists.intro _ (Exists.intro _ (And.intro rfl (And.intro hn (And.intro s13 (And.intro rfl (Exists.intro _ (Exists.intro _ (And.intro rfl (And.intro (by walk_at "vside") (Exists.intro _ (Exists.intro _ (And.intro rfl (Exists.intro _ (Exists.intro _ (And.intro rfl (Exists.intro _ (Exists.intro _ (Exists.intro _ (Exists.intro _ (And.intro rfl (And.intro hn (And.intro s14 (And.intro rfl (Exists.intro _ (Exists.intro _ (And.intro rfl (And.intro (by walk_at "vside") (Exists.intro _ (Exists.intro _ (And.intro rfl (And.intro (by walk_at "vside") (Exists.intro _ (Exists.intro _ (And.intro rfl (And.intro rfl (And.intro (by walk_at "vside") (Exists.intro _ (And.intro rfl (Exists.intro _ (Exists.intro _ (And.intro rfl (Exists.intro _ (Exists.intro _ (Exists.intro _ (Exists.intro _ (And.intro rfl (And.intro hn (And.intro s15 (And.intro rfl (Exists.intro _ (Exists.intro _ (And.intro rfl (And.intro (by walk_at "vside") (Exists.intro _ (Exists.intro _ (And.intro rfl (And.intro (by walk_at "vside") (Exists.intro _ (Exists.intro _ (And.intro rfl (And.intro rfl (And.intro (by walk_at "vside") (Exists.intro _ (And.intro rfl (Exists.intro _ (Exists.intro _ (And.intro rfl (And.intro rfl (And.intro (by walk_at "vside") (And.intro (by walk_at "vside") ((?u115c2n90907g1 : Vg.goL _ ([D.tup [D.str (Str.ofString "netlist"), D.bl (upB c (Cn.own (Str.ofString "BadNetlist")))], D.tup [D.str (Str.ofString "clock"), D.bl (upB c (Cn.own (Str.ofString "BadClock")))], D.tup [D.str (Str.ofString "path"), D.bl (upB c (Cn.own (Str.ofString "BadPath")))], D.tup [D.str (Str.ofString "filling"), D.bl (upB c (Cn.own (Str.ofString "BadFilling")))], D.tup [D.str (Str.ofString "check"), D.bl (upB c (Cn.own (Str.ofString "BadCheck")))], D.tup [D.str (Str.ofString "paper"), D.bl (upB c (Cn.own (Str.ofString "BadPaper")))], D.tup [D.str (Str.ofString "edit"), D.bl (upB c (Cn.own (Str.ofString "BadEdit")))], D.tup [D.str (Str.ofString "text"), D.bl (upB c (Cn.own (Str.ofString "BadText")))], D.tup [D.str (Str.ofString "line"), D.bl (upB c (Cn.own (Str.ofString "BadLine")))], D.tup [D.str (Str.ofString "no signal"), D.bl (upB c (Cn.own (Str.ofString "NoSignal")))], D.tup [D.str (Str.ofString "no end"), D.bl (upB c (Cn.own (Str.ofString "NoEnd")))], D.tup [D.str (Str.ofString "no corner"), D.bl (upB c (Cn.own (Str.ofString "NoCorner")))], D.tup [D.str (Str.ofString "busy"), D.bl (upB c (Cn.own (Str.ofString "Busy")))], D.tup [D.str (Str.ofString "nothing"), D.bl (upB c (Cn.own (Str.ofString "NothingDone")))], D.tup [D.str (Str.ofString "many"), D.bl (upB c (Cn.own (Str.ofString "TooMany")))]]) ([]) ([Slot.val (D.exc c fs), Slot.val (D.lst [D.tup [D.str (Str.ofString "netlist"), D.bl (upB c (Cn.own (Str.ofString "BadNetlist")))], D.tup [D.str (Str.ofString "clock"), D.bl (upB c (Cn.own (Str.ofString "BadClock")))], D.tup [D.str (Str.ofString "path"), D.bl (upB c (Cn.own (Str.ofString "BadPath")))], D.tup [D.str (Str.ofString "filling"), D.bl (upB c (Cn.own (Str.ofString "BadFilling")))], D.tup [D.str (Str.ofString "check"), D.bl (upB c (Cn.own (Str.ofString "BadCheck")))], D.tup [D.str (Str.ofString "paper"), D.bl (upB c (Cn.own (Str.ofString "BadPaper")))], D.tup [D.str (Str.ofString "edit"), D.bl (upB c (Cn.own (Str.ofString "BadEdit")))], D.tup [D.str (Str.ofString "text"), D.bl (upB c (Cn.own (Str.ofString "BadText")))], D.tup [D.str (Str.ofString "line"), D.bl (upB c (Cn.own (Str.ofString "BadLine")))], D.tup [D.str (Str.ofString "no signal"), D.bl (upB c (Cn.own (Str.ofString "NoSignal")))], D.tup [D.str (Str.ofString "no end"), D.bl (upB c (Cn.own (Str.ofString "NoEnd")))], D.tup [D.str (Str.ofString "no corner"), D.bl (upB c (Cn.own (Str.ofString "NoCorner")))], D.tup [D.str (Str.ofString "busy"), D.bl (upB c (Cn.own (Str.ofString "Busy")))], D.tup [D.str (Str.ofString "nothing"), D.bl (upB c (Cn.own (Str.ofString "NothingDone")))], D.tup [D.str (Str.ofString "many"), D.bl (upB c (Cn.own (Str.ofString "TooMany")))]]), Slot.un, Slot.un]) _)))))))))))))))))))))))))))))))))))))))))))))))))))))))))))))))))))))))))))))))))))))))))))))))))))))))))))))))))))))))))))))))))))))))))))))))))))))))))))))))))))))))))))))))))))))))))))))))))))))))))))))))))))))))))))))))))))))))))))))))))))))))))))))))))))))))))))))))))))))))))))))))))))))))))))))))))))))))))))))))))))))))))))))))))
  refine goL_told (by decide) ⟨_, rfl, .inl rfl⟩ ⟨_, rfl, .inl rfl⟩ (fun _ _ _ _ => rfl) (ws15 c) ?_
  (refine Exists.intro _ (Exists.intro _ (And.intro rfl (And.intro rfl ((?u117c2n43580g1 : Vg.Ans _ _ _ (D.lst (toldOf (ws15 c))) (D.non)))))))
  exact ⟨(), trivial, rfl⟩

def c_law_families : Ct := ct false false (α := Str × List (Str × D)) (β := Unit) (fun a => [.exc a.1 a.2]) (fun a => (xkOf a.1).isSome = true) (fun _ _ => True) (fun a _ => (.lst (toldOf (fs9 a.1)), .non))
theorem ok_law_families {C : Cts} (hx : C.xk = xkOf) (hs : C.sub = subOf) : BodyOk C c_law_families n_law_families.length 1 b_law_families := by
  refine ct_ok (fun _ => rfl) ?_
  rintro ⟨c, fs⟩ hc
  obtain ⟨ns, hn⟩ := Option.isSome_iff_exists.mp hc
  dsimp only at hn hc ⊢
  rw [← hx] at hn
  have s1 := sub1 hs hc (d := .own "TimingError") (by decide +kernel)
  have s2 := sub1 hs hc (d := .blt .value) (by decide +kernel)
  have s3 := sub1 hs hc (d := .own "NotThere") (by decide +kernel)
  have s4 := sub1 hs hc (d := .blt .lookup) (by decide +kernel)
  have s5 := sub1 hs hc (d := .own "Refused") (by decide +kernel)
  have s6 := sub1 hs hc (d := .blt .runtime) (by decide +kernel)
  have s7 := sub1 hs hc (d := .blt .key) (by decide +kernel)
  have s8 := sub1 hs hc (d := .blt .index) (by decide +kernel)
  have s9 := sub1 hs hc (d := .blt .notimpl) (by decide +kernel)
  (refine Exists.intro _ (Exists.intro _ (And.intro rfl (Exists.intro _ (Exists.intro _ (Exists.intro _ (Exists.intro _ (And.intro rfl (And.intro hn (And.intro s1 (And.intro rfl (Exists.intro _ (Exists.intro _ (And.intro rfl (And.intro (by walk_at "vside") (Exists.intro _ (Exists.intro _ (And.intro rfl (Exists.intro _ (Exists.intro _ (And.intro rfl (Exists.intro _ (Exists.intro _ (Exists.intro _ (Exists.intro _ (And.intro rfl (And.intro hn (And.intro s2 (And.intro rfl (Exists.intro _ (Exists.intro _ (And.intro rfl (And.intro (by walk_at "vside") (Exists.intro _ (Exists.intro _ (And.intro rfl (And.intro (by walk_at "vside") (Exists.intro _ (And.intro rfl (Exists.intro _ (Exists.intro _ (And.intro rfl (Exists.intro _ (Exists.intro _ (Exists.intro _ (Exists.intro _ (And.intro rfl (And.intro hn (And.intro s3 (And.intro rfl (Exists.intro _ (Exists.intro _ (And.intro rfl (And.intro (by walk_at "vside") (Exists.intro _ (Exists.intro _ (And.intro rfl (Exists.intro _ (Exists.intro _ (And.intro rfl (Exists.intro _ (Exists.intro _ (Exists.intro _ (Exists.intro _ (And.intro rfl (And.intro hn (And.intro s4 (And.intro rfl (Exists.intro _ (Exists.intro _ (And.intro rfl (And.intro (by walk_at "vside") (Exists.intro _ (Exists.intro _ (And.intro rfl (And.intro (by walk_at "vside") (Exists.intro _ (Exists.intro _ (And.intro rfl (And.intro rfl (And.intro (by walk_at "vside") (Exists.intro _ (And.intro rfl (Exists.intro _ (Exists.intro _ (And.intro rfl (Exists.intro _ (Exists.intro _ (Exists.intro _ (Exists.intro _ (And.intro rfl (And.intro hn (And.intro s5 (And.intro rfl (Exists.intro _ (Exists.intro _ (And.intro rfl (And.intro (by walk_at "vside") (Exists.intro _ (Exists.intro _ (And.intro rfl (Exists.intro _ (Exists.intro _ (And.intro rfl (Exists.intro _ (Exists.intro _ (Exists.intro _ (Exists.intro _ (And.intro rfl (And.intro hn (And.intro s6 (And.intro rfl (Exists.intro _ (Exists.intro _ (And.intro rfl (And.intro (by walk_at "vside") (Exists.intro _ (Exists.intro _ (And.intro rfl (And.intro (by walk_at "vside") (Exists.intro _ (Exists.intro _ (And.intro rfl (And.intro rfl (And.intro (by walk_at "vside") (Exists.intro _ (And.intro rfl (Exists.intro _ (Exists.intro _ (And.intro rfl (Exists.intro _ (Exists.intro _ (Exists.intro _ (Exists.intro _ (And.intro rfl (And.intro hn (And.intro s7 (And.intro rfl (Exists.intro _ (Exists.intro _ (And.intro rfl (And.intro (by walk_at "vside") (Exists.intro _ (Exists.intro _ (And.intro rfl (Exists.intro _ (Exists.intro _ (And.intro rfl (Exists.intro _ (Exists.intro _ (Exists.intro _ (Exists.intro _ (And.intro rfl (And.intro hn (And.intro s8 (And.intro rfl (Exists.intro _ (Exists.intro _ (And.intro rfl (And.intro (by walk_at "vside") (Exists.intro _ (Exists.intro _ (And.intro rfl (And.intro (by walk_at "vside") (Exists.intro _ (Exists.intro _ (And.intro rfl (And.intro rfl (And.intro (by walk_at "vside") (Exists.intro _ (And.intro rfl (Exists.intro _ (Exists.intro _ (And.intro rfl (Exists.intro _ (Exists.intro _ (Exists.intro _ (Exists.intro _ (And.intro rfl (And.intro hn (And.intro s9 (And.intro rfl (Exists.intro _ (Exists.intro _ (And.intro rfl (And.intro (by walk_at "vside") (Exists.intro _ (Exists.intro _ (And.intro rfl (And.intro (by walk_at "vside") (Exists.intro _ (Exists.intro _ (And.intro rfl (And.intro rfl (And.intro (by walk_at "vside") (Exists.intro _ (And.intro rfl (Exists.intro _ (Exists.intro _ (And.intro rfl (And.intro rfl (And.intro (by walk_at "vside") (And.intro (by walk_at "vside") ((?u136c2n30343g1 : Vg.goL _ ([D.tup [D.str (Str.ofString "timing"), D.bl (upB c (Cn.own (Str.ofString "TimingError")))], D.tup [D.str (Str.ofString "value"), D.bl (upB c (Cn.blt Bx.value))], D.tup [D.str (Str.ofString "there"), D.bl (upB c (Cn.own (Str.ofString "NotThere")))], D.tup [D.str (Str.ofString "lookup"), D.bl (upB c (Cn.blt Bx.lookup))], D.tup [D.str (Str.ofString "refused"), D.bl (upB c (Cn.own (Str.ofString "Refused")))], D.tup [D.str (Str.ofString "runtime"), D.bl (upB c (Cn.blt Bx.runtime))], D.tup [D.str (Str.ofString "key"), D.bl (upB c (Cn.blt Bx.key))], D.tup [D.str (Str.ofString "index"), D.bl (upB c (Cn.blt Bx.index))], D.tup [D.str (Str.ofString "not done"), D.bl (upB c (Cn.blt Bx.notimpl))]]) ([]) ([Slot.val (D.exc c fs), Slot.val (D.lst [D.tup [D.str (Str.ofString "timing"), D.bl (upB c (Cn.own (Str.ofString "TimingError")))], D.tup [D.str (Str.ofString "value"), D.bl (upB c (Cn.blt Bx.value))], D.tup [D.str (Str.ofString "there"), D.bl (upB c (Cn.own (Str.ofString "NotThere")))], D.tup [D.str (Str.ofString "lookup"), D.bl (upB c (Cn.blt Bx.lookup))], D.tup [D.str (Str.ofString "refused"), D.bl (upB c (Cn.own (Str.ofString "Refused")))], D.tup [D.str (Str.ofString "runtime"), D.bl (upB c (Cn.blt Bx.runtime))], D.tup [D.str (Str.ofString "key"), D.bl (upB c (Cn.blt Bx.key))], D.tup [D.str (Str.ofString "index"), D.bl (upB c (Cn.blt Bx.index))], D.tup [D.str (Str.ofString "not done"), D.bl (upB c (Cn.blt Bx.notimpl))]]), Slot.un, Slot.un]) _)))))))))))))))))))))))))))))))))))))))))))))))))))))))))))))))))))))))))))))))))))))))))))))))))))))))))))))))))))))))))))))))))))))))))))))))))))))))))))))))))))))))))))))))))))))))))))))))))))))))))))))
  refine goL_told (by decide) ⟨_, rfl, .inl rfl⟩ ⟨_, rfl, .inl rfl⟩ (fun _ _ _ _ => rfl) (fs9 c) ?_
  (refine Exists.intro _ (Exists.intro _ (And.intro rfl (And.intro rfl ((?u138c2n67273g1 : Vg.Ans _ _ _ (D.lst (toldOf (fs9 c))) (D.non)))))))
  exact ⟨(), trivial, rfl⟩
/-- the classes with their fields, as they stand in the table -/
theorem xk_all {C : Cts} (hx : C.xk = xkOf) : (C.xk "BadNetlist" = some [("place" : Str)] ∧ C.xk "BadClock" = some [] ∧ C.xk "BadPath" = some [] ∧ C.xk "BadFilling" = some [] ∧ C.xk "BadCheck" = some [] ∧ C.xk "BadPaper" = some [("place" : Str)] ∧ C.xk "BadEdit" = some [] ∧ C.xk "BadText" = some [("line" : Str), ("word" : Str)] ∧ C.xk "BadLine" = some []) ∧
    (C.xk "NoSignal" = some [("name" : Str)] ∧ C.xk "NoEnd" = some [("name" : Str)] ∧ C.xk "NoCorner" = some [("number" : Str)] ∧ C.xk "Busy" = some [] ∧ C.xk "NothingDone" = some [] ∧ C.xk "TooMany" = some [("most" : Str)]) := by
  rw [hx]
  decide +kernel
theorem some_is {α : Type} {o : Option α} {x : α} (h : o = some x) : o.isSome = true := by rw [h]; rfl
def madeD (a s : Int) (w : Str) : List (Str × List (Str × D)) := [("BadNetlist", [("place", .tup [.int a, .int s])]), ("BadClock", []), ("BadPath", []), ("BadFilling", []), ("BadCheck", []), ("BadPaper", [("place", .tup [.int s])]), ("BadEdit", []), ("BadText", [("line", .int a), ("word", .int s)]), ("BadLine", []), ("NoSignal", [("name", .str w)]), ("NoEnd", [("name", .str w)]), ("NoCorner", [("number", .int s)]), ("Busy", []), ("NothingDone", []), ("TooMany", [("most", .int a)])]
def excD (p : Str × List (Str × D)) : D := .exc p.1 p.2
def c_law_made : Ct := ct false false (α := Int × Int × Str) (β := Unit) (fun a => [.int a.1, .int a.2.1, .str a.2.2]) (fun _ => True) (fun _ _ => True) (fun a _ => (.lst ((madeD a.1 a.2.1 a.2.2).map excD), .non))
theorem ok_law_made {C : Cts} (hx : C.xk = xkOf) : BodyOk C c_law_made n_law_made.length 3 b_law_made := by
  refine ct_ok (fun _ => rfl) ?_
  rintro ⟨a, s, w⟩ -
  obtain ⟨⟨x1, x2, x3, x4, x5, x6, x7, x8, x9⟩, y1, y2, y3, y4, y5, y6⟩ := xk_all hx
  have i1 := some_is x1
  have i2 := some_is x2
  have i3 := some_is x3
  have i4 := some_is x4
  have i5 := some_is x5
  have i6 := some_is x6
  have i7 := some_is x7
  have i8 := some_is x8
  have i9 := some_is x9
  have j1 := some_is y1
  have j2 := some_is y2
  have j3 := some_is y3
  have j4 := some_is y4
  have j5 := some_is y5
  have j6 := some_is y6
  (refine And.intro i1 (Exists.intro _ (Exists.intro _ (And.intro rfl (Exists.intro _ (Exists.intro _ (And.intro rfl (And.intro (by walk_at "vside") (Exists.intro _ (Exists.intro _ (And.intro rfl (And.intro rfl (And.intro rfl (And.intro (by walk_at "vside") (Exists.intro _ (And.intro x1 (And.intro rfl (Exists.intro _ (Exists.intro _ (And.intro rfl (And.intro i2 (And.intro rfl (And.intro rfl (And.intro (by walk_at "vside") (Exists.intro _ (And.intro x2 (And.intro rfl (Exists.intro _ (Exists.intro _ (And.intro rfl (And.intro i3 (And.intro rfl (And.intro rfl (And.intro (by walk_at "vside") (Exists.intro _ (And.intro x3 (And.intro rfl (Exists.intro _ (Exists.intro _ (And.intro rfl (And.intro i4 (And.intro rfl (And.intro rfl (And.intro (by walk_at "vside") (Exists.intro _ (And.intro x4 (And.intro rfl (Exists.intro _ (Exists.intro _ (And.intro rfl (And.intro i5 (And.intro rfl (And.intro rfl (And.intro (by walk_at "vside") (Exists.intro _ (And.intro x5 (And.intro rfl (Exists.intro _ (Exists.intro _ (And.intro rfl (And.intro i6 (Exists.intro _ (Exists.intro _ (And.intro rfl (And.intro (by walk_at "vside") (Exists.intro _ (Exists.intro _ (And.intro rfl (And.intro rfl (And.intro rfl (And.intro (by walk_at "vside") (Exists.intro _ (And.intro x6 (And.intro rfl (Exists.intro _ (Exists.intro _ (And.intro rfl (And.intro (by walk_at "vside") (Exists.intro _ (And.intro rfl (And.intro i7 (And.intro rfl (And.intro rfl (And.intro (by walk_at "vside") (Exists.intro _ (And.intro x7 (And.intro rfl (Exists.intro _ (Exists.intro _ (And.intro rfl (And.intro i8 (Exists.intro _ (Exists.intro _ (And.intro rfl (Exists.intro _ (Exists.intro _ (And.intro rfl (And.intro rfl (And.intro rfl (And.intro (by walk_at "vside") (Exists.intro _ (And.intro x8 (And.intro rfl (Exists.intro _ (Exists.intro _ (And.intro rfl (And.intro i9 (And.intro rfl (And.intro rfl (And.intro (by walk_at "vside") (Exists.intro _ (And.intro x9 (And.intro rfl (Exists.intro _ (Exists.intro _ (And.intro rfl (And.intro (by walk_at "vside") (Exists.intro _ (Exists.intro _ (And.intro rfl (And.intro rfl (And.intro (by walk_at "vside") (Exists.intro _ (And.intro rfl (And.intro j1 (Exists.intro _ (Exists.intro _ (And.intro rfl (And.intro rfl (And.intro rfl (And.intro (by walk_at "vside") (Exists.intro _ (And.intro y1 (And.intro rfl (Exists.intro _ (Exists.intro _ (And.intro rfl (And.intro j2 (Exists.intro _ (Exists.intro _ (And.intro rfl (And.intro rfl (And.intro rfl (And.intro (by walk_at "vside") (Exists.intro _ (And.intro y2 (And.intro rfl (Exists.intro _ (Exists.intro _ (And.intro rfl (And.intro j3 (Exists.intro _ (Exists.intro _ (And.intro rfl (And.intro rfl (And.intro rfl (And.intro (by walk_at "vside") (Exists.intro _ (And.intro y3 (And.intro rfl (Exists.intro _ (Exists.intro _ (And.intro rfl (And.intro j4 (And.intro rfl (And.intro rfl (And.intro (by walk_at "vside") (Exists.intro _ (And.intro y4 (And.intro rfl (Exists.intro _ (Exists.intro _ (And.intro rfl (And.intro j5 (And.intro rfl (And.intro rfl (And.intro (by walk_at "vside") (Exists.intro _ (And.intro y5 (And.intro rfl (Exists.intro _ (Exists.intro _ (And.intro rfl (And.intro j6 (Exists.intro _ (Exists.intro _ (And.intro rfl (And.intro rfl (And.intro rfl (And.intro (by walk_at "vside") (Exists.intro _ (And.intro y6 (And.intro rfl (Exists.intro _ (Exists.intro _ (And.intro rfl (And.intro (by walk_at "vside") (Exists.intro _ (Exists.intro _ (And.intro rfl (And.intro rfl (And.intro (by walk_at "vside") (Exists.intro _ (Exists.intro _ (And.intro rfl (And.intro rfl ((?u168c2n94790g1 : Vg.Ans _ _ _ (D.lst [D.exc (Str.ofString "BadNetlist") [(Str.ofString "place", D.tup [D.int (a, s, w).fst, D.int (a, s, w).snd.fst])], D.exc (Str.ofString "BadClock") [], D.exc (Str.ofString "BadPath") [], D.exc (Str.ofString "BadFilling") [], D.exc (Str.ofString "BadCheck") [], D.exc (Str.ofString "BadPaper") [(Str.ofString "place", D.tup [D.int (a, s, w).snd.fst])], D.exc (Str.ofString "BadEdit") [], D.exc (Str.ofString "BadText") [(Str.ofString "line", D.int (a, s, w).fst), (Str.ofString "word", D.int (a, s, w).snd.fst)], D.exc (Str.ofString "BadLine") [], D.exc (Str.ofString "NoSignal") [(Str.ofString "name", D.str (a, s, w).snd.snd)], D.exc (Str.ofString "NoEnd") [(Str.ofString "name", D.str (a, s, w).snd.snd)], D.exc (Str.ofString "NoCorner") [(Str.ofString "number", D.int (a, s, w).snd.fst)], D.exc (Str.ofString "Busy") [], D.exc (Str.ofString "NothingDone") [], D.exc (Str.ofString "TooMany") [(Str.ofString "most", D.int (a, s, w).fst)]]) (D.non)))))))))))))))))))))))))))))))))))))))))))))))))))))))))))))))))))))))))))))))))))))))))))))))))))))))))))))))))))))))))))))))))))))))))))))))))))))))))))))))))))))))))))))))))))))))))))))))))))))))))))))))))
  exact ⟨(), trivial, rfl⟩
def fieldsD (a s : Int) (w : Str) : List D := [.tup [.int a, .int s], .tup [.int s], .int a, .int s, .str w, .str w, .int s, .int a]
def c_law_fields : Ct := ct false false (α := Int × Int × Str) (β := Unit) (fun a => [.lst ((madeD a.1 a.2.1 a.2.2).map excD)]) (fun _ => True) (fun _ _ => True) (fun a _ => (.lst (fieldsD a.1 a.2.1 a.2.2), .non))
theorem ok_law_fields {C : Cts} (hx : C.xk = xkOf) : BodyOk C c_law_fields n_law_fields.length 1 b_law_fields := by
  refine ct_ok (fun _ => rfl) ?_
  rintro ⟨a, s, w⟩ -
  obtain ⟨⟨x1, x2, x3, x4, x5, x6, x7, x8, x9⟩, y1, y2, y3, y4, y5, y6⟩ := xk_all hx
  (refine Exists.intro _ (Exists.intro _ (And.intro rfl (And.intro rfl (Exists.intro _ (And.intro rfl (Exists.intro _ (Exists.intro _ (Exists.intro _ (Exists.intro _ (And.intro rfl (And.intro x1 (And.intro (by walk_at "vside") (And.intro rfl (Exists.intro _ (Exists.intro _ (And.intro rfl (Exists.intro _ (Exists.intro _ (And.intro rfl (And.intro rfl (Exists.intro _ (And.intro rfl (Exists.intro _ (Exists.intro _ (Exists.intro _ (Exists.intro _ (And.intro rfl (And.intro x6 (And.intro (by walk_at "vside") (And.intro rfl (Exists.intro _ (Exists.intro _ (And.intro rfl (Exists.intro _ (Exists.intro _ (And.intro rfl (And.intro rfl (Exists.intro _ (And.intro rfl (Exists.intro _ (Exists.intro _ (Exists.intro _ (Exists.intro _ (And.intro rfl (And.intro x8 (And.intro (by walk_at "vside") (And.intro rfl (Exists.intro _ (Exists.intro _ (And.intro rfl (Exists.intro _ (Exists.intro _ (And.intro rfl (And.intro rfl (Exists.intro _ (And.intro rfl (Exists.intro _ (Exists.intro _ (Exists.intro _ (Exists.intro _ (And.intro rfl (And.intro x8 (And.intro (by walk_at "vside") (And.intro rfl (Exists.intro _ (Exists.intro _ (And.intro rfl (And.intro (by walk_at "vside") (Exists.intro _ (And.intro rfl (Exists.intro _ (Exists.intro _ (And.intro rfl (And.intro rfl (Exists.intro _ (And.intro rfl (Exists.intro _ (Exists.intro _ (Exists.intro _ (Exists.intro _ (And.intro rfl (And.intro y1 (And.intro (by walk_at "vside") (And.intro rfl (Exists.intro _ (Exists.intro _ (And.intro rfl (Exists.intro _ (Exists.intro _ (And.intro rfl (And.intro rfl (Exists.intro _ (And.intro rfl (Exists.intro _ (Exists.intro _ (Exists.intro _ (Exists.intro _ (And.intro rfl (And.intro y2 (And.intro (by walk_at "vside") (And.intro rfl (Exists.intro _ (Exists.intro _ (And.intro rfl (Exists.intro _ (Exists.intro _ (And.intro rfl (And.intro rfl (Exists.intro _ (And.intro rfl (Exists.intro _ (Exists.intro _ (Exists.intro _ (Exists.intro _ (And.intro rfl (And.intro y3 (And.intro (by walk_at "vside") (And.intro rfl (Exists.intro _ (Exists.intro _ (And.intro rfl (Exists.intro _ (Exists.intro _ (And.intro rfl (And.intro rfl (Exists.intro _ (And.intro rfl (Exists.intro _ (Exists.intro _ (Exists.intro _ (Exists.intro _ (And.intro rfl (And.intro y6 (And.intro (by walk_at "vside") (And.intro rfl (Exists.intro _ (Exists.intro _ (And.intro rfl (And.intro (by walk_at "vside") (Exists.intro _ (Exists.intro _ (And.intro rfl (And.intro rfl (And.intro (by walk_at "vside") (Exists.intro _ (Exists.intro _ (And.intro rfl (And.intro rfl ((?u176c2n91550g1 : Vg.Ans _ _ _ (D.lst [D.tup [D.int (a, s, w).fst, D.int (a, s, w).snd.fst], D.tup [D.int (a, s, w).snd.fst], D.int (a, s, w).fst, D.int (a, s, w).snd.fst, D.str (a, s, w).snd.snd, D.str (a, s, w).snd.snd, D.int (a, s, w).snd.fst, D.int (a, s, w).fst]) (D.non))))))))))))))))))))))))))))))))))))))))))))))))))))))))))))))))))))))))))))))))))))))))))))))))))))))))))))))))))))))))))))))))))))))))))))))))))))))))
  exact ⟨(), trivial, rfl⟩

theorem goF_cons {body : D → Ee → Kx → Prop} {x : D} {xs : List D} {en : Ee} {K : Kx} (h : body x en { K with nx := fun e => goF body xs e K, ct := fun e => goF body xs e K, bk := K.nx }) : goF body (x :: xs) en K := h
theorem goF_nil {body : D → Ee → Kx → Prop} {en : Ee} {K : Kx} (h : K.nx en) : goF body [] en K := h
def namedD (a s : Int) (w : Str) : List D := [.tup [.int a], .int s, .tup [.int a, .int s], .tup [.int a, .int 0], .tup [.int 0, .int 0], .tup [.int 0, .int a], .str w, .int a, .int s]
def c_law_by_names : Ct := ct false false (α := Int × Int × Str) (β := Unit) (fun a => [.int a.1, .int a.2.1, .str a.2.2]) (fun _ => True) (fun _ _ => True) (fun a _ => (.lst (namedD a.1 a.2.1 a.2.2), .non))
theorem ok_law_by_names {C : Cts} (hx : C.xk = xkOf) (g1 : C.gt "BadText.line" = some (.int 0)) (g2 : C.gt "BadText.word" = some (.int 0)) : BodyOk C c_law_by_names n_law_by_names.length 3 b_law_by_names := by
  refine ct_ok (fun _ => rfl) ?_
  rintro ⟨a, s, w⟩ -
  obtain ⟨⟨x1, -, -, -, -, x6, -, x8, -⟩, y1, y2, -, -, -, y6⟩ := xk_all hx
  have i1 := some_is x1
  have i6 := some_is x6
  have i8 := some_is x8
  have j1 := some_is y1
  have j2 := some_is y2
  have j6 := some_is y6
  (refine And.intro i1 (Exists.intro _ (Exists.intro _ (And.intro rfl (And.intro (by walk_at "vside") (Exists.intro _ (Exists.intro _ (And.intro rfl (And.intro rfl (And.intro rfl (And.intro (by walk_at "vside") (Exists.intro _ (And.intro rfl (Exists.intro _ (And.intro x1 (And.intro rfl (Exists.intro _ (Exists.intro _ (And.intro rfl (And.intro i6 (Exists.intro _ (Exists.intro _ (And.intro rfl (And.intro rfl (And.intro rfl (And.intro (by walk_at "vside") (Exists.intro _ (And.intro rfl (Exists.intro _ (And.intro x6 (And.intro rfl (Exists.intro _ (Exists.intro _ (And.intro rfl (And.intro (by walk_at "vside") (Exists.intro _ (And.intro rfl ((?u193c2n30344g1 : Vg.wMs _ _ ([Slot.val (D.int (a, s, w).fst), Slot.val (D.int (a, s, w).snd.fst), Slot.val (D.str (a, s, w).snd.snd), Slot.val (D.lst [D.exc (Str.ofString "BadNetlist") [(Str.ofString "place", D.tup [D.int (a, s, w).fst])], D.exc (Str.ofString "BadPaper") [(Str.ofString "place", D.int (a, s, w).snd.fst)]]), Slot.un, Slot.un, Slot.un, Slot.un]) _)))))))))))))))))))))))))))))))))))))))
  (refine Exists.intro _ (Exists.intro _ (And.intro rfl (And.intro rfl (Exists.intro _ (And.intro rfl (Exists.intro _ (Exists.intro _ (Exists.intro _ (Exists.intro _ (And.intro rfl (And.intro x1 (And.intro (by walk_at "vside") (And.intro rfl (Exists.intro _ (Exists.intro _ (And.intro rfl (Exists.intro _ (Exists.intro _ (And.intro rfl (And.intro rfl (Exists.intro _ (And.intro rfl (Exists.intro _ (Exists.intro _ (Exists.intro _ (Exists.intro _ (And.intro rfl (And.intro x6 (And.intro (by walk_at "vside") (And.intro rfl (Exists.intro _ (Exists.intro _ (And.intro rfl (And.intro (by walk_at "vside") (Exists.intro _ (And.intro rfl ((?u194c2n85774g1 : Vg.wMs _ _ ([Slot.val (D.int (a, s, w).fst), Slot.val (D.int (a, s, w).snd.fst), Slot.val (D.str (a, s, w).snd.snd), Slot.val (D.lst [D.exc (Str.ofString "BadNetlist") [(Str.ofString "place", D.tup [D.int (a, s, w).fst])], D.exc (Str.ofString "BadPaper") [(Str.ofString "place", D.int (a, s, w).snd.fst)]]), Slot.val (D.lst [D.tup [D.int (a, s, w).fst], D.int (a, s, w).snd.fst]), Slot.un, Slot.un, Slot.un]) _)))))))))))))))))))))))))))))))))))))))
  (refine And.intro i8 (Exists.intro _ (Exists.intro _ (And.intro rfl (Exists.intro _ (Exists.intro _ (And.intro rfl (And.intro rfl (And.intro rfl (And.intro (by walk_at "vside") (Exists.intro _ (And.intro rfl (Exists.intro _ (And.intro rfl (Exists.intro _ (And.intro x8 (And.intro rfl (Exists.intro _ (Exists.intro _ (And.intro rfl (And.intro i8 (Exists.intro _ (Exists.intro _ (And.intro rfl (And.intro rfl (And.intro rfl (And.intro (by walk_at "vside") (Exists.intro _ (And.intro g2 (Exists.intro _ (And.intro x8 (And.intro rfl (Exists.intro _ (Exists.intro _ (And.intro rfl (And.intro i8 (And.intro rfl (And.intro rfl (And.intro (by walk_at "vside") (Exists.intro _ (And.intro g1 (Exists.intro _ (And.intro g2 (Exists.intro _ (And.intro x8 (And.intro rfl (Exists.intro _ (Exists.intro _ (And.intro rfl (And.intro i8 (Exists.intro _ (Exists.intro _ (And.intro rfl (And.intro rfl (And.intro rfl (And.intro (by walk_at "vside") (Exists.intro _ (And.intro g1 (Exists.intro _ (And.intro rfl (Exists.intro _ (And.intro x8 (And.intro rfl (Exists.intro _ (Exists.intro _ (And.intro rfl (And.intro (by walk_at "vside") (Exists.intro _ (And.intro rfl ((?u195c2n3274g1 : Vg.wMs _ _ ([Slot.val (D.int (a, s, w).fst), Slot.val (D.int (a, s, w).snd.fst), Slot.val (D.str (a, s, w).snd.snd), Slot.val (D.lst [D.exc (Str.ofString "BadNetlist") [(Str.ofString "place", D.tup [D.int (a, s, w).fst])], D.exc (Str.ofString "BadPaper") [(Str.ofString "place", D.int (a, s, w).snd.fst)]]), Slot.val (D.lst [D.tup [D.int (a, s, w).fst], D.int (a, s, w).snd.fst]), Slot.val (D.lst [D.exc (Str.ofString "BadText") [(Str.ofString "line", D.int (a, s, w).fst), (Str.ofString "word", D.int (a, s, w).snd.fst)], D.exc (Str.ofString "BadText") [(Str.ofString "line", D.int (a, s, w).fst), (Str.ofString "word", D.int 0)], D.exc (Str.ofString "BadText") [(Str.ofString "line", D.int 0), (Str.ofString "word", D.int 0)], D.exc (Str.ofString "BadText") [(Str.ofString "line", D.int 0), (Str.ofString "word", D.int (a, s, w).fst)]]), Slot.un, Slot.un]) _)))))))))))))))))))))))))))))))))))))))))))))))))))))))))))))))))))))))
  (refine Exists.intro _ (Exists.intro _ (And.intro rfl (And.intro rfl (Exists.intro _ (Exists.intro _ (And.intro rfl (?u196c2n68942g1))))))))
  show goF _ _ _ _
  refine goF_cons ?_
  (refine Exists.intro _ (And.intro rfl ((?u199c2n71042g1 : Vg.wMs _ _ ([Slot.val (D.int (a, s, w).fst), Slot.val (D.int (a, s, w).snd.fst), Slot.val (D.str (a, s, w).snd.snd), Slot.val (D.lst [D.exc (Str.ofString "BadNetlist") [(Str.ofString "place", D.tup [D.int (a, s, w).fst])], D.exc (Str.ofString "BadPaper") [(Str.ofString "place", D.int (a, s, w).snd.fst)]]), Slot.val (D.lst [D.tup [D.int (a, s, w).fst], D.int (a, s, w).snd.fst]), Slot.val (D.lst [D.exc (Str.ofString "BadText") [(Str.ofString "line", D.int (a, s, w).fst), (Str.ofString "word", D.int (a, s, w).snd.fst)], D.exc (Str.ofString "BadText") [(Str.ofString "line", D.int (a, s, w).fst), (Str.ofString "word", D.int 0)], D.exc (Str.ofString "BadText") [(Str.ofString "line", D.int 0), (Str.ofString "word", D.int 0)], D.exc (Str.ofString "BadText") [(Str.ofString "line", D.int 0), (Str.ofString "word", D.int (a, s, w).fst)]]), Slot.val (D.exc (Str.ofString "BadText") [(Str.ofString "line", D.int (a, s, w).fst), (Str.ofString "word", D.int (a, s, w).snd.fst)]), Slot.un]) _))))
  (refine Exists.intro _ (Exists.intro _ (Exists.intro _ (Exists.intro _ (And.intro rfl (And.intro x8 (And.intro (by walk_at "vside") (And.intro rfl (Exists.intro _ (Exists.intro _ (And.intro rfl (Exists.intro _ (Exists.intro _ (Exists.intro _ (Exists.intro _ (And.intro rfl (And.intro x8 (And.intro (by walk_at "vside") (And.intro rfl (Exists.intro _ (Exists.intro _ (And.intro rfl (And.intro (by walk_at "vside") (Exists.intro _ (Exists.intro _ (And.intro rfl (And.intro (by walk_at "vside") (Exists.intro _ (Exists.intro _ (And.intro rfl (And.intro rfl (And.intro (by walk_at "vside") (Exists.intro _ (And.intro rfl ((?u200c2n16275g1 : Vg.wMs _ _ ([Slot.val (D.int (a, s, w).fst), Slot.val (D.int (a, s, w).snd.fst), Slot.val (D.str (a, s, w).snd.snd), Slot.val (D.lst [D.exc (Str.ofString "BadNetlist") [(Str.ofString "place", D.tup [D.int (a, s, w).fst])], D.exc (Str.ofString "BadPaper") [(Str.ofString "place", D.int (a, s, w).snd.fst)]]), Slot.val (D.lst [D.tup [D.int (a, s, w).fst], D.int (a, s, w).snd.fst, D.tup [D.int (a, s, w).fst, D.int (a, s, w).snd.fst]]), Slot.val (D.lst [D.exc (Str.ofString "BadText") [(Str.ofString "line", D.int (a, s, w).fst), (Str.ofString "word", D.int (a, s, w).snd.fst)], D.exc (Str.ofString "BadText") [(Str.ofString "line", D.int (a, s, w).fst), (Str.ofString "word", D.int 0)], D.exc (Str.ofString "BadText") [(Str.ofString "line", D.int 0), (Str.ofString "word", D.int 0)], D.exc (Str.ofString "BadText") [(Str.ofString "line", D.int 0), (Str.ofString "word", D.int (a, s, w).fst)]]), Slot.val (D.exc (Str.ofString "BadText") [(Str.ofString "line", D.int (a, s, w).fst), (Str.ofString "word", D.int (a, s, w).snd.fst)]), Slot.un]) _))))))))))))))))))))))))))))))))))))
  (refine ?u201c2n23548g1)
  show goF _ _ _ _
  refine goF_cons ?_
  (refine Exists.intro _ (And.intro rfl ((?u204c2n938g1 : Vg.wMs _ _ ([Slot.val (D.int (a, s, w).fst), Slot.val (D.int (a, s, w).snd.fst), Slot.val (D.str (a, s, w).snd.snd), Slot.val (D.lst [D.exc (Str.ofString "BadNetlist") [(Str.ofString "place", D.tup [D.int (a, s, w).fst])], D.exc (Str.ofString "BadPaper") [(Str.ofString "place", D.int (a, s, w).snd.fst)]]), Slot.val (D.lst [D.tup [D.int (a, s, w).fst], D.int (a, s, w).snd.fst, D.tup [D.int (a, s, w).fst, D.int (a, s, w).snd.fst]]), Slot.val (D.lst [D.exc (Str.ofString "BadText") [(Str.ofString "line", D.int (a, s, w).fst), (Str.ofString "word", D.int (a, s, w).snd.fst)], D.exc (Str.ofString "BadText") [(Str.ofString "line", D.int (a, s, w).fst), (Str.ofString "word", D.int 0)], D.exc (Str.ofString "BadText") [(Str.ofString "line", D.int 0), (Str.ofString "word", D.int 0)], D.exc (Str.ofString "BadText") [(Str.ofString "line", D.int 0), (Str.ofString "word", D.int (a, s, w).fst)]]), Slot.val (D.exc (Str.ofString "BadText") [(Str.ofString "line", D.int (a, s, w).fst), (Str.ofString "word", D.int 0)]), Slot.un]) _))))
  (refine Exists.intro _ (Exists.intro _ (Exists.intro _ (Exists.intro _ (And.intro rfl (And.intro x8 (And.intro (by walk_at "vside") (And.intro rfl (Exists.intro _ (Exists.intro _ (And.intro rfl (Exists.intro _ (Exists.intro _ (Exists.intro _ (Exists.intro _ (And.intro rfl (And.intro x8 (And.intro (by walk_at "vside") (And.intro rfl (Exists.intro _ (Exists.intro _ (And.intro rfl (And.intro (by walk_at "vside") (Exists.intro _ (Exists.intro _ (And.intro rfl (And.intro (by walk_at "vside") (Exists.intro _ (Exists.intro _ (And.intro rfl (And.intro rfl (And.intro (by walk_at "vside") (Exists.intro _ (And.intro rfl ((?u205c2n50764g1 : Vg.wMs _ _ ([Slot.val (D.int (a, s, w).fst), Slot.val (D.int (a, s, w).snd.fst), Slot.val (D.str (a, s, w).snd.snd), Slot.val (D.lst [D.exc (Str.ofString "BadNetlist") [(Str.ofString "place", D.tup [D.int (a, s, w).fst])], D.exc (Str.ofString "BadPaper") [(Str.ofString "place", D.int (a, s, w).snd.fst)]]), Slot.val (D.lst [D.tup [D.int (a, s, w).fst], D.int (a, s, w).snd.fst, D.tup [D.int (a, s, w).fst, D.int (a, s, w).snd.fst], D.tup [D.int (a, s, w).fst, D.int 0]]), Slot.val (D.lst [D.exc (Str.ofString "BadText") [(Str.ofString "line", D.int (a, s, w).fst), (Str.ofString "word", D.int (a, s, w).snd.fst)], D.exc (Str.ofString "BadText") [(Str.ofString "line", D.int (a, s, w).fst), (Str.ofString "word", D.int 0)], D.exc (Str.ofString "BadText") [(Str.ofString "line", D.int 0), (Str.ofString "word", D.int 0)], D.exc (Str.ofString "BadText") [(Str.ofString "line", D.int 0), (Str.ofString "word", D.int (a, s, w).fst)]]), Slot.val (D.exc (Str.ofString "BadText") [(Str.ofString "line", D.int (a, s, w).fst), (Str.ofString "word", D.int 0)]), Slot.un]) _))))))))))))))))))))))))))))))))))))
  (refine ?u206c2n19783g1)
  show goF _ _ _ _
  refine goF_cons ?_
  (refine Exists.intro _ (And.intro rfl ((?u209c2n79459g1 : Vg.wMs _ _ ([Slot.val (D.int (a, s, w).fst), Slot.val (D.int (a, s, w).snd.fst), Slot.val (D.str (a, s, w).snd.snd), Slot.val (D.lst [D.exc (Str.ofString "BadNetlist") [(Str.ofString "place", D.tup [D.int (a, s, w).fst])], D.exc (Str.ofString "BadPaper") [(Str.ofString "place", D.int (a, s, w).snd.fst)]]), Slot.val (D.lst [D.tup [D.int (a, s, w).fst], D.int (a, s, w).snd.fst, D.tup [D.int (a, s, w).fst, D.int (a, s, w).snd.fst], D.tup [D.int (a, s, w).fst, D.int 0]]), Slot.val (D.lst [D.exc (Str.ofString "BadText") [(Str.ofString "line", D.int (a, s, w).fst), (Str.ofString "word", D.int (a, s, w).snd.fst)], D.exc (Str.ofString "BadText") [(Str.ofString "line", D.int (a, s, w).fst), (Str.ofString "word", D.int 0)], D.exc (Str.ofString "BadText") [(Str.ofString "line", D.int 0), (Str.ofString "word", D.int 0)], D.exc (Str.ofString "BadText") [(Str.ofString "line", D.int 0), (Str.ofString "word", D.int (a, s, w).fst)]]), Slot.val (D.exc (Str.ofString "BadText") [(Str.ofString "line", D.int 0), (Str.ofString "word", D.int 0)]), Slot.un]) _))))
  (refine Exists.intro _ (Exists.intro _ (Exists.intro _ (Exists.intro _ (And.intro rfl (And.intro x8 (And.intro (by walk_at "vside") (And.intro rfl (Exists.intro _ (Exists.intro _ (And.intro rfl (Exists.intro _ (Exists.intro _ (Exists.intro _ (Exists.intro _ (And.intro rfl (And.intro x8 (And.intro (by walk_at "vside") (And.intro rfl (Exists.intro _ (Exists.intro _ (And.intro rfl (And.intro (by walk_at "vside") (Exists.intro _ (Exists.intro _ (And.intro rfl (And.intro (by walk_at "vside") (Exists.intro _ (Exists.intro _ (And.intro rfl (And.intro rfl (And.intro (by walk_at "vside") (Exists.intro _ (And.intro rfl ((?u210c2n52152g1 : Vg.wMs _ _ ([Slot.val (D.int (a, s, w).fst), Slot.val (D.int (a, s, w).snd.fst), Slot.val (D.str (a, s, w).snd.snd), Slot.val (D.lst [D.exc (Str.ofString "BadNetlist") [(Str.ofString "place", D.tup [D.int (a, s, w).fst])], D.exc (Str.ofString "BadPaper") [(Str.ofString "place", D.int (a, s, w).snd.fst)]]), Slot.val (D.lst [D.tup [D.int (a, s, w).fst], D.int (a, s, w).snd.fst, D.tup [D.int (a, s, w).fst, D.int (a, s, w).snd.fst], D.tup [D.int (a, s, w).fst, D.int 0], D.tup [D.int 0, D.int 0]]), Slot.val (D.lst [D.exc (Str.ofString "BadText") [(Str.ofString "line", D.int (a, s, w).fst), (Str.ofString "word", D.int (a, s, w).snd.fst)], D.exc (Str.ofString "BadText") [(Str.ofString "line", D.int (a, s, w).fst), (Str.ofString "word", D.int 0)], D.exc (Str.ofString "BadText") [(Str.ofString "line", D.int 0), (Str.ofString "word", D.int 0)], D.exc (Str.ofString "BadText") [(Str.ofString "line", D.int 0), (Str.ofString "word", D.int (a, s, w).fst)]]), Slot.val (D.exc (Str.ofString "BadText") [(Str.ofString "line", D.int 0), (Str.ofString "word", D.int 0)]), Slot.un]) _))))))))))))))))))))))))))))))))))))
  (refine ?u211c2n58828g1)
  show goF _ _ _ _
  refine goF_cons ?_
  (refine Exists.intro _ (And.intro rfl ((?u214c2n34499g1 : Vg.wMs _ _ ([Slot.val (D.int (a, s, w).fst), Slot.val (D.int (a, s, w).snd.fst), Slot.val (D.str (a, s, w).snd.snd), Slot.val (D.lst [D.exc (Str.ofString "BadNetlist") [(Str.ofString "place", D.tup [D.int (a, s, w).fst])], D.exc (Str.ofString "BadPaper") [(Str.ofString "place", D.int (a, s, w).snd.fst)]]), Slot.val (D.lst [D.tup [D.int (a, s, w).fst], D.int (a, s, w).snd.fst, D.tup [D.int (a, s, w).fst, D.int (a, s, w).snd.fst], D.tup [D.int (a, s, w).fst, D.int 0], D.tup [D.int 0, D.int 0]]), Slot.val (D.lst [D.exc (Str.ofString "BadText") [(Str.ofString "line", D.int (a, s, w).fst), (Str.ofString "word", D.int (a, s, w).snd.fst)], D.exc (Str.ofString "BadText") [(Str.ofString "line", D.int (a, s, w).fst), (Str.ofString "word", D.int 0)], D.exc (Str.ofString "BadText") [(Str.ofString "line", D.int 0), (Str.ofString "word", D.int 0)], D.exc (Str.ofString "BadText") [(Str.ofString "line", D.int 0), (Str.ofString "word", D.int (a, s, w).fst)]]), Slot.val (D.exc (Str.ofString "BadText") [(Str.ofString "line", D.int 0), (Str.ofString "word", D.int (a, s, w).fst)]), Slot.un]) _))))
  (refine Exists.intro _ (Exists.intro _ (Exists.intro _ (Exists.intro _ (And.intro rfl (And.intro x8 (And.intro (by walk_at "vside") (And.intro rfl (Exists.intro _ (Exists.intro _ (And.intro rfl (Exists.intro _ (Exists.intro _ (Exists.intro _ (Exists.intro _ (And.intro rfl (And.intro x8 (And.intro (by walk_at "vside") (And.intro rfl (Exists.intro _ (Exists.intro _ (And.intro rfl (And.intro (by walk_at "vside") (Exists.intro _ (Exists.intro _ (And.intro rfl (And.intro (by walk_at "vside") (Exists.intro _ (Exists.intro _ (And.intro rfl (And.intro rfl (And.intro (by walk_at "vside") (Exists.intro _ (And.intro rfl ((?u215c2n65777g1 : Vg.wMs _ _ ([Slot.val (D.int (a, s, w).fst), Slot.val (D.int (a, s, w).snd.fst), Slot.val (D.str (a, s, w).snd.snd), Slot.val (D.lst [D.exc (Str.ofString "BadNetlist") [(Str.ofString "place", D.tup [D.int (a, s, w).fst])], D.exc (Str.ofString "BadPaper") [(Str.ofString "place", D.int (a, s, w).snd.fst)]]), Slot.val (D.lst [D.tup [D.int (a, s, w).fst], D.int (a, s, w).snd.fst, D.tup [D.int (a, s, w).fst, D.int (a, s, w).snd.fst], D.tup [D.int (a, s, w).fst, D.int 0], D.tup [D.int 0, D.int 0], D.tup [D.int 0, D.int (a, s, w).fst]]), Slot.val (D.lst [D.exc (Str.ofString "BadText") [(Str.ofString "line", D.int (a, s, w).fst), (Str.ofString "word", D.int (a, s, w).snd.fst)], D.exc (Str.ofString "BadText") [(Str.ofString "line", D.int (a, s, w).fst), (Str.ofString "word", D.int 0)], D.exc (Str.ofString "BadText") [(Str.ofString "line", D.int 0), (Str.ofString "word", D.int 0)], D.exc (Str.ofString "BadText") [(Str.ofString "line", D.int 0), (Str.ofString "word", D.int (a, s, w).fst)]]), Slot.val (D.exc (Str.ofString "BadText") [(Str.ofString "line", D.int 0), (Str.ofString "word", D.int (a, s, w).fst)]), Slot.un]) _))))))))))))))))))))))))))))))))))))
  (refine ?u216c2n73569g1)
  show goF _ _ _ _
  refine goF_nil ?_
  (refine (?u219c2n6391g1 : Vg.wMs _ _ ([Slot.val (D.int (a, s, w).fst), Slot.val (D.int (a, s, w).snd.fst), Slot.val (D.str (a, s, w).snd.snd), Slot.val (D.lst [D.exc (Str.ofString "BadNetlist") [(Str.ofString "place", D.tup [D.int (a, s, w).fst])], D.exc (Str.ofString "BadPaper") [(Str.ofString "place", D.int (a, s, w).snd.fst)]]), Slot.val (D.lst [D.tup [D.int (a, s, w).fst], D.int (a, s, w).snd.fst, D.tup [D.int (a, s, w).fst, D.int (a, s, w).snd.fst], D.tup [D.int (a, s, w).fst, D.int 0], D.tup [D.int 0, D.int 0], D.tup [D.int 0, D.int (a, s, w).fst]]), Slot.val (D.lst [D.exc (Str.ofString "BadText") [(Str.ofString "line", D.int (a, s, w).fst), (Str.ofString "word", D.int (a, s, w).snd.fst)], D.exc (Str.ofString "BadText") [(Str.ofString "line", D.int (a, s, w).fst), (Str.ofString "word", D.int 0)], D.exc (Str.ofString "BadText") [(Str.ofString "line", D.int 0), (Str.ofString "word", D.int 0)], D.exc (Str.ofString "BadText") [(Str.ofString "line", D.int 0), (Str.ofString "word", D.int (a, s, w).fst)]]), Slot.val (D.exc (Str.ofString "BadText") [(Str.ofString "line", D.int 0), (Str.ofString "word", D.int (a, s, w).fst)]), Slot.un]) _))
  (refine And.intro j1 (Exists.intro _ (Exists.intro _ (And.intro rfl (And.intro rfl (And.intro rfl (And.intro (by walk_at "vside") (Exists.intro _ (And.intro rfl (Exists.intro _ (And.intro y1 (And.intro rfl (Exists.intro _ (Exists.intro _ (And.intro rfl (And.intro j2 (Exists.intro _ (Exists.intro _ (And.intro rfl (And.intro rfl (And.intro rfl (And.intro (by walk_at "vside") (Exists.intro _ (And.intro rfl (Exists.intro _ (And.intro y2 (And.intro rfl (Exists.intro _ (Exists.intro _ (And.intro rfl (And.intro j6 (Exists.intro _ (Exists.intro _ (And.intro rfl (And.intro rfl (And.intro rfl (And.intro (by walk_at "vside") (Exists.intro _ (And.intro rfl (Exists.intro _ (And.intro y6 (And.intro rfl (Exists.intro _ (Exists.intro _ (And.intro rfl (And.intro (by walk_at "vside") (Exists.intro _ (And.intro rfl ((?u220c2n52974g1 : Vg.wMs _ _ ([Slot.val (D.int (a, s, w).fst), Slot.val (D.int (a, s, w).snd.fst), Slot.val (D.str (a, s, w).snd.snd), Slot.val (D.lst [D.exc (Str.ofString "BadNetlist") [(Str.ofString "place", D.tup [D.int (a, s, w).fst])], D.exc (Str.ofString "BadPaper") [(Str.ofString "place", D.int (a, s, w).snd.fst)]]), Slot.val (D.lst [D.tup [D.int (a, s, w).fst], D.int (a, s, w).snd.fst, D.tup [D.int (a, s, w).fst, D.int (a, s, w).snd.fst], D.tup [D.int (a, s, w).fst, D.int 0], D.tup [D.int 0, D.int 0], D.tup [D.int 0, D.int (a, s, w).fst]]), Slot.val (D.lst [D.exc (Str.ofString "BadText") [(Str.ofString "line", D.int (a, s, w).fst), (Str.ofString "word", D.int (a, s, w).snd.fst)], D.exc (Str.ofString "BadText") [(Str.ofString "line", D.int (a, s, w).fst), (Str.ofString "word", D.int 0)], D.exc (Str.ofString "BadText") [(Str.ofString "line", D.int 0), (Str.ofString "word", D.int 0)], D.exc (Str.ofString "BadText") [(Str.ofString "line", D.int 0), (Str.ofString "word", D.int (a, s, w).fst)]]), Slot.val (D.exc (Str.ofString "BadText") [(Str.ofString "line", D.int 0), (Str.ofString "word", D.int (a, s, w).fst)]), Slot.val (D.lst [D.exc (Str.ofString "NoSignal") [(Str.ofString "name", D.str (a, s, w).snd.snd)], D.exc (Str.ofString "NoEnd") [(Str.ofString "name", D.int (a, s, w).fst)], D.exc (Str.ofString "TooMany") [(Str.ofString "most", D.int (a, s, w).snd.fst)]])]) _))))))))))))))))))))))))))))))))))))))))))))))))))
  (refine Exists.intro _ (Exists.intro _ (And.intro rfl (And.intro rfl (Exists.intro _ (And.intro rfl (Exists.intro _ (Exists.intro _ (Exists.intro _ (Exists.intro _ (And.intro rfl (And.intro y1 (And.intro (by walk_at "vside") (And.intro rfl (Exists.intro _ (Exists.intro _ (And.intro rfl (Exists.intro _ (Exists.intro _ (And.intro rfl (And.intro rfl (Exists.intro _ (And.intro rfl (Exists.intro _ (Exists.intro _ (Exists.intro _ (Exists.intro _ (And.intro rfl (And.intro y2 (And.intro (by walk_at "vside") (And.intro rfl (Exists.intro _ (Exists.intro _ (And.intro rfl (Exists.intro _ (Exists.intro _ (And.intro rfl (And.intro rfl (Exists.intro _ (And.intro rfl (Exists.intro _ (Exists.intro _ (Exists.intro _ (Exists.intro _ (And.intro rfl (And.intro y6 (And.intro (by walk_at "vside") (And.intro rfl (Exists.intro _ (Exists.intro _ (And.intro rfl (And.intro (by walk_at "vside") (Exists.intro _ (Exists.intro _ (And.intro rfl (And.intro rfl (And.intro (by walk_at "vside") (Exists.intro _ (Exists.intro _ (And.intro rfl (And.intro rfl ((?u221c2n67483g1 : Vg.Ans _ _ _ (D.lst [D.tup [D.int (a, s, w).fst], D.int (a, s, w).snd.fst, D.tup [D.int (a, s, w).fst, D.int (a, s, w).snd.fst], D.tup [D.int (a, s, w).fst, D.int 0], D.tup [D.int 0, D.int 0], D.tup [D.int 0, D.int (a, s, w).fst], D.str (a, s, w).snd.snd, D.int (a, s, w).fst, D.int (a, s, w).snd.fst]) (D.non))))))))))))))))))))))))))))))))))))))))))))))))))))))))))))))))
  exact ⟨(), trivial, rfl⟩
abbrev caughtP (a s : Int) (w : Str) : PyData := .list [.tuple [.int a, .int s], .tuple [.int s, .int a], .str w, .int a]
def C0 : Cts := ⟨fun _ => none, fun _ => none, xkOf, subOf⟩
theorem subs_of {C : Cts} (h : C.sub = subOf) {c : Str} : ∀ {cs : List Cn}, subs C c cs = subs C0 c cs
  | [] => rfl
  | d :: r => by
    unfold subs
    rw [subs_of h (cs := r), h]
    rfl
def c_law_are_caught : Ct := ct false false (α := Int × Int × Str) (β := Unit) (fun a => [.int a.1, .int a.2.1, .str a.2.2]) (fun a => (caughtP a.1 a.2.1 a.2.2).showable = true ∧ (caughtP a.1 a.2.1 a.2.2).shown.length ≤ sizeLine) (fun _ _ => True) (fun a _ => (.bl true, .non))
theorem ok_law_are_caught {C : Cts} (hx : C.xk = xkOf) (hs : C.sub = subOf) : BodyOk C c_law_are_caught n_law_are_caught.length 3 b_law_are_caught := by
  refine ct_ok (fun _ => rfl) ?_
  rintro ⟨a, s, w⟩ ⟨hw, hl⟩
  dsimp only at hw hl ⊢
  obtain ⟨⟨x1, -, -, -, -, -, -, x8, -⟩, -, y2, -, -, -, y6⟩ := xk_all hx
  have i1 := some_is x1
  have i8 := some_is x8
  have j2 := some_is y2
  have j6 := some_is y6
  have k1 : subs C "BadText" ([("BadText" : Str)].map .own) = some true := (subs_of hs).trans (by decide +kernel)
  have k2 : subs C "BadNetlist" ([("TimingError" : Str)].map .own) = some true := (subs_of hs).trans (by decide +kernel)
  have k3 : subs C "NoEnd" ([("NotThere" : Str)].map .own) = some true := (subs_of hs).trans (by decide +kernel)
  have k4 : subs C "TooMany" ([("TimingError" : Str), ("Refused" : Str)].map .own) = some true := (subs_of hs).trans (by decide +kernel)
  (refine And.intro (by walk_at "vside") (Exists.intro _ (And.intro rfl ((?u245c2n20933g1 : Vg.wMs _ _ ([Slot.val (D.int a), Slot.val (D.int s), Slot.val (D.str w), Slot.own (D.lst []), Slot.un]) _)))))
  (refine (?u246c2n20409g1 : Vg.wMs _ _ ([Slot.val (D.int a), Slot.val (D.int s), Slot.val (D.str w), Slot.own (D.lst []), Slot.un]) _))
  (refine And.intro i8 (Exists.intro _ (Exists.intro _ (And.intro rfl (Exists.intro _ (Exists.intro _ (And.intro rfl (Exists.intro _ (And.intro x8 (And.intro rfl (And.intro rfl (And.intro (by walk_at "vside") (Exists.intro _ (Exists.intro _ (And.intro x8 (And.intro k1 (And.intro (fun _ => And.intro (by walk_at "vside") (And.intro (by walk_at "vside") (Exists.intro _ (Exists.intro _ (And.intro rfl (And.intro (by walk_at "vside") (And.intro rfl (And.intro (by walk_at "vside") (And.intro (by walk_at "vside") ((?u247c2n67650g1 : Vg.wMs _ _ (List.set (reOwn [Slot.val (D.int a), Slot.val (D.int s), Slot.val (D.str w), Slot.own (D.lst []), Slot.un] 3 (D.lst ([] ++ [D.tup [D.int a, D.int s]]))) 4 Slot.un) _))))))))))) (fun h0 => Bool.noConfusion h0))))))))))))))))))
  (refine (?u248c2n65822g1 : Vg.wMs _ _ (List.set (reOwn [Slot.val (D.int a), Slot.val (D.int s), Slot.val (D.str w), Slot.own (D.lst []), Slot.un] 3 (D.lst ([] ++ [D.tup [D.int a, D.int s]]))) 4 Slot.un) _))
  (refine And.intro i1 (Exists.intro _ (Exists.intro _ (And.intro rfl (Exists.intro _ (Exists.intro _ (And.intro rfl (And.intro (by walk_at "vside") (Exists.intro _ (Exists.intro _ (And.intro rfl (Exists.intro _ (And.intro x1 (And.intro rfl (And.intro rfl (And.intro (by walk_at "vside") (Exists.intro _ (Exists.intro _ (And.intro x1 (And.intro k2 (And.intro (fun _ => And.intro (by walk_at "vside") (And.intro (by walk_at "vside") (Exists.intro _ (Exists.intro _ (And.intro rfl (And.intro (by walk_at "vside") (And.intro rfl (And.intro (by walk_at "vside") (And.intro (by walk_at "vside") (Exists.intro _ (And.intro rfl ((?u249c2n88920g1 : Vg.wMs _ _ (List.set (reOwn [Slot.val (D.int a), Slot.val (D.int s), Slot.val (D.str w), Slot.own (D.lst [D.tup [D.int a, D.int s]]), Slot.un] 3 (D.lst ([D.tup [D.int a, D.int s]] ++ [D.tup [D.int s, D.int a]]))) 4 Slot.un) _))))))))))))) (fun h0 => Bool.noConfusion h0))))))))))))))))))))))
  (refine (?u250c2n55115g1 : Vg.wMs _ _ (List.set (reOwn [Slot.val (D.int a), Slot.val (D.int s), Slot.val (D.str w), Slot.own (D.lst [D.tup [D.int a, D.int s]]), Slot.un] 3 (D.lst ([D.tup [D.int a, D.int s]] ++ [D.tup [D.int s, D.int a]]))) 4 Slot.un) _))
  (refine And.intro j2 (Exists.intro _ (Exists.intro _ (And.intro rfl (Exists.intro _ (And.intro y2 (And.intro rfl (And.intro rfl (And.intro (by walk_at "vside") (Exists.intro _ (Exists.intro _ (And.intro y2 (And.intro k3 (And.intro (fun _ => And.intro (by walk_at "vside") (And.intro (by walk_at "vside") (Exists.intro _ (Exists.intro _ (And.intro rfl (And.intro (by walk_at "vside") (And.intro rfl (And.intro (by walk_at "vside") (And.intro (by walk_at "vside") (Exists.intro _ (And.intro rfl ((?u251c2n91540g1 : Vg.wMs _ _ (List.set (reOwn [Slot.val (D.int a), Slot.val (D.int s), Slot.val (D.str w), Slot.own (D.lst [D.tup [D.int a, D.int s], D.tup [D.int s, D.int a]]), Slot.un] 3 (D.lst ([D.tup [D.int a, D.int s], D.tup [D.int s, D.int a]] ++ [D.str w]))) 4 Slot.un) _))))))))))))) (fun h0 => Bool.noConfusion h0)))))))))))))))
  (refine (?u252c2n76077g1 : Vg.wMs _ _ (List.set (reOwn [Slot.val (D.int a), Slot.val (D.int s), Slot.val (D.str w), Slot.own (D.lst [D.tup [D.int a, D.int s], D.tup [D.int s, D.int a]]), Slot.un] 3 (D.lst ([D.tup [D.int a, D.int s], D.tup [D.int s, D.int a]] ++ [D.str w]))) 4 Slot.un) _))
  (refine And.intro j6 (Exists.intro _ (Exists.intro _ (And.intro rfl (Exists.intro _ (And.intro y6 (And.intro rfl (And.intro rfl (And.intro (by walk_at "vside") (Exists.intro _ (Exists.intro _ (And.intro y6 (And.intro k4 (And.intro (fun _ => And.intro (by walk_at "vside") (And.intro (by walk_at "vside") (Exists.intro _ (Exists.intro _ (And.intro rfl (And.intro (by walk_at "vside") (And.intro rfl (And.intro (by walk_at "vside") (And.intro (by walk_at "vside") (Exists.intro _ (And.intro rfl ((?u253c2n90159g1 : Vg.wMs _ _ (List.set (reOwn [Slot.val (D.int a), Slot.val (D.int s), Slot.val (D.str w), Slot.own (D.lst [D.tup [D.int a, D.int s], D.tup [D.int s, D.int a], D.str w]), Slot.un] 3 (D.lst ([D.tup [D.int a, D.int s], D.tup [D.int s, D.int a], D.str w] ++ [D.int a]))) 4 Slot.un) _))))))))))))) (fun h0 => Bool.noConfusion h0)))))))))))))))
  (refine Exists.intro _ (And.intro rfl (Exists.intro _ (And.intro rfl (And.intro rfl (And.intro hw (And.intro rfl (And.intro (by walk_at "vside") (And.intro (by walk_at "vside") (Exists.intro _ (Exists.intro _ (And.intro rfl (Exists.intro _ (Exists.intro _ (And.intro rfl (And.intro (by walk_at "vside") (Exists.intro _ (Exists.intro _ (And.intro rfl (Exists.intro _ (Exists.intro _ (And.intro rfl (Exists.intro _ (Exists.intro _ (And.intro rfl (And.intro (by walk_at "vside") (Exists.intro _ (Exists.intro _ (And.intro rfl (Exists.intro _ (Exists.intro _ (And.intro rfl (Exists.intro _ (Exists.intro _ (And.intro rfl (And.intro (by walk_at "vside") (Exists.intro _ (And.intro rfl (Exists.intro _ (And.intro rfl (And.intro rfl (And.intro hw (And.intro rfl (And.intro (by walk_at "vside") (And.intro (by walk_at "vside") (Exists.intro _ (Exists.intro _ (And.intro rfl (And.intro rfl (Exists.intro _ (Exists.intro _ (And.intro rfl (And.intro rfl ((?u254c2n24683g1 : Vg.Ans _ _ _ (D.bl (decide ((PyData.list [PyData.tuple [PyData.int a, PyData.int s], PyData.tuple [PyData.int s, PyData.int a], PyData.str w, PyData.int a]).shown = (PyData.list [PyData.tuple [PyData.int a, PyData.int s], PyData.tuple [PyData.int s, PyData.int a], PyData.str w, PyData.int a]).shown))) (D.non))))))))))))))))))))))))))))))))))))))))))))))))))))))))
  exact ⟨(), trivial, by rw [decide_eq_true rfl]⟩
def smI (i : Int) : Prop := i.natAbs < 2 ^ 30
def smS (w : Str) : Prop := w.cps.size ≤ 10 ∧ (w.cps.toList.all fun c => decide (c < 16 ^ 8)) = true
theorem smI.log {i : Int} (h : smI i) : decide (i.natAbs.log2 < 1920) = true := by
  refine decide_eq_true ?_
  by_cases z : i.natAbs = 0
  · rw [z]; decide
  · have h : i.natAbs < 2 ^ 30 := h
    have := (Nat.log2_lt z).mpr h
    omega
theorem smI.len {i : Int} (h : smI i) : decide ((PyData.int i).shown.length ≤ 13) = true :=
  decide_eq_true (PyData.shown_int_le (by unfold smI at h; omega))
theorem smI.wt {i : Int} (h : smI i) : (PyData.int i).weight ≤ 64 := by
  rw [PyData.weight.eq_def]
  dsimp only
  split
  · omega
  · by_cases z : i.natAbs = 0
    · rw [z]; decide
    · have h : i.natAbs < 2 ^ 30 := h
      have := (Nat.log2_lt z).mpr h
      omega
theorem rep_ok {p : PyData} (h2 : PyData.leavesShort 13 p = true) (h3 : p.weight ≤ 2 ^ 20) : p.shown.length ≤ sizeLine := PyData.shown_fits (B := 13) (by decide) (by decide) h2 h3
theorem rep_caught {a s : Int} {w : Str} (ha : smI a) (hs : smI s) (hw : smS w) : (caughtP a s w).showable = true ∧ (caughtP a s w).shown.length ≤ sizeLine := by
  have a1 := ha.log
  have a2 := ha.len
  have a3 := ha.wt
  have b1 := hs.log
  have b2 := hs.len
  have b3 := hs.wt
  have w1 := hw.1
  have w2 := hw.2
  refine ⟨?_, rep_ok ?_ ?_⟩
  · simp only [caughtP, PyData.showable, PyData.showableAll, a1, b1, Bool.and_true, Bool.and_self]
  · simp only [caughtP, PyData.leavesShort, PyData.leavesShortAll, a2, b2, w2, Bool.and_true, Bool.and_self]
  · have e : (PyData.str w).weight = w.cps.size := by rw [PyData.weight.eq_def]
    simp only [caughtP, PyData.weight, PyData.weightAll] at a3 b3 e ⊢
    omega
end Vg

set_option Elab.async false
set_option linter.all false
set_option maxRecDepth 100000
set_option maxHeartbeats 1000000
namespace Vg
open PySem L2 TL
abbrev fieldsP (a s : Int) (w : Str) : PyData := .list [.tuple [.int a, .int s], .tuple [.int s], .int a, .int s, .str w, .str w, .int s, .int a]
abbrev namedP (a s : Int) (w : Str) : PyData := .list [.tuple [.int a], .int s, .tuple [.int a, .int s], .tuple [.int a, .int 0], .tuple [.int 0, .int 0], .tuple [.int 0, .int a], .str w, .int a, .int s]
theorem smI0 : smI 0 := by unfold smI; decide
theorem rep_fields {a s : Int} {w : Str} (ha : smI a) (hs : smI s) (hw : smS w) : (fieldsP a s w).showable = true ∧ (fieldsP a s w).shown.length ≤ sizeLine := by
  have a1 := ha.log
  have a2 := ha.len
  have a3 := ha.wt
  have b1 := hs.log
  have b2 := hs.len
  have b3 := hs.wt
  have w1 := hw.1
  have w2 := hw.2
  refine ⟨?_, rep_ok ?_ ?_⟩
  · simp only [fieldsP, PyData.showable, PyData.showableAll, a1, b1, Bool.and_true, Bool.and_self]
  · simp only [fieldsP, PyData.leavesShort, PyData.leavesShortAll, a2, b2, w2, Bool.and_true, Bool.and_self]
  · have e : (PyData.str w).weight = w.cps.size := by rw [PyData.weight.eq_def]
    simp only [fieldsP, PyData.weight, PyData.weightAll] at a3 b3 e ⊢
    omega
theorem rep_named {a s : Int} {w : Str} (ha : smI a) (hs : smI s) (hw : smS w) : (namedP a s w).showable = true ∧ (namedP a s w).shown.length ≤ sizeLine := by
  have a1 := ha.log
  have a2 := ha.len
  have a3 := ha.wt
  have b1 := hs.log
  have b2 := hs.len
  have b3 := hs.wt
  have z1 := smI0.log
  have z2 := smI0.len
  have z3 := smI0.wt
  have w1 := hw.1
  have w2 := hw.2
  refine ⟨?_, rep_ok ?_ ?_⟩
  · simp only [namedP, PyData.showable, PyData.showableAll, a1, b1, z1, Bool.and_true, Bool.and_self]
  · simp only [namedP, PyData.leavesShort, PyData.leavesShortAll, a2, b2, w2, z2, Bool.and_true, Bool.and_self]
  · have e : (PyData.str w).weight = w.cps.size := by rw [PyData.weight.eq_def]
    simp only [namedP, PyData.weight, PyData.weightAll] at a3 b3 z3 e ⊢
    omega
def due15 : List Str := ["netlist", "clock", "path", "filling", "check", "paper", "edit", "text", "line", "no signal", "no end", "no corner", "busy", "nothing", "many"]
def fam (j : Nat) : List Str := if j ≤ 8 then ["timing", "value"] else if j ≤ 11 then ["there", "lookup"] else ["refused", "runtime"]
def toldW (l : List (Str × Bool)) : List Str := (l.filter (·.2)).map (·.1)
theorem toldOf_eq (l : List (Str × Bool)) : toldOf l = (toldW l).map .str := by
  unfold toldOf toldW
  rw [List.map_map]
  rfl
theorem told15 : ∀ j, j < 15 → (xkOf (cls15.getD j "")).isSome = true ∧ toldW (ws15 (cls15.getD j "")) = [due15.getD j ""] ∧ toldW (fs9 (cls15.getD j "")) = fam j := by decide +kernel
theorem okdue : ∀ j, j < 15 → PyData.strOk (due15.getD j "") = true := by decide +kernel
theorem okfam : ∀ j, j < 15 → ∀ w ∈ fam j, PyData.strOk w = true := by decide +kernel
theorem goF_invU {C : Cts} {is : List Nat} {b : List Sm} {K : Kx} (ds : List D) (I : Nat → Ee → Prop) : ∀ {en : Ee}, I 0 en →
    (∀ k d e, ds[k]? = some d → I k e → ∃ xs e1, d = .tup xs ∧ setAll is xs e = some e1 ∧ wMs C b e1 { K with nx := I (k + 1), ct := I (k + 1), bk := K.nx }) → (∀ e, I ds.length e → K.nx e) →
    goF (fun d en K' => ∃ xs e1, d = .tup xs ∧ setAll is xs en = some e1 ∧ wMs C b e1 K') ds en K := by
  induction ds generalizing I with
  | nil => intro en h0 _ hd; exact hd _ h0
  | cons x xs ih =>
    intro en h0 hs hd
    obtain ⟨ys, e1, h1, h2, w⟩ := hs 0 x en rfl h0
    have step : ∀ e, I (0 + 1) e → goF (fun d en K' => ∃ xs e1, d = .tup xs ∧ setAll is xs en = some e1 ∧ wMs C b e1 K') xs e K := fun e q => ih (fun k => I (k + 1)) q (fun k d e hk => hs (k + 1) d e hk) hd
    exact ⟨ys, e1, h1, h2, mMs b (K := { K with nx := I (0 + 1), ct := I (0 + 1), bk := K.nx }) (K' := { K with nx := fun e => goF _ xs e K, ct := fun e => goF _ xs e K, bk := K.nx }) ⟨step, fun _ _ q => q, fun _ q => q, step, fun _ _ _ q => q⟩ w⟩
theorem idx_at {xs : List D} {i : Int} {m : Nat} {d : D} {Q : KR} (e : i = (m : Int)) (h : xs[m]? = some d) (q : Q (.v d)) : idxD (.lst xs) (.int i) Q := by
  subst e
  have l : m < xs.length := (List.getElem?_eq_some_iff.mp h).1
  refine ⟨d, ?_, q⟩
  unfold atI ixN
  have := (List.getElem?_eq_some_iff.mp h).2
  simp [l, this]
theorem lay_ok {ss : List Str} (h : ∀ s ∈ ss, PyData.strOk s = true) : PyData.canLay0 (.list (ss.map .str)) = true := lay_strs h
theorem eq_strs {ss : List Str} {Q : Bool → Prop} (h : ∀ s ∈ ss, PyData.strOk s = true) (q : Q true) : eqD (.lst (ss.map .str)) (.lst (ss.map .str)) Q := by
  unfold eqD
  have e : toPy (.lst (ss.map .str)) = some (.list (ss.map .str)) := by
    show (toPys (ss.map .str)).map PyData.list = _
    rw [toPys_str]
    rfl
  refine ⟨_, _, e, e, shaped_strs h, shaped_strs h, ?_⟩
  rw [SeqAt.eqv_refl _ (lay_ok h)]
  exact q
/-- what is walked, one by one -/
def madeL (a s : Int) (w : Str) : List D := ((List.range ((madeD a s w).map excD).length).zip ((madeD a s w).map excD)).map fun p => .tup [.int (p.1 : Nat), p.2]
theorem made_at {a s : Int} {w : Str} {j : Nat} {d : D} (h : (madeL a s w)[j]? = some d) : j < 15 ∧ ∃ fs, d = .tup [.int (j : Nat), .exc (cls15.getD j "") fs] := by
  have l : j < 15 := (List.getElem?_eq_some_iff.mp h).1
  refine ⟨l, ?_⟩
  have e : ∀ j, j < 15 → ∃ fs, (madeL a s w)[j]? = some (.tup [.int (j : Nat), .exc (cls15.getD j "") fs]) := by
    intro j h
    match j, h with
    | 0, _ => exact ⟨_, rfl⟩
    | 1, _ => exact ⟨_, rfl⟩
    | 2, _ => exact ⟨_, rfl⟩
    | 3, _ => exact ⟨_, rfl⟩
    | 4, _ => exact ⟨_, rfl⟩
    | 5, _ => exact ⟨_, rfl⟩
    | 6, _ => exact ⟨_, rfl⟩
    | 7, _ => exact ⟨_, rfl⟩
    | 8, _ => exact ⟨_, rfl⟩
    | 9, _ => exact ⟨_, rfl⟩
    | 10, _ => exact ⟨_, rfl⟩
    | 11, _ => exact ⟨_, rfl⟩
    | 12, _ => exact ⟨_, rfl⟩
    | 13, _ => exact ⟨_, rfl⟩
    | 14, _ => exact ⟨_, rfl⟩
  obtain ⟨fs, e⟩ := e j l
  rw [h] at e
  exact ⟨fs, by injection e⟩
theorem Dr.mut {n : Nat} {d : D} (h : Dr n d) : isMut d = true := by
  obtain ⟨cs, a, l, u, rfl, _⟩ := h
  rfl
theorem callBegin {ns : List Int} {en : Ee} {Q : KQ} {X : KX} (h : ns.length < 900) (k : ∀ d, Dr 0 d → Q (.f d) en) : callD c_begin [.v (.scr ns)] en Q X :=
  call0 ns rfl rfl h fun d hd => by
    have := k d hd
    simpa [hd.mut] using this
theorem idx_fam {j : Nat} {Q : KR} (q : Q (.v (.lst ((fam j).map .str)))) : idxD (.lst [.lst [.str "timing", .str "value"], .lst [.str "there", .str "lookup"], .lst [.str "refused", .str "runtime"]]) (.int ((if decide ((8 : Int) < (j : Int)) = true then 1 else 0) + if decide ((11 : Int) < (j : Int)) = true then 1 else 0)) Q := by
  unfold fam at q
  by_cases h1 : j ≤ 8
  · rw [if_pos h1] at q
    have e1 : decide ((8 : Int) < (j : Int)) = false := decide_eq_false (by omega)
    have e2 : decide ((11 : Int) < (j : Int)) = false := decide_eq_false (by omega)
    rw [e1, e2]
    exact idx_at (m := 0) rfl rfl q
  · rw [if_neg h1] at q
    have e1 : decide ((8 : Int) < (j : Int)) = true := decide_eq_true (by omega)
    rw [e1]
    by_cases h2 : j ≤ 11
    · rw [if_pos h2] at q
      have e2 : decide ((11 : Int) < (j : Int)) = false := decide_eq_false (by omega)
      rw [e2]
      exact idx_at (m := 1) rfl rfl q
    · rw [if_neg h2] at q
      have e2 : decide ((11 : Int) < (j : Int)) = true := decide_eq_true (by omega)
      rw [e2]
      exact idx_at (m := 2) rfl rfl q
theorem eq_told {l : List (Str × Bool)} {Q : Bool → Prop} (ss : List Str) (e : toldW l = ss) (h : ∀ s ∈ ss, PyData.strOk s = true) (q : Q true) : eqD (.lst (toldOf l)) (.lst (ss.map .str)) Q := by
  rw [toldOf_eq, e]
  exact eq_strs h q
def c_law : Ct := ct false false (α := List Int) (β := Unit) (fun a => [.scr a]) (fun a => a.length ≤ 63) (fun _ _ => True) (fun _ _ => (.bl true, .non))
theorem ok_law {C : Cts} (h1 : C.fn "_law_begin" = some c_begin) (h2 : C.fn "_law_next" = some c_next) (h3 : C.fn "_law_made" = some c_law_made) (h4 : C.fn "_law_words" = some c_law_words) (h5 : C.fn "_law_families" = some c_law_families) (h6 : C.fn "_law_fields" = some c_law_fields) (h7 : C.fn "_law_by_names" = some c_law_by_names) (h8 : C.fn "_law_are_caught" = some c_law_are_caught) : BodyOk C c_law n_law.length 1 b_law := by
  refine ct_ok (fun _ => rfl) ?_
  intro ns hl
  (refine Exists.intro _ (And.intro h1 ((?u142c2n15458g1 : Vg.callD (c_begin) ([RV.v (D.scr ns)]) ([Slot.val (D.scr ns), Slot.un, Slot.un, Slot.un, Slot.un, Slot.un, Slot.un, Slot.un, Slot.un, Slot.un, Slot.un, Slot.un]) _ _))))
  refine callBegin (by omega) fun d0 hd0 => ?_
  (refine Exists.intro _ (And.intro rfl ((?u144c2n41449g1 : Vg.wMs _ _ ([Slot.val (D.scr ns), Slot.own d0, Slot.un, Slot.un, Slot.un, Slot.un, Slot.un, Slot.un, Slot.un, Slot.un, Slot.un, Slot.un]) _))))
  (refine Exists.intro _ (Exists.intro _ (And.intro rfl (Exists.intro _ (Exists.intro _ (And.intro rfl (Exists.intro _ (Exists.intro _ (And.intro rfl (Exists.intro _ (Exists.intro _ (And.intro rfl (Exists.intro _ (Exists.intro _ (And.intro rfl (Exists.intro _ (Exists.intro _ (And.intro rfl (Exists.intro _ (Exists.intro _ (And.intro rfl (Exists.intro _ (Exists.intro _ (And.intro rfl (Exists.intro _ (Exists.intro _ (And.intro rfl (And.intro (by walk_at "vside") (Exists.intro _ (And.intro rfl ((?u145c2n46901g1 : Vg.wMs _ _ ([Slot.val (D.scr ns), Slot.own d0, Slot.val (D.lst [D.str (Str.ofString "netlist"), D.str (Str.ofString "clock"), D.str (Str.ofString "path"), D.str (Str.ofString "filling"), D.str (Str.ofString "check"), D.str (Str.ofString "paper"), D.str (Str.ofString "edit"), D.str (Str.ofString "text"), D.str (Str.ofString "line")]), Slot.un, Slot.un, Slot.un, Slot.un, Slot.un, Slot.un, Slot.un, Slot.un, Slot.un]) _))))))))))))))))))))))))))))))))
  (refine Exists.intro _ (Exists.intro _ (And.intro rfl (Exists.intro _ (Exists.intro _ (And.intro rfl (Exists.intro _ (Exists.intro _ (And.intro rfl (Exists.intro _ (Exists.intro _ (And.intro rfl (Exists.intro _ (Exists.intro _ (And.intro rfl (Exists.intro _ (Exists.intro _ (And.intro rfl (And.intro (by walk_at "vside") (Exists.intro _ (Exists.intro _ (And.intro rfl (And.intro rfl (And.intro (by walk_at "vside") (Exists.intro _ (And.intro rfl ((?u146c2n26403g1 : Vg.wMs _ _ ([Slot.val (D.scr ns), Slot.own d0, Slot.val (D.lst [D.str (Str.ofString "netlist"), D.str (Str.ofString "clock"), D.str (Str.ofString "path"), D.str (Str.ofString "filling"), D.str (Str.ofString "check"), D.str (Str.ofString "paper"), D.str (Str.ofString "edit"), D.str (Str.ofString "text"), D.str (Str.ofString "line"), D.str (Str.ofString "no signal"), D.str (Str.ofString "no end"), D.str (Str.ofString "no corner"), D.str (Str.ofString "busy"), D.str (Str.ofString "nothing"), D.str (Str.ofString "many")]), Slot.un, Slot.un, Slot.un, Slot.un, Slot.un, Slot.un, Slot.un, Slot.un, Slot.un]) _))))))))))))))))))))))))))))
  (refine Exists.intro _ (And.intro rfl (Exists.intro _ (And.intro rfl (Exists.intro _ (Exists.intro _ (And.intro rfl (And.intro rfl (Exists.intro _ (And.intro rfl (And.intro (by walk_at "vside") (And.intro (by walk_at "vside") (Exists.intro _ (Exists.intro _ (And.intro rfl ((?u147c2n49226g1 : Vg.goF _ (rngD 0 ((if (↑ns.length : Int) < 40 then (↑ns.length : Int) else 40) + 1).toNat) ([Slot.val (D.scr ns), Slot.own d0, Slot.val (D.lst [D.str (Str.ofString "netlist"), D.str (Str.ofString "clock"), D.str (Str.ofString "path"), D.str (Str.ofString "filling"), D.str (Str.ofString "check"), D.str (Str.ofString "paper"), D.str (Str.ofString "edit"), D.str (Str.ofString "text"), D.str (Str.ofString "line"), D.str (Str.ofString "no signal"), D.str (Str.ofString "no end"), D.str (Str.ofString "no corner"), D.str (Str.ofString "busy"), D.str (Str.ofString "nothing"), D.str (Str.ofString "many")]), Slot.un, Slot.un, Slot.un, Slot.un, Slot.un, Slot.un, Slot.un, Slot.un, Slot.un]) _)))))))))))))))))
  refine goF_inv _ (fun k e => ∃ (d : D) (x3 x4 x5 x6 x7 x8 x9 x10 x11 : Vg.Slot), e = [.val (.scr ns), .own d, .val (.lst (due15.map .str)), x3, x4, x5, x6, x7, x8, x9, x10, x11] ∧ Dr (k * 3) d ∧ uv x3 ∧ uv x4 ∧ uv x5 ∧ uv x6 ∧ uv x7 ∧ uv x8 ∧ uv x9 ∧ uv x10 ∧ uv x11)
    ⟨d0, .un, .un, .un, .un, .un, .un, .un, .un, .un, rfl, hd0, .inl rfl, .inl rfl, .inl rfl, .inl rfl, .inl rfl, .inl rfl, .inl rfl, .inl rfl, .inl rfl⟩ ?_ ?_
  · rintro k x e hk ⟨d, x3, x4, x5, x6, x7, x8, x9, x10, x11, rfl, hd, u3, u4, u5, u6, u7, u8, u9, u10, u11⟩
    obtain ⟨k1, rfl⟩ := rng_get hk
    have k1 : k ≤ 63 := by
      simp at k1
      omega
    (refine Exists.intro _ (And.intro (Vg.setV_at rfl u3) ((?u155c4n80090g1 : Vg.wMs _ _ ([Slot.val (D.scr ns), Slot.own d, Slot.val (D.lst [D.str (Str.ofString "netlist"), D.str (Str.ofString "clock"), D.str (Str.ofString "path"), D.str (Str.ofString "filling"), D.str (Str.ofString "check"), D.str (Str.ofString "paper"), D.str (Str.ofString "edit"), D.str (Str.ofString "text"), D.str (Str.ofString "line"), D.str (Str.ofString "no signal"), D.str (Str.ofString "no end"), D.str (Str.ofString "no corner"), D.str (Str.ofString "busy"), D.str (Str.ofString "nothing"), D.str (Str.ofString "many")]), Slot.val (D.int (0 + (↑k : Int))), x4, x5, x6, x7, x8, x9, x10, x11]) _))))
    (refine Exists.intro _ (And.intro h2 (Exists.intro _ (Exists.intro _ (And.intro rfl (And.intro rfl (And.intro (by walk_at "vside") ((?u156c4n29645g1 : Vg.callD (c_next) ([RV.o 1, RV.v (D.int (10 ^ Int.toNat 9))]) ([Slot.val (D.scr ns), Slot.own d, Slot.val (D.lst [D.str (Str.ofString "netlist"), D.str (Str.ofString "clock"), D.str (Str.ofString "path"), D.str (Str.ofString "filling"), D.str (Str.ofString "check"), D.str (Str.ofString "paper"), D.str (Str.ofString "edit"), D.str (Str.ofString "text"), D.str (Str.ofString "line"), D.str (Str.ofString "no signal"), D.str (Str.ofString "no end"), D.str (Str.ofString "no corner"), D.str (Str.ofString "busy"), D.str (Str.ofString "nothing"), D.str (Str.ofString "many")]), Slot.val (D.int (0 + (↑k : Int))), x4, x5, x6, x7, x8, x9, x10, x11]) _ _)))))))))
    refine callNext hd (by omega) rfl (by decide) (by decide) fun amt d1 a0 a1 hd1 => ?_
    (refine Exists.intro _ (And.intro h2 ((?u158c4n75608g1 : Vg.callD (c_next) ([RV.o 1, RV.v (D.int 40)]) ([Slot.val (D.scr ns), Slot.own d1, Slot.val (D.lst [D.str (Str.ofString "netlist"), D.str (Str.ofString "clock"), D.str (Str.ofString "path"), D.str (Str.ofString "filling"), D.str (Str.ofString "check"), D.str (Str.ofString "paper"), D.str (Str.ofString "edit"), D.str (Str.ofString "text"), D.str (Str.ofString "line"), D.str (Str.ofString "no signal"), D.str (Str.ofString "no end"), D.str (Str.ofString "no corner"), D.str (Str.ofString "busy"), D.str (Str.ofString "nothing"), D.str (Str.ofString "many")]), Slot.val (D.int (0 + (↑k : Int))), x4, x5, x6, x7, x8, x9, x10, x11]) _ _))))
    refine callNext hd1 (by omega) rfl (by decide) (by decide) fun spot d2 s0 s1 hd2 => ?_
    (refine And.intro (by walk_at "vside") (And.intro (by walk_at "vside") (Exists.intro _ (Exists.intro _ (And.intro (Vg.asgV_at rfl u4) (And.intro (Vg.asgV_at rfl u5) ((?u160c4n19913g1 : Vg.wMs _ _ ([Slot.val (D.scr ns), Slot.own d2, Slot.val (D.lst [D.str (Str.ofString "netlist"), D.str (Str.ofString "clock"), D.str (Str.ofString "path"), D.str (Str.ofString "filling"), D.str (Str.ofString "check"), D.str (Str.ofString "paper"), D.str (Str.ofString "edit"), D.str (Str.ofString "text"), D.str (Str.ofString "line"), D.str (Str.ofString "no signal"), D.str (Str.ofString "no end"), D.str (Str.ofString "no corner"), D.str (Str.ofString "busy"), D.str (Str.ofString "nothing"), D.str (Str.ofString "many")]), Slot.val (D.int (0 + (↑k : Int))), Slot.val (D.int amt), Slot.val (D.int spot), x6, x7, x8, x9, x10, x11]) _))))))))
    (refine Exists.intro _ (Exists.intro _ (And.intro rfl (Exists.intro _ (Exists.intro _ (And.intro rfl (Exists.intro _ (Exists.intro _ (And.intro rfl (Exists.intro _ (Exists.intro _ (And.intro rfl (And.intro (by walk_at "vside") (Exists.intro _ (And.intro h2 ((?u161c4n8534g1 : Vg.callD (c_next) ([RV.o 1, RV.v (D.int 4)]) ([Slot.val (D.scr ns), Slot.own d2, Slot.val (D.lst [D.str (Str.ofString "netlist"), D.str (Str.ofString "clock"), D.str (Str.ofString "path"), D.str (Str.ofString "filling"), D.str (Str.ofString "check"), D.str (Str.ofString "paper"), D.str (Str.ofString "edit"), D.str (Str.ofString "text"), D.str (Str.ofString "line"), D.str (Str.ofString "no signal"), D.str (Str.ofString "no end"), D.str (Str.ofString "no corner"), D.str (Str.ofString "busy"), D.str (Str.ofString "nothing"), D.str (Str.ofString "many")]), Slot.val (D.int (0 + (↑k : Int))), Slot.val (D.int amt), Slot.val (D.int spot), x6, x7, x8, x9, x10, x11]) _ _)))))))))))))))))
    refine callNext hd2 (by omega) rfl (by decide) (by decide) fun w d3 w0 w1 hd3 => ?_
    (refine Exists.intro _ (Exists.intro _ (And.intro rfl (And.intro rfl ((?u163c4n51825g1 : Vg.idxD (D.lst [D.str (Str.ofString "name"), D.str (Str.ofString "a"), D.str (Str.ofString ""), D.str (Str.ofString "longer")]) (D.int w) _))))))
    refine idx_lst w0 (by simp; omega) fun what hw => ?_
    obtain ⟨w, rfl, sw⟩ : ∃ w, what = .str w ∧ smS w := by
      simp only [List.mem_cons, List.not_mem_nil, or_false] at hw
      rcases hw with rfl | rfl | rfl | rfl
      · exact ⟨_, rfl, by decide +kernel, by decide +kernel⟩
      · exact ⟨_, rfl, by decide +kernel, by decide +kernel⟩
      · exact ⟨_, rfl, by decide +kernel, by decide +kernel⟩
      · exact ⟨_, rfl, by decide +kernel, by decide +kernel⟩
    clear hw
    (refine Exists.intro _ (And.intro (Vg.asgV_at rfl u6) ((?u173c4n9403g1 : Vg.wMs _ _ ([Slot.val (D.scr ns), Slot.own d3, Slot.val (D.lst [D.str (Str.ofString "netlist"), D.str (Str.ofString "clock"), D.str (Str.ofString "path"), D.str (Str.ofString "filling"), D.str (Str.ofString "check"), D.str (Str.ofString "paper"), D.str (Str.ofString "edit"), D.str (Str.ofString "text"), D.str (Str.ofString "line"), D.str (Str.ofString "no signal"), D.str (Str.ofString "no end"), D.str (Str.ofString "no corner"), D.str (Str.ofString "busy"), D.str (Str.ofString "nothing"), D.str (Str.ofString "many")]), Slot.val (D.int (0 + (↑k : Int))), Slot.val (D.int amt), Slot.val (D.int spot), Slot.val (D.str w), x7, x8, x9, x10, x11]) _))))
    (refine Exists.intro _ (And.intro h3 ((?u174c4n34638g1 : Vg.callD (c_law_made) ([RV.v (D.int amt), RV.v (D.int spot), RV.v (D.str w)]) ([Slot.val (D.scr ns), Slot.own d3, Slot.val (D.lst [D.str (Str.ofString "netlist"), D.str (Str.ofString "clock"), D.str (Str.ofString "path"), D.str (Str.ofString "filling"), D.str (Str.ofString "check"), D.str (Str.ofString "paper"), D.str (Str.ofString "edit"), D.str (Str.ofString "text"), D.str (Str.ofString "line"), D.str (Str.ofString "no signal"), D.str (Str.ofString "no end"), D.str (Str.ofString "no corner"), D.str (Str.ofString "busy"), D.str (Str.ofString "nothing"), D.str (Str.ofString "many")]), Slot.val (D.int (0 + (↑k : Int))), Slot.val (D.int amt), Slot.val (D.int spot), Slot.val (D.str w), x7, x8, x9, x10, x11]) _ _))))
    refine call0 (amt, spot, w) rfl rfl trivial fun _ _ => ?_
    (refine Exists.intro _ (And.intro (Vg.asgV_at rfl u7) ((?u176c4n58946g1 : Vg.wMs _ _ ([Slot.val (D.scr ns), Slot.own d3, Slot.val (D.lst [D.str (Str.ofString "netlist"), D.str (Str.ofString "clock"), D.str (Str.ofString "path"), D.str (Str.ofString "filling"), D.str (Str.ofString "check"), D.str (Str.ofString "paper"), D.str (Str.ofString "edit"), D.str (Str.ofString "text"), D.str (Str.ofString "line"), D.str (Str.ofString "no signal"), D.str (Str.ofString "no end"), D.str (Str.ofString "no corner"), D.str (Str.ofString "busy"), D.str (Str.ofString "nothing"), D.str (Str.ofString "many")]), Slot.val (D.int (0 + (↑k : Int))), Slot.val (D.int amt), Slot.val (D.int spot), Slot.val (D.str w), Slot.val (D.lst [D.exc (Str.ofString "BadNetlist", [(Str.ofString "place", D.tup [D.int (amt, spot, w).fst, D.int (amt, spot, w).snd.fst])]).fst [(Str.ofString "place", D.tup [D.int (amt, spot, w).fst, D.int (amt, spot, w).snd.fst])], D.exc (Str.ofString "BadClock", []).fst [], D.exc (Str.ofString "BadPath", []).fst [], D.exc (Str.ofString "BadFilling", []).fst [], D.exc (Str.ofString "BadCheck", []).fst [], D.exc (Str.ofString "BadPaper", [(Str.ofString "place", D.tup [D.int (amt, spot, w).snd.fst])]).fst [(Str.ofString "place", D.tup [D.int (amt, spot, w).snd.fst])], D.exc (Str.ofString "BadEdit", []).fst [], D.exc (Str.ofString "BadText", [(Str.ofString "line", D.int (amt, spot, w).fst), (Str.ofString "word", D.int (amt, spot, w).snd.fst)]).fst [(Str.ofString "line", D.int (amt, spot, w).fst), (Str.ofString "word", D.int (amt, spot, w).snd.fst)], D.exc (Str.ofString "BadLine", []).fst [], D.exc (Str.ofString "NoSignal", [(Str.ofString "name", D.str (amt, spot, w).snd.snd)]).fst [(Str.ofString "name", D.str (amt, spot, w).snd.snd)], D.exc (Str.ofString "NoEnd", [(Str.ofString "name", D.str (amt, spot, w).snd.snd)]).fst [(Str.ofString "name", D.str (amt, spot, w).snd.snd)], D.exc (Str.ofString "NoCorner", [(Str.ofString "number", D.int (amt, spot, w).snd.fst)]).fst [(Str.ofString "number", D.int (amt, spot, w).snd.fst)], D.exc (Str.ofString "Busy", []).fst [], D.exc (Str.ofString "NothingDone", []).fst [], D.exc (Str.ofString "TooMany", [(Str.ofString "most", D.int (amt, spot, w).fst)]).fst [(Str.ofString "most", D.int (amt, spot, w).fst)]]), x8, x9, x10, x11]) _))))
    (refine Exists.intro _ (And.intro rfl (And.intro (by walk_at "vside") (Exists.intro _ (Exists.intro _ (And.intro rfl ((?u177c4n68252g1 : Vg.goF _ (List.map (fun p ↦ D.tup [D.int (↑p.fst : Int), p.snd]) ((List.range [D.exc (Str.ofString "BadNetlist", [(Str.ofString "place", D.tup [D.int (amt, spot, w).fst, D.int (amt, spot, w).snd.fst])]).fst [(Str.ofString "place", D.tup [D.int (amt, spot, w).fst, D.int (amt, spot, w).snd.fst])], D.exc (Str.ofString "BadClock", []).fst [], D.exc (Str.ofString "BadPath", []).fst [], D.exc (Str.ofString "BadFilling", []).fst [], D.exc (Str.ofString "BadCheck", []).fst [], D.exc (Str.ofString "BadPaper", [(Str.ofString "place", D.tup [D.int (amt, spot, w).snd.fst])]).fst [(Str.ofString "place", D.tup [D.int (amt, spot, w).snd.fst])], D.exc (Str.ofString "BadEdit", []).fst [], D.exc (Str.ofString "BadText", [(Str.ofString "line", D.int (amt, spot, w).fst), (Str.ofString "word", D.int (amt, spot, w).snd.fst)]).fst [(Str.ofString "line", D.int (amt, spot, w).fst), (Str.ofString "word", D.int (amt, spot, w).snd.fst)], D.exc (Str.ofString "BadLine", []).fst [], D.exc (Str.ofString "NoSignal", [(Str.ofString "name", D.str (amt, spot, w).snd.snd)]).fst [(Str.ofString "name", D.str (amt, spot, w).snd.snd)], D.exc (Str.ofString "NoEnd", [(Str.ofString "name", D.str (amt, spot, w).snd.snd)]).fst [(Str.ofString "name", D.str (amt, spot, w).snd.snd)], D.exc (Str.ofString "NoCorner", [(Str.ofString "number", D.int (amt, spot, w).snd.fst)]).fst [(Str.ofString "number", D.int (amt, spot, w).snd.fst)], D.exc (Str.ofString "Busy", []).fst [], D.exc (Str.ofString "NothingDone", []).fst [], D.exc (Str.ofString "TooMany", [(Str.ofString "most", D.int (amt, spot, w).fst)]).fst [(Str.ofString "most", D.int (amt, spot, w).fst)]].length).zip [D.exc (Str.ofString "BadNetlist", [(Str.ofString "place", D.tup [D.int (amt, spot, w).fst, D.int (amt, spot, w).snd.fst])]).fst [(Str.ofString "place", D.tup [D.int (amt, spot, w).fst, D.int (amt, spot, w).snd.fst])], D.exc (Str.ofString "BadClock", []).fst [], D.exc (Str.ofString "BadPath", []).fst [], D.exc (Str.ofString "BadFilling", []).fst [], D.exc (Str.ofString "BadCheck", []).fst [], D.exc (Str.ofString "BadPaper", [(Str.ofString "place", D.tup [D.int (amt, spot, w).snd.fst])]).fst [(Str.ofString "place", D.tup [D.int (amt, spot, w).snd.fst])], D.exc (Str.ofString "BadEdit", []).fst [], D.exc (Str.ofString "BadText", [(Str.ofString "line", D.int (amt, spot, w).fst), (Str.ofString "word", D.int (amt, spot, w).snd.fst)]).fst [(Str.ofString "line", D.int (amt, spot, w).fst), (Str.ofString "word", D.int (amt, spot, w).snd.fst)], D.exc (Str.ofString "BadLine", []).fst [], D.exc (Str.ofString "NoSignal", [(Str.ofString "name", D.str (amt, spot, w).snd.snd)]).fst [(Str.ofString "name", D.str (amt, spot, w).snd.snd)], D.exc (Str.ofString "NoEnd", [(Str.ofString "name", D.str (amt, spot, w).snd.snd)]).fst [(Str.ofString "name", D.str (amt, spot, w).snd.snd)], D.exc (Str.ofString "NoCorner", [(Str.ofString "number", D.int (amt, spot, w).snd.fst)]).fst [(Str.ofString "number", D.int (amt, spot, w).snd.fst)], D.exc (Str.ofString "Busy", []).fst [], D.exc (Str.ofString "NothingDone", []).fst [], D.exc (Str.ofString "TooMany", [(Str.ofString "most", D.int (amt, spot, w).fst)]).fst [(Str.ofString "most", D.int (amt, spot, w).fst)]])) ([Slot.val (D.scr ns), Slot.own d3, Slot.val (D.lst [D.str (Str.ofString "netlist"), D.str (Str.ofString "clock"), D.str (Str.ofString "path"), D.str (Str.ofString "filling"), D.str (Str.ofString "check"), D.str (Str.ofString "paper"), D.str (Str.ofString "edit"), D.str (Str.ofString "text"), D.str (Str.ofString "line"), D.str (Str.ofString "no signal"), D.str (Str.ofString "no end"), D.str (Str.ofString "no corner"), D.str (Str.ofString "busy"), D.str (Str.ofString "nothing"), D.str (Str.ofString "many")]), Slot.val (D.int (0 + (↑k : Int))), Slot.val (D.int amt), Slot.val (D.int spot), Slot.val (D.str w), Slot.val (D.lst [D.exc (Str.ofString "BadNetlist", [(Str.ofString "place", D.tup [D.int (amt, spot, w).fst, D.int (amt, spot, w).snd.fst])]).fst [(Str.ofString "place", D.tup [D.int (amt, spot, w).fst, D.int (amt, spot, w).snd.fst])], D.exc (Str.ofString "BadClock", []).fst [], D.exc (Str.ofString "BadPath", []).fst [], D.exc (Str.ofString "BadFilling", []).fst [], D.exc (Str.ofString "BadCheck", []).fst [], D.exc (Str.ofString "BadPaper", [(Str.ofString "place", D.tup [D.int (amt, spot, w).snd.fst])]).fst [(Str.ofString "place", D.tup [D.int (amt, spot, w).snd.fst])], D.exc (Str.ofString "BadEdit", []).fst [], D.exc (Str.ofString "BadText", [(Str.ofString "line", D.int (amt, spot, w).fst), (Str.ofString "word", D.int (amt, spot, w).snd.fst)]).fst [(Str.ofString "line", D.int (amt, spot, w).fst), (Str.ofString "word", D.int (amt, spot, w).snd.fst)], D.exc (Str.ofString "BadLine", []).fst [], D.exc (Str.ofString "NoSignal", [(Str.ofString "name", D.str (amt, spot, w).snd.snd)]).fst [(Str.ofString "name", D.str (amt, spot, w).snd.snd)], D.exc (Str.ofString "NoEnd", [(Str.ofString "name", D.str (amt, spot, w).snd.snd)]).fst [(Str.ofString "name", D.str (amt, spot, w).snd.snd)], D.exc (Str.ofString "NoCorner", [(Str.ofString "number", D.int (amt, spot, w).snd.fst)]).fst [(Str.ofString "number", D.int (amt, spot, w).snd.fst)], D.exc (Str.ofString "Busy", []).fst [], D.exc (Str.ofString "NothingDone", []).fst [], D.exc (Str.ofString "TooMany", [(Str.ofString "most", D.int (amt, spot, w).fst)]).fst [(Str.ofString "most", D.int (amt, spot, w).fst)]]), x8, x9, x10, x11]) _))))))))
    refine goF_invU (madeL amt spot w) (fun _ e => ∃ y8 y9 y10 : Vg.Slot, e = [.val (.scr ns), .own d3, .val (.lst (due15.map .str)), .val (.int (0 + k)), .val (.int amt), .val (.int spot), .val (.str w), .val (.lst ((madeD amt spot w).map excD)), y8, y9, y10, x11] ∧ uv y8 ∧ uv y9 ∧ uv y10) ⟨x8, x9, x10, rfl, u8, u9, u10⟩ ?_ ?_
    · rintro j x e hj ⟨y8, y9, y10, rfl, v8, v9, v10⟩
      obtain ⟨lj, fs, rfl⟩ := made_at hj
      obtain ⟨c1, c2, c3⟩ := told15 j lj
      have kd := okdue j lj
      have kf := okfam j lj
      generalize cls15.getD j "" = c at *
      have hd15 : (due15.map D.str)[j]? = some (.str (due15.getD j "")) := by
        rw [List.getElem?_map, List.getElem?_eq_getElem (by exact lj), List.getD_eq_getElem?_getD, List.getElem?_eq_getElem (by exact lj)]
        rfl
      refine ⟨_, [.val (.scr ns), .own d3, .val (.lst (due15.map .str)), .val (.int (0 + k)), .val (.int amt), .val (.int spot), .val (.str w), .val (.lst ((madeD amt spot w).map excD)), .val (.int (j : Nat)), .val (.exc c fs), y10, x11], rfl, ?_, ?_⟩
      · rcases v8 with rfl | ⟨_, rfl⟩ <;> rcases v9 with rfl | ⟨_, rfl⟩ <;> rfl
      (refine Exists.intro _ (Exists.intro _ (And.intro rfl (Exists.intro _ (Exists.intro _ (And.intro rfl (And.intro (by walk_at "vside") (Exists.intro _ (Exists.intro _ (And.intro rfl (Exists.intro _ (Exists.intro _ (And.intro rfl (Exists.intro _ (Exists.intro _ (And.intro rfl (And.intro (by walk_at "vside") (Exists.intro _ (Exists.intro _ (And.intro rfl (Exists.intro _ (Exists.intro _ (And.intro rfl (Exists.intro _ (Exists.intro _ (And.intro rfl (And.intro (by walk_at "vside") (Exists.intro _ (Exists.intro _ (And.intro rfl (And.intro (by walk_at "vside") (Exists.intro _ (Exists.intro _ (And.intro rfl (And.intro rfl (Exists.intro _ (And.intro rfl (Exists.intro _ (Exists.intro _ (And.intro rfl (And.intro rfl (Exists.intro _ (And.intro rfl (Exists.intro _ (Exists.intro _ (And.intro rfl (And.intro rfl (Exists.intro _ (Exists.intro _ (And.intro rfl (And.intro rfl ((?u190c6n32234g1 : Vg.idxD (D.lst [D.lst [D.str (Str.ofString "timing"), D.str (Str.ofString "value")], D.lst [D.str (Str.ofString "there"), D.str (Str.ofString "lookup")], D.lst [D.str (Str.ofString "refused"), D.str (Str.ofString "runtime")]]) (D.int ((if decide (8 < (↑j : Int)) = true then 1 else 0) + if decide (11 < (↑j : Int)) = true then 1 else 0)) _)))))))))))))))))))))))))))))))))))))))))))))))))))))
      refine idx_fam ?_
      (refine Exists.intro _ (And.intro (Vg.asgV_at rfl v10) ((?u192c6n16959g1 : Vg.wMs _ _ ([Slot.val (D.scr ns), Slot.own d3, Slot.val (D.lst [D.str (Str.ofString "netlist"), D.str (Str.ofString "clock"), D.str (Str.ofString "path"), D.str (Str.ofString "filling"), D.str (Str.ofString "check"), D.str (Str.ofString "paper"), D.str (Str.ofString "edit"), D.str (Str.ofString "text"), D.str (Str.ofString "line"), D.str (Str.ofString "no signal"), D.str (Str.ofString "no end"), D.str (Str.ofString "no corner"), D.str (Str.ofString "busy"), D.str (Str.ofString "nothing"), D.str (Str.ofString "many")]), Slot.val (D.int (0 + (↑k : Int))), Slot.val (D.int amt), Slot.val (D.int spot), Slot.val (D.str w), Slot.val (D.lst [D.exc (Str.ofString "BadNetlist", [(Str.ofString "place", D.tup [D.int amt, D.int spot])]).fst [(Str.ofString "place", D.tup [D.int amt, D.int spot])], D.exc (Str.ofString "BadClock", []).fst [], D.exc (Str.ofString "BadPath", []).fst [], D.exc (Str.ofString "BadFilling", []).fst [], D.exc (Str.ofString "BadCheck", []).fst [], D.exc (Str.ofString "BadPaper", [(Str.ofString "place", D.tup [D.int spot])]).fst [(Str.ofString "place", D.tup [D.int spot])], D.exc (Str.ofString "BadEdit", []).fst [], D.exc (Str.ofString "BadText", [(Str.ofString "line", D.int amt), (Str.ofString "word", D.int spot)]).fst [(Str.ofString "line", D.int amt), (Str.ofString "word", D.int spot)], D.exc (Str.ofString "BadLine", []).fst [], D.exc (Str.ofString "NoSignal", [(Str.ofString "name", D.str w)]).fst [(Str.ofString "name", D.str w)], D.exc (Str.ofString "NoEnd", [(Str.ofString "name", D.str w)]).fst [(Str.ofString "name", D.str w)], D.exc (Str.ofString "NoCorner", [(Str.ofString "number", D.int spot)]).fst [(Str.ofString "number", D.int spot)], D.exc (Str.ofString "Busy", []).fst [], D.exc (Str.ofString "NothingDone", []).fst [], D.exc (Str.ofString "TooMany", [(Str.ofString "most", D.int amt)]).fst [(Str.ofString "most", D.int amt)]]), Slot.val (D.int (↑j : Int)), Slot.val (D.exc c fs), Slot.val (D.lst (List.map D.str (fam j))), x11]) _))))
      (refine Exists.intro _ (And.intro h4 ((?u193c6n63783g1 : Vg.callD (c_law_words) ([RV.v (D.exc c fs)]) ([Slot.val (D.scr ns), Slot.own d3, Slot.val (D.lst [D.str (Str.ofString "netlist"), D.str (Str.ofString "clock"), D.str (Str.ofString "path"), D.str (Str.ofString "filling"), D.str (Str.ofString "check"), D.str (Str.ofString "paper"), D.str (Str.ofString "edit"), D.str (Str.ofString "text"), D.str (Str.ofString "line"), D.str (Str.ofString "no signal"), D.str (Str.ofString "no end"), D.str (Str.ofString "no corner"), D.str (Str.ofString "busy"), D.str (Str.ofString "nothing"), D.str (Str.ofString "many")]), Slot.val (D.int (0 + (↑k : Int))), Slot.val (D.int amt), Slot.val (D.int spot), Slot.val (D.str w), Slot.val (D.lst [D.exc (Str.ofString "BadNetlist", [(Str.ofString "place", D.tup [D.int amt, D.int spot])]).fst [(Str.ofString "place", D.tup [D.int amt, D.int spot])], D.exc (Str.ofString "BadClock", []).fst [], D.exc (Str.ofString "BadPath", []).fst [], D.exc (Str.ofString "BadFilling", []).fst [], D.exc (Str.ofString "BadCheck", []).fst [], D.exc (Str.ofString "BadPaper", [(Str.ofString "place", D.tup [D.int spot])]).fst [(Str.ofString "place", D.tup [D.int spot])], D.exc (Str.ofString "BadEdit", []).fst [], D.exc (Str.ofString "BadText", [(Str.ofString "line", D.int amt), (Str.ofString "word", D.int spot)]).fst [(Str.ofString "line", D.int amt), (Str.ofString "word", D.int spot)], D.exc (Str.ofString "BadLine", []).fst [], D.exc (Str.ofString "NoSignal", [(Str.ofString "name", D.str w)]).fst [(Str.ofString "name", D.str w)], D.exc (Str.ofString "NoEnd", [(Str.ofString "name", D.str w)]).fst [(Str.ofString "name", D.str w)], D.exc (Str.ofString "NoCorner", [(Str.ofString "number", D.int spot)]).fst [(Str.ofString "number", D.int spot)], D.exc (Str.ofString "Busy", []).fst [], D.exc (Str.ofString "NothingDone", []).fst [], D.exc (Str.ofString "TooMany", [(Str.ofString "most", D.int amt)]).fst [(Str.ofString "most", D.int amt)]]), Slot.val (D.int (↑j : Int)), Slot.val (D.exc c fs), Slot.val (D.lst (List.map D.str (fam j))), x11]) _ _))))
      refine call0 (c, fs) rfl rfl c1 fun _ _ => ?_
      (refine Exists.intro _ (Exists.intro _ (And.intro rfl (And.intro rfl ((?u195c6n72738g1 : Vg.idxD (D.lst [D.str (Str.ofString "netlist"), D.str (Str.ofString "clock"), D.str (Str.ofString "path"), D.str (Str.ofString "filling"), D.str (Str.ofString "check"), D.str (Str.ofString "paper"), D.str (Str.ofString "edit"), D.str (Str.ofString "text"), D.str (Str.ofString "line"), D.str (Str.ofString "no signal"), D.str (Str.ofString "no end"), D.str (Str.ofString "no corner"), D.str (Str.ofString "busy"), D.str (Str.ofString "nothing"), D.str (Str.ofString "many")]) (D.int (↑j : Int)) _))))))
      refine idx_at rfl hd15 ?_
      (refine Exists.intro _ (Exists.intro _ (And.intro rfl (And.intro (by walk_at "vside") (Exists.intro _ (Exists.intro _ (And.intro rfl (And.intro rfl ((?u197c6n85679g1 : Vg.eqD (D.lst (toldOf (ws15 (c, fs).fst))) (D.lst [D.str (due15.getD j (Str.ofString ""))]) _))))))))))
      refine eq_told [due15.getD j ""] c2 (fun s hs => by rw [List.mem_singleton.mp hs]; exact kd) ?_
      (refine Exists.intro _ (And.intro rfl (And.intro (fun _ => Exists.intro _ (And.intro h5 ((?u199c6n94375g1 : Vg.callD (c_law_families) ([RV.v (D.exc c fs)]) ([Slot.val (D.scr ns), Slot.own d3, Slot.val (D.lst [D.str (Str.ofString "netlist"), D.str (Str.ofString "clock"), D.str (Str.ofString "path"), D.str (Str.ofString "filling"), D.str (Str.ofString "check"), D.str (Str.ofString "paper"), D.str (Str.ofString "edit"), D.str (Str.ofString "text"), D.str (Str.ofString "line"), D.str (Str.ofString "no signal"), D.str (Str.ofString "no end"), D.str (Str.ofString "no corner"), D.str (Str.ofString "busy"), D.str (Str.ofString "nothing"), D.str (Str.ofString "many")]), Slot.val (D.int (0 + (↑k : Int))), Slot.val (D.int amt), Slot.val (D.int spot), Slot.val (D.str w), Slot.val (D.lst [D.exc (Str.ofString "BadNetlist", [(Str.ofString "place", D.tup [D.int amt, D.int spot])]).fst [(Str.ofString "place", D.tup [D.int amt, D.int spot])], D.exc (Str.ofString "BadClock", []).fst [], D.exc (Str.ofString "BadPath", []).fst [], D.exc (Str.ofString "BadFilling", []).fst [], D.exc (Str.ofString "BadCheck", []).fst [], D.exc (Str.ofString "BadPaper", [(Str.ofString "place", D.tup [D.int spot])]).fst [(Str.ofString "place", D.tup [D.int spot])], D.exc (Str.ofString "BadEdit", []).fst [], D.exc (Str.ofString "BadText", [(Str.ofString "line", D.int amt), (Str.ofString "word", D.int spot)]).fst [(Str.ofString "line", D.int amt), (Str.ofString "word", D.int spot)], D.exc (Str.ofString "BadLine", []).fst [], D.exc (Str.ofString "NoSignal", [(Str.ofString "name", D.str w)]).fst [(Str.ofString "name", D.str w)], D.exc (Str.ofString "NoEnd", [(Str.ofString "name", D.str w)]).fst [(Str.ofString "name", D.str w)], D.exc (Str.ofString "NoCorner", [(Str.ofString "number", D.int spot)]).fst [(Str.ofString "number", D.int spot)], D.exc (Str.ofString "Busy", []).fst [], D.exc (Str.ofString "NothingDone", []).fst [], D.exc (Str.ofString "TooMany", [(Str.ofString "most", D.int amt)]).fst [(Str.ofString "most", D.int amt)]]), Slot.val (D.int (↑j : Int)), Slot.val (D.exc c fs), Slot.val (D.lst (List.map D.str (fam j))), x11]) _ _)))) (fun h0 => Bool.noConfusion h0))))
      refine call0 (c, fs) rfl rfl c1 fun _ _ => ?_
      (refine Exists.intro _ (Exists.intro _ (And.intro rfl (And.intro rfl ((?u201c6n53844g1 : Vg.eqD (D.lst (toldOf (fs9 (c, fs).fst))) (D.lst (List.map D.str (fam j))) _))))))
      refine eq_told (fam j) c3 kf ?_
      (refine Exists.intro _ (And.intro rfl (And.intro (fun h0 => Bool.noConfusion h0) (fun _ => (?u203c6n41069g1 : Vg.wMs _ _ ([Slot.val (D.scr ns), Slot.own d3, Slot.val (D.lst [D.str (Str.ofString "netlist"), D.str (Str.ofString "clock"), D.str (Str.ofString "path"), D.str (Str.ofString "filling"), D.str (Str.ofString "check"), D.str (Str.ofString "paper"), D.str (Str.ofString "edit"), D.str (Str.ofString "text"), D.str (Str.ofString "line"), D.str (Str.ofString "no signal"), D.str (Str.ofString "no end"), D.str (Str.ofString "no corner"), D.str (Str.ofString "busy"), D.str (Str.ofString "nothing"), D.str (Str.ofString "many")]), Slot.val (D.int (0 + (↑k : Int))), Slot.val (D.int amt), Slot.val (D.int spot), Slot.val (D.str w), Slot.val (D.lst [D.exc (Str.ofString "BadNetlist", [(Str.ofString "place", D.tup [D.int amt, D.int spot])]).fst [(Str.ofString "place", D.tup [D.int amt, D.int spot])], D.exc (Str.ofString "BadClock", []).fst [], D.exc (Str.ofString "BadPath", []).fst [], D.exc (Str.ofString "BadFilling", []).fst [], D.exc (Str.ofString "BadCheck", []).fst [], D.exc (Str.ofString "BadPaper", [(Str.ofString "place", D.tup [D.int spot])]).fst [(Str.ofString "place", D.tup [D.int spot])], D.exc (Str.ofString "BadEdit", []).fst [], D.exc (Str.ofString "BadText", [(Str.ofString "line", D.int amt), (Str.ofString "word", D.int spot)]).fst [(Str.ofString "line", D.int amt), (Str.ofString "word", D.int spot)], D.exc (Str.ofString "BadLine", []).fst [], D.exc (Str.ofString "NoSignal", [(Str.ofString "name", D.str w)]).fst [(Str.ofString "name", D.str w)], D.exc (Str.ofString "NoEnd", [(Str.ofString "name", D.str w)]).fst [(Str.ofString "name", D.str w)], D.exc (Str.ofString "NoCorner", [(Str.ofString "number", D.int spot)]).fst [(Str.ofString "number", D.int spot)], D.exc (Str.ofString "Busy", []).fst [], D.exc (Str.ofString "NothingDone", []).fst [], D.exc (Str.ofString "TooMany", [(Str.ofString "most", D.int amt)]).fst [(Str.ofString "most", D.int amt)]]), Slot.val (D.int (↑j : Int)), Slot.val (D.exc c fs), Slot.val (D.lst (List.map D.str (fam j))), x11]) _)))))
      (refine (?u204c6n98396g1 : Vg.wMs _ _ ([Slot.val (D.scr ns), Slot.own d3, Slot.val (D.lst [D.str (Str.ofString "netlist"), D.str (Str.ofString "clock"), D.str (Str.ofString "path"), D.str (Str.ofString "filling"), D.str (Str.ofString "check"), D.str (Str.ofString "paper"), D.str (Str.ofString "edit"), D.str (Str.ofString "text"), D.str (Str.ofString "line"), D.str (Str.ofString "no signal"), D.str (Str.ofString "no end"), D.str (Str.ofString "no corner"), D.str (Str.ofString "busy"), D.str (Str.ofString "nothing"), D.str (Str.ofString "many")]), Slot.val (D.int (0 + (↑k : Int))), Slot.val (D.int amt), Slot.val (D.int spot), Slot.val (D.str w), Slot.val (D.lst [D.exc (Str.ofString "BadNetlist", [(Str.ofString "place", D.tup [D.int amt, D.int spot])]).fst [(Str.ofString "place", D.tup [D.int amt, D.int spot])], D.exc (Str.ofString "BadClock", []).fst [], D.exc (Str.ofString "BadPath", []).fst [], D.exc (Str.ofString "BadFilling", []).fst [], D.exc (Str.ofString "BadCheck", []).fst [], D.exc (Str.ofString "BadPaper", [(Str.ofString "place", D.tup [D.int spot])]).fst [(Str.ofString "place", D.tup [D.int spot])], D.exc (Str.ofString "BadEdit", []).fst [], D.exc (Str.ofString "BadText", [(Str.ofString "line", D.int amt), (Str.ofString "word", D.int spot)]).fst [(Str.ofString "line", D.int amt), (Str.ofString "word", D.int spot)], D.exc (Str.ofString "BadLine", []).fst [], D.exc (Str.ofString "NoSignal", [(Str.ofString "name", D.str w)]).fst [(Str.ofString "name", D.str w)], D.exc (Str.ofString "NoEnd", [(Str.ofString "name", D.str w)]).fst [(Str.ofString "name", D.str w)], D.exc (Str.ofString "NoCorner", [(Str.ofString "number", D.int spot)]).fst [(Str.ofString "number", D.int spot)], D.exc (Str.ofString "Busy", []).fst [], D.exc (Str.ofString "NothingDone", []).fst [], D.exc (Str.ofString "TooMany", [(Str.ofString "most", D.int amt)]).fst [(Str.ofString "most", D.int amt)]]), Slot.val (D.int (↑j : Int)), Slot.val (D.exc c fs), Slot.val (D.lst (List.map D.str (fam j))), x11]) _))
      exact ⟨_, _, _, rfl, .inr ⟨_, rfl⟩, .inr ⟨_, rfl⟩, .inr ⟨_, rfl⟩⟩
    · rintro e ⟨y8, y9, y10, rfl, v8, v9, v10⟩
      have a1 : amt < 1000000000 := a1
      have ia : smI amt := by unfold smI; omega
      have is : smI spot := by unfold smI; omega
      obtain ⟨f1, f2⟩ := rep_fields ia is sw
      obtain ⟨n1, n2⟩ := rep_named ia is sw
      have cc := rep_caught ia is sw
      (refine (?u213c6n23711g1 : Vg.wMs _ _ ([Slot.val (D.scr ns), Slot.own d3, Slot.val (D.lst (List.map D.str due15)), Slot.val (D.int (0 + (↑k : Int))), Slot.val (D.int amt), Slot.val (D.int spot), Slot.val (D.str w), Slot.val (D.lst (List.map excD (madeD amt spot w))), y8, y9, y10, x11]) _))
      (refine Exists.intro _ (Exists.intro _ (And.intro rfl (Exists.intro _ (Exists.intro _ (And.intro rfl (And.intro (by walk_at "vside") (Exists.intro _ (Exists.intro _ (And.intro rfl (Exists.intro _ (Exists.intro _ (And.intro rfl (And.intro (by walk_at "vside") (Exists.intro _ (Exists.intro _ (And.intro rfl (Exists.intro _ (Exists.intro _ (And.intro rfl (Exists.intro _ (Exists.intro _ (And.intro rfl (Exists.intro _ (Exists.intro _ (And.intro rfl (Exists.intro _ (Exists.intro _ (And.intro rfl (Exists.intro _ (Exists.intro _ (And.intro rfl (Exists.intro _ (Exists.intro _ (And.intro rfl (And.intro (by walk_at "vside") (Exists.intro _ (And.intro (Vg.asgF_at rfl u11) ((?u214c6n14976g1 : Vg.wMs _ _ ([Slot.val (D.scr ns), Slot.own d3, Slot.val (D.lst [D.str (Str.ofString "netlist"), D.str (Str.ofString "clock"), D.str (Str.ofString "path"), D.str (Str.ofString "filling"), D.str (Str.ofString "check"), D.str (Str.ofString "paper"), D.str (Str.ofString "edit"), D.str (Str.ofString "text"), D.str (Str.ofString "line"), D.str (Str.ofString "no signal"), D.str (Str.ofString "no end"), D.str (Str.ofString "no corner"), D.str (Str.ofString "busy"), D.str (Str.ofString "nothing"), D.str (Str.ofString "many")]), Slot.val (D.int (0 + (↑k : Int))), Slot.val (D.int amt), Slot.val (D.int spot), Slot.val (D.str w), Slot.val (D.lst [D.exc (Str.ofString "BadNetlist", [(Str.ofString "place", D.tup [D.int amt, D.int spot])]).fst [(Str.ofString "place", D.tup [D.int amt, D.int spot])], D.exc (Str.ofString "BadClock", []).fst [], D.exc (Str.ofString "BadPath", []).fst [], D.exc (Str.ofString "BadFilling", []).fst [], D.exc (Str.ofString "BadCheck", []).fst [], D.exc (Str.ofString "BadPaper", [(Str.ofString "place", D.tup [D.int spot])]).fst [(Str.ofString "place", D.tup [D.int spot])], D.exc (Str.ofString "BadEdit", []).fst [], D.exc (Str.ofString "BadText", [(Str.ofString "line", D.int amt), (Str.ofString "word", D.int spot)]).fst [(Str.ofString "line", D.int amt), (Str.ofString "word", D.int spot)], D.exc (Str.ofString "BadLine", []).fst [], D.exc (Str.ofString "NoSignal", [(Str.ofString "name", D.str w)]).fst [(Str.ofString "name", D.str w)], D.exc (Str.ofString "NoEnd", [(Str.ofString "name", D.str w)]).fst [(Str.ofString "name", D.str w)], D.exc (Str.ofString "NoCorner", [(Str.ofString "number", D.int spot)]).fst [(Str.ofString "number", D.int spot)], D.exc (Str.ofString "Busy", []).fst [], D.exc (Str.ofString "NothingDone", []).fst [], D.exc (Str.ofString "TooMany", [(Str.ofString "most", D.int amt)]).fst [(Str.ofString "most", D.int amt)]]), y8, y9, y10, Slot.val (D.lst [D.tup [D.int amt, D.int spot], D.tup [D.int spot], D.int amt, D.int spot, D.str w, D.str w, D.int spot, D.int amt])]) _))))))))))))))))))))))))))))))))))))))))
      (refine Exists.intro _ (And.intro h6 ((?u215c6n87139g1 : Vg.callD (c_law_fields) ([RV.v (D.lst [D.exc (Str.ofString "BadNetlist", [(Str.ofString "place", D.tup [D.int amt, D.int spot])]).fst [(Str.ofString "place", D.tup [D.int amt, D.int spot])], D.exc (Str.ofString "BadClock", []).fst [], D.exc (Str.ofString "BadPath", []).fst [], D.exc (Str.ofString "BadFilling", []).fst [], D.exc (Str.ofString "BadCheck", []).fst [], D.exc (Str.ofString "BadPaper", [(Str.ofString "place", D.tup [D.int spot])]).fst [(Str.ofString "place", D.tup [D.int spot])], D.exc (Str.ofString "BadEdit", []).fst [], D.exc (Str.ofString "BadText", [(Str.ofString "line", D.int amt), (Str.ofString "word", D.int spot)]).fst [(Str.ofString "line", D.int amt), (Str.ofString "word", D.int spot)], D.exc (Str.ofString "BadLine", []).fst [], D.exc (Str.ofString "NoSignal", [(Str.ofString "name", D.str w)]).fst [(Str.ofString "name", D.str w)], D.exc (Str.ofString "NoEnd", [(Str.ofString "name", D.str w)]).fst [(Str.ofString "name", D.str w)], D.exc (Str.ofString "NoCorner", [(Str.ofString "number", D.int spot)]).fst [(Str.ofString "number", D.int spot)], D.exc (Str.ofString "Busy", []).fst [], D.exc (Str.ofString "NothingDone", []).fst [], D.exc (Str.ofString "TooMany", [(Str.ofString "most", D.int amt)]).fst [(Str.ofString "most", D.int amt)]])]) ([Slot.val (D.scr ns), Slot.own d3, Slot.val (D.lst [D.str (Str.ofString "netlist"), D.str (Str.ofString "clock"), D.str (Str.ofString "path"), D.str (Str.ofString "filling"), D.str (Str.ofString "check"), D.str (Str.ofString "paper"), D.str (Str.ofString "edit"), D.str (Str.ofString "text"), D.str (Str.ofString "line"), D.str (Str.ofString "no signal"), D.str (Str.ofString "no end"), D.str (Str.ofString "no corner"), D.str (Str.ofString "busy"), D.str (Str.ofString "nothing"), D.str (Str.ofString "many")]), Slot.val (D.int (0 + (↑k : Int))), Slot.val (D.int amt), Slot.val (D.int spot), Slot.val (D.str w), Slot.val (D.lst [D.exc (Str.ofString "BadNetlist", [(Str.ofString "place", D.tup [D.int amt, D.int spot])]).fst [(Str.ofString "place", D.tup [D.int amt, D.int spot])], D.exc (Str.ofString "BadClock", []).fst [], D.exc (Str.ofString "BadPath", []).fst [], D.exc (Str.ofString "BadFilling", []).fst [], D.exc (Str.ofString "BadCheck", []).fst [], D.exc (Str.ofString "BadPaper", [(Str.ofString "place", D.tup [D.int spot])]).fst [(Str.ofString "place", D.tup [D.int spot])], D.exc (Str.ofString "BadEdit", []).fst [], D.exc (Str.ofString "BadText", [(Str.ofString "line", D.int amt), (Str.ofString "word", D.int spot)]).fst [(Str.ofString "line", D.int amt), (Str.ofString "word", D.int spot)], D.exc (Str.ofString "BadLine", []).fst [], D.exc (Str.ofString "NoSignal", [(Str.ofString "name", D.str w)]).fst [(Str.ofString "name", D.str w)], D.exc (Str.ofString "NoEnd", [(Str.ofString "name", D.str w)]).fst [(Str.ofString "name", D.str w)], D.exc (Str.ofString "NoCorner", [(Str.ofString "number", D.int spot)]).fst [(Str.ofString "number", D.int spot)], D.exc (Str.ofString "Busy", []).fst [], D.exc (Str.ofString "NothingDone", []).fst [], D.exc (Str.ofString "TooMany", [(Str.ofString "most", D.int amt)]).fst [(Str.ofString "most", D.int amt)]]), y8, y9, y10, Slot.val (D.lst [D.tup [D.int amt, D.int spot], D.tup [D.int spot], D.int amt, D.int spot, D.str w, D.str w, D.int spot, D.int amt])]) _ _))))
      refine call0 (amt, spot, w) rfl rfl trivial fun _ _ => ?_
      (refine Exists.intro _ (And.intro rfl (Exists.intro _ (And.intro rfl (And.intro rfl (And.intro f1 (And.intro rfl (And.intro (by walk_at "vside") (And.intro (by walk_at "vside") (Exists.intro _ (And.intro rfl (Exists.intro _ (And.intro rfl (And.intro rfl (And.intro f1 (And.intro rfl (And.intro (by walk_at "vside") (And.intro (by walk_at "vside") (Exists.intro _ (Exists.intro _ (And.intro rfl (And.intro rfl (Exists.intro _ (And.intro rfl (And.intro (fun h0 => absurd rfl (of_decide_eq_false (Vg.nt h0))) (fun h0 => have t1 := (of_decide_eq_true (Vg.nf h0)); (?u217c6n20781g1 : Vg.wMs _ _ ([Slot.val (D.scr ns), Slot.own d3, Slot.val (D.lst [D.str (Str.ofString "netlist"), D.str (Str.ofString "clock"), D.str (Str.ofString "path"), D.str (Str.ofString "filling"), D.str (Str.ofString "check"), D.str (Str.ofString "paper"), D.str (Str.ofString "edit"), D.str (Str.ofString "text"), D.str (Str.ofString "line"), D.str (Str.ofString "no signal"), D.str (Str.ofString "no end"), D.str (Str.ofString "no corner"), D.str (Str.ofString "busy"), D.str (Str.ofString "nothing"), D.str (Str.ofString "many")]), Slot.val (D.int (0 + (↑k : Int))), Slot.val (D.int amt), Slot.val (D.int spot), Slot.val (D.str w), Slot.val (D.lst [D.exc (Str.ofString "BadNetlist", [(Str.ofString "place", D.tup [D.int amt, D.int spot])]).fst [(Str.ofString "place", D.tup [D.int amt, D.int spot])], D.exc (Str.ofString "BadClock", []).fst [], D.exc (Str.ofString "BadPath", []).fst [], D.exc (Str.ofString "BadFilling", []).fst [], D.exc (Str.ofString "BadCheck", []).fst [], D.exc (Str.ofString "BadPaper", [(Str.ofString "place", D.tup [D.int spot])]).fst [(Str.ofString "place", D.tup [D.int spot])], D.exc (Str.ofString "BadEdit", []).fst [], D.exc (Str.ofString "BadText", [(Str.ofString "line", D.int amt), (Str.ofString "word", D.int spot)]).fst [(Str.ofString "line", D.int amt), (Str.ofString "word", D.int spot)], D.exc (Str.ofString "BadLine", []).fst [], D.exc (Str.ofString "NoSignal", [(Str.ofString "name", D.str w)]).fst [(Str.ofString "name", D.str w)], D.exc (Str.ofString "NoEnd", [(Str.ofString "name", D.str w)]).fst [(Str.ofString "name", D.str w)], D.exc (Str.ofString "NoCorner", [(Str.ofString "number", D.int spot)]).fst [(Str.ofString "number", D.int spot)], D.exc (Str.ofString "Busy", []).fst [], D.exc (Str.ofString "NothingDone", []).fst [], D.exc (Str.ofString "TooMany", [(Str.ofString "most", D.int amt)]).fst [(Str.ofString "most", D.int amt)]]), y8, y9, y10, Slot.val (D.lst [D.tup [D.int amt, D.int spot], D.tup [D.int spot], D.int amt, D.int spot, D.str w, D.str w, D.int spot, D.int amt])]) _)))))))))))))))))))))))))))
      clear t1
      (refine (?u219c6n73612g1 : Vg.wMs _ _ ([Slot.val (D.scr ns), Slot.own d3, Slot.val (D.lst [D.str (Str.ofString "netlist"), D.str (Str.ofString "clock"), D.str (Str.ofString "path"), D.str (Str.ofString "filling"), D.str (Str.ofString "check"), D.str (Str.ofString "paper"), D.str (Str.ofString "edit"), D.str (Str.ofString "text"), D.str (Str.ofString "line"), D.str (Str.ofString "no signal"), D.str (Str.ofString "no end"), D.str (Str.ofString "no corner"), D.str (Str.ofString "busy"), D.str (Str.ofString "nothing"), D.str (Str.ofString "many")]), Slot.val (D.int (0 + (↑k : Int))), Slot.val (D.int amt), Slot.val (D.int spot), Slot.val (D.str w), Slot.val (D.lst [D.exc (Str.ofString "BadNetlist", [(Str.ofString "place", D.tup [D.int amt, D.int spot])]).fst [(Str.ofString "place", D.tup [D.int amt, D.int spot])], D.exc (Str.ofString "BadClock", []).fst [], D.exc (Str.ofString "BadPath", []).fst [], D.exc (Str.ofString "BadFilling", []).fst [], D.exc (Str.ofString "BadCheck", []).fst [], D.exc (Str.ofString "BadPaper", [(Str.ofString "place", D.tup [D.int spot])]).fst [(Str.ofString "place", D.tup [D.int spot])], D.exc (Str.ofString "BadEdit", []).fst [], D.exc (Str.ofString "BadText", [(Str.ofString "line", D.int amt), (Str.ofString "word", D.int spot)]).fst [(Str.ofString "line", D.int amt), (Str.ofString "word", D.int spot)], D.exc (Str.ofString "BadLine", []).fst [], D.exc (Str.ofString "NoSignal", [(Str.ofString "name", D.str w)]).fst [(Str.ofString "name", D.str w)], D.exc (Str.ofString "NoEnd", [(Str.ofString "name", D.str w)]).fst [(Str.ofString "name", D.str w)], D.exc (Str.ofString "NoCorner", [(Str.ofString "number", D.int spot)]).fst [(Str.ofString "number", D.int spot)], D.exc (Str.ofString "Busy", []).fst [], D.exc (Str.ofString "NothingDone", []).fst [], D.exc (Str.ofString "TooMany", [(Str.ofString "most", D.int amt)]).fst [(Str.ofString "most", D.int amt)]]), y8, y9, y10, Slot.val (D.lst [D.tup [D.int amt, D.int spot], D.tup [D.int spot], D.int amt, D.int spot, D.str w, D.str w, D.int spot, D.int amt])]) _))
      (refine Exists.intro _ (Exists.intro _ (And.intro rfl (And.intro (by walk_at "vside") (Exists.intro _ (Exists.intro _ (And.intro rfl (Exists.intro _ (Exists.intro _ (And.intro rfl (Exists.intro _ (Exists.intro _ (And.intro rfl (Exists.intro _ (Exists.intro _ (And.intro rfl (And.intro (by walk_at "vside") (Exists.intro _ (Exists.intro _ (And.intro rfl (Exists.intro _ (Exists.intro _ (And.intro rfl (Exists.intro _ (Exists.intro _ (And.intro rfl (And.intro (by walk_at "vside") (Exists.intro _ (Exists.intro _ (And.intro rfl (Exists.intro _ (Exists.intro _ (And.intro rfl (Exists.intro _ (Exists.intro _ (And.intro rfl (And.intro (by walk_at "vside") (Exists.intro _ (Exists.intro _ (And.intro rfl (Exists.intro _ (Exists.intro _ (And.intro rfl (Exists.intro _ (Exists.intro _ (And.intro rfl (And.intro (by walk_at "vside") (Exists.intro _ (Exists.intro _ (And.intro rfl (Exists.intro _ (Exists.intro _ (And.intro rfl (Exists.intro _ (Exists.intro _ (And.intro rfl (Exists.intro _ (Exists.intro _ (And.intro rfl (And.intro (by walk_at "vside") (Exists.intro _ (And.intro rfl ((?u220c6n81818g1 : Vg.wMs _ _ ([Slot.val (D.scr ns), Slot.own d3, Slot.val (D.lst [D.str (Str.ofString "netlist"), D.str (Str.ofString "clock"), D.str (Str.ofString "path"), D.str (Str.ofString "filling"), D.str (Str.ofString "check"), D.str (Str.ofString "paper"), D.str (Str.ofString "edit"), D.str (Str.ofString "text"), D.str (Str.ofString "line"), D.str (Str.ofString "no signal"), D.str (Str.ofString "no end"), D.str (Str.ofString "no corner"), D.str (Str.ofString "busy"), D.str (Str.ofString "nothing"), D.str (Str.ofString "many")]), Slot.val (D.int (0 + (↑k : Int))), Slot.val (D.int amt), Slot.val (D.int spot), Slot.val (D.str w), Slot.val (D.lst [D.exc (Str.ofString "BadNetlist", [(Str.ofString "place", D.tup [D.int amt, D.int spot])]).fst [(Str.ofString "place", D.tup [D.int amt, D.int spot])], D.exc (Str.ofString "BadClock", []).fst [], D.exc (Str.ofString "BadPath", []).fst [], D.exc (Str.ofString "BadFilling", []).fst [], D.exc (Str.ofString "BadCheck", []).fst [], D.exc (Str.ofString "BadPaper", [(Str.ofString "place", D.tup [D.int spot])]).fst [(Str.ofString "place", D.tup [D.int spot])], D.exc (Str.ofString "BadEdit", []).fst [], D.exc (Str.ofString "BadText", [(Str.ofString "line", D.int amt), (Str.ofString "word", D.int spot)]).fst [(Str.ofString "line", D.int amt), (Str.ofString "word", D.int spot)], D.exc (Str.ofString "BadLine", []).fst [], D.exc (Str.ofString "NoSignal", [(Str.ofString "name", D.str w)]).fst [(Str.ofString "name", D.str w)], D.exc (Str.ofString "NoEnd", [(Str.ofString "name", D.str w)]).fst [(Str.ofString "name", D.str w)], D.exc (Str.ofString "NoCorner", [(Str.ofString "number", D.int spot)]).fst [(Str.ofString "number", D.int spot)], D.exc (Str.ofString "Busy", []).fst [], D.exc (Str.ofString "NothingDone", []).fst [], D.exc (Str.ofString "TooMany", [(Str.ofString "most", D.int amt)]).fst [(Str.ofString "most", D.int amt)]]), y8, y9, y10, Slot.val (D.lst [D.tup [D.int amt], D.int spot, D.tup [D.int amt, D.int spot], D.tup [D.int amt, D.int 0], D.tup [D.int 0, D.int 0], D.tup [D.int 0, D.int amt], D.str w, D.int amt, D.int spot])]) _))))))))))))))))))))))))))))))))))))))))))))))))))))))))))))))))
      (refine Exists.intro _ (And.intro h7 ((?u221c6n98001g1 : Vg.callD (c_law_by_names) ([RV.v (D.int amt), RV.v (D.int spot), RV.v (D.str w)]) ([Slot.val (D.scr ns), Slot.own d3, Slot.val (D.lst [D.str (Str.ofString "netlist"), D.str (Str.ofString "clock"), D.str (Str.ofString "path"), D.str (Str.ofString "filling"), D.str (Str.ofString "check"), D.str (Str.ofString "paper"), D.str (Str.ofString "edit"), D.str (Str.ofString "text"), D.str (Str.ofString "line"), D.str (Str.ofString "no signal"), D.str (Str.ofString "no end"), D.str (Str.ofString "no corner"), D.str (Str.ofString "busy"), D.str (Str.ofString "nothing"), D.str (Str.ofString "many")]), Slot.val (D.int (0 + (↑k : Int))), Slot.val (D.int amt), Slot.val (D.int spot), Slot.val (D.str w), Slot.val (D.lst [D.exc (Str.ofString "BadNetlist", [(Str.ofString "place", D.tup [D.int amt, D.int spot])]).fst [(Str.ofString "place", D.tup [D.int amt, D.int spot])], D.exc (Str.ofString "BadClock", []).fst [], D.exc (Str.ofString "BadPath", []).fst [], D.exc (Str.ofString "BadFilling", []).fst [], D.exc (Str.ofString "BadCheck", []).fst [], D.exc (Str.ofString "BadPaper", [(Str.ofString "place", D.tup [D.int spot])]).fst [(Str.ofString "place", D.tup [D.int spot])], D.exc (Str.ofString "BadEdit", []).fst [], D.exc (Str.ofString "BadText", [(Str.ofString "line", D.int amt), (Str.ofString "word", D.int spot)]).fst [(Str.ofString "line", D.int amt), (Str.ofString "word", D.int spot)], D.exc (Str.ofString "BadLine", []).fst [], D.exc (Str.ofString "NoSignal", [(Str.ofString "name", D.str w)]).fst [(Str.ofString "name", D.str w)], D.exc (Str.ofString "NoEnd", [(Str.ofString "name", D.str w)]).fst [(Str.ofString "name", D.str w)], D.exc (Str.ofString "NoCorner", [(Str.ofString "number", D.int spot)]).fst [(Str.ofString "number", D.int spot)], D.exc (Str.ofString "Busy", []).fst [], D.exc (Str.ofString "NothingDone", []).fst [], D.exc (Str.ofString "TooMany", [(Str.ofString "most", D.int amt)]).fst [(Str.ofString "most", D.int amt)]]), y8, y9, y10, Slot.val (D.lst [D.tup [D.int amt], D.int spot, D.tup [D.int amt, D.int spot], D.tup [D.int amt, D.int 0], D.tup [D.int 0, D.int 0], D.tup [D.int 0, D.int amt], D.str w, D.int amt, D.int spot])]) _ _))))
      refine call0 (amt, spot, w) rfl rfl trivial fun _ _ => ?_
      (refine Exists.intro _ (And.intro rfl (Exists.intro _ (And.intro rfl (And.intro rfl (And.intro n1 (And.intro rfl (And.intro (by walk_at "vside") (And.intro (by walk_at "vside") (Exists.intro _ (And.intro rfl (Exists.intro _ (And.intro rfl (And.intro rfl (And.intro n1 (And.intro rfl (And.intro (by walk_at "vside") (And.intro (by walk_at "vside") (Exists.intro _ (Exists.intro _ (And.intro rfl (And.intro rfl (Exists.intro _ (And.intro rfl (And.intro (fun h0 => absurd rfl (of_decide_eq_false (Vg.nt h0))) (fun h0 => have t1 := (of_decide_eq_true (Vg.nf h0)); (?u223c6n85096g1 : Vg.wMs _ _ ([Slot.val (D.scr ns), Slot.own d3, Slot.val (D.lst [D.str (Str.ofString "netlist"), D.str (Str.ofString "clock"), D.str (Str.ofString "path"), D.str (Str.ofString "filling"), D.str (Str.ofString "check"), D.str (Str.ofString "paper"), D.str (Str.ofString "edit"), D.str (Str.ofString "text"), D.str (Str.ofString "line"), D.str (Str.ofString "no signal"), D.str (Str.ofString "no end"), D.str (Str.ofString "no corner"), D.str (Str.ofString "busy"), D.str (Str.ofString "nothing"), D.str (Str.ofString "many")]), Slot.val (D.int (0 + (↑k : Int))), Slot.val (D.int amt), Slot.val (D.int spot), Slot.val (D.str w), Slot.val (D.lst [D.exc (Str.ofString "BadNetlist", [(Str.ofString "place", D.tup [D.int amt, D.int spot])]).fst [(Str.ofString "place", D.tup [D.int amt, D.int spot])], D.exc (Str.ofString "BadClock", []).fst [], D.exc (Str.ofString "BadPath", []).fst [], D.exc (Str.ofString "BadFilling", []).fst [], D.exc (Str.ofString "BadCheck", []).fst [], D.exc (Str.ofString "BadPaper", [(Str.ofString "place", D.tup [D.int spot])]).fst [(Str.ofString "place", D.tup [D.int spot])], D.exc (Str.ofString "BadEdit", []).fst [], D.exc (Str.ofString "BadText", [(Str.ofString "line", D.int amt), (Str.ofString "word", D.int spot)]).fst [(Str.ofString "line", D.int amt), (Str.ofString "word", D.int spot)], D.exc (Str.ofString "BadLine", []).fst [], D.exc (Str.ofString "NoSignal", [(Str.ofString "name", D.str w)]).fst [(Str.ofString "name", D.str w)], D.exc (Str.ofString "NoEnd", [(Str.ofString "name", D.str w)]).fst [(Str.ofString "name", D.str w)], D.exc (Str.ofString "NoCorner", [(Str.ofString "number", D.int spot)]).fst [(Str.ofString "number", D.int spot)], D.exc (Str.ofString "Busy", []).fst [], D.exc (Str.ofString "NothingDone", []).fst [], D.exc (Str.ofString "TooMany", [(Str.ofString "most", D.int amt)]).fst [(Str.ofString "most", D.int amt)]]), y8, y9, y10, Slot.val (D.lst [D.tup [D.int amt], D.int spot, D.tup [D.int amt, D.int spot], D.tup [D.int amt, D.int 0], D.tup [D.int 0, D.int 0], D.tup [D.int 0, D.int amt], D.str w, D.int amt, D.int spot])]) _)))))))))))))))))))))))))))
      clear t1
      (refine (?u225c6n20401g1 : Vg.wMs _ _ ([Slot.val (D.scr ns), Slot.own d3, Slot.val (D.lst [D.str (Str.ofString "netlist"), D.str (Str.ofString "clock"), D.str (Str.ofString "path"), D.str (Str.ofString "filling"), D.str (Str.ofString "check"), D.str (Str.ofString "paper"), D.str (Str.ofString "edit"), D.str (Str.ofString "text"), D.str (Str.ofString "line"), D.str (Str.ofString "no signal"), D.str (Str.ofString "no end"), D.str (Str.ofString "no corner"), D.str (Str.ofString "busy"), D.str (Str.ofString "nothing"), D.str (Str.ofString "many")]), Slot.val (D.int (0 + (↑k : Int))), Slot.val (D.int amt), Slot.val (D.int spot), Slot.val (D.str w), Slot.val (D.lst [D.exc (Str.ofString "BadNetlist", [(Str.ofString "place", D.tup [D.int amt, D.int spot])]).fst [(Str.ofString "place", D.tup [D.int amt, D.int spot])], D.exc (Str.ofString "BadClock", []).fst [], D.exc (Str.ofString "BadPath", []).fst [], D.exc (Str.ofString "BadFilling", []).fst [], D.exc (Str.ofString "BadCheck", []).fst [], D.exc (Str.ofString "BadPaper", [(Str.ofString "place", D.tup [D.int spot])]).fst [(Str.ofString "place", D.tup [D.int spot])], D.exc (Str.ofString "BadEdit", []).fst [], D.exc (Str.ofString "BadText", [(Str.ofString "line", D.int amt), (Str.ofString "word", D.int spot)]).fst [(Str.ofString "line", D.int amt), (Str.ofString "word", D.int spot)], D.exc (Str.ofString "BadLine", []).fst [], D.exc (Str.ofString "NoSignal", [(Str.ofString "name", D.str w)]).fst [(Str.ofString "name", D.str w)], D.exc (Str.ofString "NoEnd", [(Str.ofString "name", D.str w)]).fst [(Str.ofString "name", D.str w)], D.exc (Str.ofString "NoCorner", [(Str.ofString "number", D.int spot)]).fst [(Str.ofString "number", D.int spot)], D.exc (Str.ofString "Busy", []).fst [], D.exc (Str.ofString "NothingDone", []).fst [], D.exc (Str.ofString "TooMany", [(Str.ofString "most", D.int amt)]).fst [(Str.ofString "most", D.int amt)]]), y8, y9, y10, Slot.val (D.lst [D.tup [D.int amt], D.int spot, D.tup [D.int amt, D.int spot], D.tup [D.int amt, D.int 0], D.tup [D.int 0, D.int 0], D.tup [D.int 0, D.int amt], D.str w, D.int amt, D.int spot])]) _))
      (refine Exists.intro _ (And.intro h8 ((?u226c6n80607g1 : Vg.callD (c_law_are_caught) ([RV.v (D.int amt), RV.v (D.int spot), RV.v (D.str w)]) ([Slot.val (D.scr ns), Slot.own d3, Slot.val (D.lst [D.str (Str.ofString "netlist"), D.str (Str.ofString "clock"), D.str (Str.ofString "path"), D.str (Str.ofString "filling"), D.str (Str.ofString "check"), D.str (Str.ofString "paper"), D.str (Str.ofString "edit"), D.str (Str.ofString "text"), D.str (Str.ofString "line"), D.str (Str.ofString "no signal"), D.str (Str.ofString "no end"), D.str (Str.ofString "no corner"), D.str (Str.ofString "busy"), D.str (Str.ofString "nothing"), D.str (Str.ofString "many")]), Slot.val (D.int (0 + (↑k : Int))), Slot.val (D.int amt), Slot.val (D.int spot), Slot.val (D.str w), Slot.val (D.lst [D.exc (Str.ofString "BadNetlist", [(Str.ofString "place", D.tup [D.int amt, D.int spot])]).fst [(Str.ofString "place", D.tup [D.int amt, D.int spot])], D.exc (Str.ofString "BadClock", []).fst [], D.exc (Str.ofString "BadPath", []).fst [], D.exc (Str.ofString "BadFilling", []).fst [], D.exc (Str.ofString "BadCheck", []).fst [], D.exc (Str.ofString "BadPaper", [(Str.ofString "place", D.tup [D.int spot])]).fst [(Str.ofString "place", D.tup [D.int spot])], D.exc (Str.ofString "BadEdit", []).fst [], D.exc (Str.ofString "BadText", [(Str.ofString "line", D.int amt), (Str.ofString "word", D.int spot)]).fst [(Str.ofString "line", D.int amt), (Str.ofString "word", D.int spot)], D.exc (Str.ofString "BadLine", []).fst [], D.exc (Str.ofString "NoSignal", [(Str.ofString "name", D.str w)]).fst [(Str.ofString "name", D.str w)], D.exc (Str.ofString "NoEnd", [(Str.ofString "name", D.str w)]).fst [(Str.ofString "name", D.str w)], D.exc (Str.ofString "NoCorner", [(Str.ofString "number", D.int spot)]).fst [(Str.ofString "number", D.int spot)], D.exc (Str.ofString "Busy", []).fst [], D.exc (Str.ofString "NothingDone", []).fst [], D.exc (Str.ofString "TooMany", [(Str.ofString "most", D.int amt)]).fst [(Str.ofString "most", D.int amt)]]), y8, y9, y10, Slot.val (D.lst [D.tup [D.int amt], D.int spot, D.tup [D.int amt, D.int spot], D.tup [D.int amt, D.int 0], D.tup [D.int 0, D.int 0], D.tup [D.int 0, D.int amt], D.str w, D.int amt, D.int spot])]) _ _))))
      refine call0 (amt, spot, w) rfl rfl cc fun _ _ => ?_
      (refine Exists.intro _ (And.intro rfl (And.intro (fun h0 => Bool.noConfusion h0) (fun _ => (?u228c6n66128g1 : Vg.wMs _ _ ([Slot.val (D.scr ns), Slot.own d3, Slot.val (D.lst [D.str (Str.ofString "netlist"), D.str (Str.ofString "clock"), D.str (Str.ofString "path"), D.str (Str.ofString "filling"), D.str (Str.ofString "check"), D.str (Str.ofString "paper"), D.str (Str.ofString "edit"), D.str (Str.ofString "text"), D.str (Str.ofString "line"), D.str (Str.ofString "no signal"), D.str (Str.ofString "no end"), D.str (Str.ofString "no corner"), D.str (Str.ofString "busy"), D.str (Str.ofString "nothing"), D.str (Str.ofString "many")]), Slot.val (D.int (0 + (↑k : Int))), Slot.val (D.int amt), Slot.val (D.int spot), Slot.val (D.str w), Slot.val (D.lst [D.exc (Str.ofString "BadNetlist", [(Str.ofString "place", D.tup [D.int amt, D.int spot])]).fst [(Str.ofString "place", D.tup [D.int amt, D.int spot])], D.exc (Str.ofString "BadClock", []).fst [], D.exc (Str.ofString "BadPath", []).fst [], D.exc (Str.ofString "BadFilling", []).fst [], D.exc (Str.ofString "BadCheck", []).fst [], D.exc (Str.ofString "BadPaper", [(Str.ofString "place", D.tup [D.int spot])]).fst [(Str.ofString "place", D.tup [D.int spot])], D.exc (Str.ofString "BadEdit", []).fst [], D.exc (Str.ofString "BadText", [(Str.ofString "line", D.int amt), (Str.ofString "word", D.int spot)]).fst [(Str.ofString "line", D.int amt), (Str.ofString "word", D.int spot)], D.exc (Str.ofString "BadLine", []).fst [], D.exc (Str.ofString "NoSignal", [(Str.ofString "name", D.str w)]).fst [(Str.ofString "name", D.str w)], D.exc (Str.ofString "NoEnd", [(Str.ofString "name", D.str w)]).fst [(Str.ofString "name", D.str w)], D.exc (Str.ofString "NoCorner", [(Str.ofString "number", D.int spot)]).fst [(Str.ofString "number", D.int spot)], D.exc (Str.ofString "Busy", []).fst [], D.exc (Str.ofString "NothingDone", []).fst [], D.exc (Str.ofString "TooMany", [(Str.ofString "most", D.int amt)]).fst [(Str.ofString "most", D.int amt)]]), y8, y9, y10, Slot.val (D.lst [D.tup [D.int amt], D.int spot, D.tup [D.int amt, D.int spot], D.tup [D.int amt, D.int 0], D.tup [D.int 0, D.int 0], D.tup [D.int 0, D.int amt], D.str w, D.int amt, D.int spot])]) _)))))
      (refine (?u229c6n73068g1 : Vg.wMs _ _ ([Slot.val (D.scr ns), Slot.own d3, Slot.val (D.lst [D.str (Str.ofString "netlist"), D.str (Str.ofString "clock"), D.str (Str.ofString "path"), D.str (Str.ofString "filling"), D.str (Str.ofString "check"), D.str (Str.ofString "paper"), D.str (Str.ofString "edit"), D.str (Str.ofString "text"), D.str (Str.ofString "line"), D.str (Str.ofString "no signal"), D.str (Str.ofString "no end"), D.str (Str.ofString "no corner"), D.str (Str.ofString "busy"), D.str (Str.ofString "nothing"), D.str (Str.ofString "many")]), Slot.val (D.int (0 + (↑k : Int))), Slot.val (D.int amt), Slot.val (D.int spot), Slot.val (D.str w), Slot.val (D.lst [D.exc (Str.ofString "BadNetlist", [(Str.ofString "place", D.tup [D.int amt, D.int spot])]).fst [(Str.ofString "place", D.tup [D.int amt, D.int spot])], D.exc (Str.ofString "BadClock", []).fst [], D.exc (Str.ofString "BadPath", []).fst [], D.exc (Str.ofString "BadFilling", []).fst [], D.exc (Str.ofString "BadCheck", []).fst [], D.exc (Str.ofString "BadPaper", [(Str.ofString "place", D.tup [D.int spot])]).fst [(Str.ofString "place", D.tup [D.int spot])], D.exc (Str.ofString "BadEdit", []).fst [], D.exc (Str.ofString "BadText", [(Str.ofString "line", D.int amt), (Str.ofString "word", D.int spot)]).fst [(Str.ofString "line", D.int amt), (Str.ofString "word", D.int spot)], D.exc (Str.ofString "BadLine", []).fst [], D.exc (Str.ofString "NoSignal", [(Str.ofString "name", D.str w)]).fst [(Str.ofString "name", D.str w)], D.exc (Str.ofString "NoEnd", [(Str.ofString "name", D.str w)]).fst [(Str.ofString "name", D.str w)], D.exc (Str.ofString "NoCorner", [(Str.ofString "number", D.int spot)]).fst [(Str.ofString "number", D.int spot)], D.exc (Str.ofString "Busy", []).fst [], D.exc (Str.ofString "NothingDone", []).fst [], D.exc (Str.ofString "TooMany", [(Str.ofString "most", D.int amt)]).fst [(Str.ofString "most", D.int amt)]]), y8, y9, y10, Slot.val (D.lst [D.tup [D.int amt], D.int spot, D.tup [D.int amt, D.int spot], D.tup [D.int amt, D.int 0], D.tup [D.int 0, D.int 0], D.tup [D.int 0, D.int amt], D.str w, D.int amt, D.int spot])]) _))
      exact ⟨d3, _, _, _, _, _, _, _, _, _, rfl, hd3.mono (by omega), .inr ⟨_, rfl⟩, .inr ⟨_, rfl⟩, .inr ⟨_, rfl⟩, .inr ⟨_, rfl⟩, .inr ⟨_, rfl⟩, v8, v9, v10, .inr ⟨_, rfl⟩⟩
  · rintro e ⟨d, x3, x4, x5, x6, x7, x8, x9, x10, x11, rfl, hd, u3, u4, u5, u6, u7, u8, u9, u10, u11⟩
    (refine (?u232c4n94039g1 : Vg.wMs _ _ ([Slot.val (D.scr ns), Slot.own d, Slot.val (D.lst (List.map D.str due15)), x3, x4, x5, x6, x7, x8, x9, x10, x11]) _))
    (refine Exists.intro _ (Exists.intro _ (And.intro rfl (And.intro rfl ((?u233c4n50002g1 : Vg.Ans _ _ _ (D.bl true) (D.non)))))))
    exact ⟨(), trivial, rfl⟩
end Vg

set_option Elab.async false
set_option linter.all false
set_option maxRecDepth 100000
set_option maxHeartbeats 4000000
namespace Vg
open PySem PySem.Spec PyProof.Rows L2
theorem wish : ∀ ns : List Int, ns.length ≤ 63 → c_law.wp [.scr ns] (fun r _ => r = .bl true) fun _ _ _ => False := fun ns h => ⟨ns, rfl, h, fun _ _ => rfl⟩
def noT : List (Str × Bk) := [("TimingError", .value), ("BadClock", .value), ("BadPath", .value), ("BadFilling", .value), ("BadCheck", .value), ("BadEdit", .value), ("BadLine", .value), ("NotThere", .lookup), ("Refused", .runtime), ("Busy", .runtime), ("NothingDone", .runtime)]
def iniT : List (Str × Bk) := [("BadNetlist", .value), ("BadPaper", .value), ("BadText", .value), ("NoSignal", .lookup), ("NoEnd", .lookup), ("NoCorner", .lookup), ("TooMany", .runtime)]
abbrev si_BadNetlist : Stmt := inCls (top 2) 0
abbrev si_BadPaper : Stmt := inCls (top 7) 0
abbrev si_BadText : Stmt := inCls (top 9) 0
abbrev si_NoSignal : Stmt := inCls (top 12) 0
abbrev si_NoEnd : Stmt := inCls (top 13) 0
abbrev si_NoCorner : Stmt := inCls (top 14) 0
abbrev si_TooMany : Stmt := inCls (top 18) 0
def gts : Gts := [("BadText.line", .int 0, .int 0), ("BadText.word", .int 0, .int 0)]
theorem all_mk {P : Program} {w : World} {K : PySem.W.Frag} {mg : Str → Option Value} {hp : Heap} {fa : Addr} (X : K.In hp) (G : hp.Ns mainGlobals mg) (hfa : mg "law" = some (.ref fa))
    {f0 : Addr} {oc0 kV0 dc0 pm0 cd0 ct0 : Value} {od0 an0 : Option Addr} {os0 : Array (Option Value)}
    (a0 : PySem.W.nsIn K mainGlobals "_law_begin" = some (some (.ref f0)))
    (l0 : K.lookup f0 = some ⟨oc0, od0, .func (PySem.W.fnOf "_law_begin" "_law_begin" (defArgs s_law_begin) (defBody s_law_begin) (defScope s_law_begin) .none kV0 dc0 pm0 an0 cd0 ct0), os0⟩)
    (c0 : PySem.W.codeIn K cd0 "_law_begin" = true)
    (k0 : PySem.W.keepIn K (.ref f0) = true)
    {f1 : Addr} {oc1 kV1 dc1 pm1 cd1 ct1 : Value} {od1 an1 : Option Addr} {os1 : Array (Option Value)}
    (a1 : PySem.W.nsIn K mainGlobals "_law_mixed" = some (some (.ref f1)))
    (l1 : K.lookup f1 = some ⟨oc1, od1, .func (PySem.W.fnOf "_law_mixed" "_law_mixed" (defArgs s_law_mixed) (defBody s_law_mixed) (defScope s_law_mixed) .none kV1 dc1 pm1 an1 cd1 ct1), os1⟩)
    (c1 : PySem.W.codeIn K cd1 "_law_mixed" = true)
    (k1 : PySem.W.keepIn K (.ref f1) = true)
    {f2 : Addr} {oc2 kV2 dc2 pm2 cd2 ct2 : Value} {od2 an2 : Option Addr} {os2 : Array (Option Value)}
    (a2 : PySem.W.nsIn K mainGlobals "_law_next" = some (some (.ref f2)))
    (l2 : K.lookup f2 = some ⟨oc2, od2, .func (PySem.W.fnOf "_law_next" "_law_next" (defArgs s_law_next) (defBody s_law_next) (defScope s_law_next) .none kV2 dc2 pm2 an2 cd2 ct2), os2⟩)
    (c2 : PySem.W.codeIn K cd2 "_law_next" = true)
    (k2 : PySem.W.keepIn K (.ref f2) = true)
    {f3 : Addr} {oc3 kV3 dc3 pm3 cd3 ct3 : Value} {od3 an3 : Option Addr} {os3 : Array (Option Value)}
    (a3 : PySem.W.nsIn K mainGlobals "_law_words" = some (some (.ref f3)))
    (l3 : K.lookup f3 = some ⟨oc3, od3, .func (PySem.W.fnOf "_law_words" "_law_words" (defArgs s_law_words) (defBody s_law_words) (defScope s_law_words) .none kV3 dc3 pm3 an3 cd3 ct3), os3⟩)
    (c3 : PySem.W.codeIn K cd3 "_law_words" = true)
    (k3 : PySem.W.keepIn K (.ref f3) = true)
    {f4 : Addr} {oc4 kV4 dc4 pm4 cd4 ct4 : Value} {od4 an4 : Option Addr} {os4 : Array (Option Value)}
    (a4 : PySem.W.nsIn K mainGlobals "_law_families" = some (some (.ref f4)))
    (l4 : K.lookup f4 = some ⟨oc4, od4, .func (PySem.W.fnOf "_law_families" "_law_families" (defArgs s_law_families) (defBody s_law_families) (defScope s_law_families) .none kV4 dc4 pm4 an4 cd4 ct4), os4⟩)
    (c4 : PySem.W.codeIn K cd4 "_law_families" = true)
    (k4 : PySem.W.keepIn K (.ref f4) = true)
    {f5 : Addr} {oc5 kV5 dc5 pm5 cd5 ct5 : Value} {od5 an5 : Option Addr} {os5 : Array (Option Value)}
    (a5 : PySem.W.nsIn K mainGlobals "_law_made" = some (some (.ref f5)))
    (l5 : K.lookup f5 = some ⟨oc5, od5, .func (PySem.W.fnOf "_law_made" "_law_made" (defArgs s_law_made) (defBody s_law_made) (defScope s_law_made) .none kV5 dc5 pm5 an5 cd5 ct5), os5⟩)
    (c5 : PySem.W.codeIn K cd5 "_law_made" = true)
    (k5 : PySem.W.keepIn K (.ref f5) = true)
    {f6 : Addr} {oc6 kV6 dc6 pm6 cd6 ct6 : Value} {od6 an6 : Option Addr} {os6 : Array (Option Value)}
    (a6 : PySem.W.nsIn K mainGlobals "_law_fields" = some (some (.ref f6)))
    (l6 : K.lookup f6 = some ⟨oc6, od6, .func (PySem.W.fnOf "_law_fields" "_law_fields" (defArgs s_law_fields) (defBody s_law_fields) (defScope s_law_fields) .none kV6 dc6 pm6 an6 cd6 ct6), os6⟩)
    (c6 : PySem.W.codeIn K cd6 "_law_fields" = true)
    (k6 : PySem.W.keepIn K (.ref f6) = true)
    {f7 : Addr} {oc7 kV7 dc7 pm7 cd7 ct7 : Value} {od7 an7 : Option Addr} {os7 : Array (Option Value)}
    (a7 : PySem.W.nsIn K mainGlobals "_law_by_names" = some (some (.ref f7)))
    (l7 : K.lookup f7 = some ⟨oc7, od7, .func (PySem.W.fnOf "_law_by_names" "_law_by_names" (defArgs s_law_by_names) (defBody s_law_by_names) (defScope s_law_by_names) .none kV7 dc7 pm7 an7 cd7 ct7), os7⟩)
    (c7 : PySem.W.codeIn K cd7 "_law_by_names" = true)
    (k7 : PySem.W.keepIn K (.ref f7) = true)
    {f8 : Addr} {oc8 kV8 dc8 pm8 cd8 ct8 : Value} {od8 an8 : Option Addr} {os8 : Array (Option Value)}
    (a8 : PySem.W.nsIn K mainGlobals "_law_are_caught" = some (some (.ref f8)))
    (l8 : K.lookup f8 = some ⟨oc8, od8, .func (PySem.W.fnOf "_law_are_caught" "_law_are_caught" (defArgs s_law_are_caught) (defBody s_law_are_caught) (defScope s_law_are_caught) .none kV8 dc8 pm8 an8 cd8 ct8), os8⟩)
    (c8 : PySem.W.codeIn K cd8 "_law_are_caught" = true)
    (k8 : PySem.W.keepIn K (.ref f8) = true)
    {f9 : Addr} {oc9 kV9 dc9 pm9 cd9 ct9 : Value} {od9 an9 : Option Addr} {os9 : Array (Option Value)}
    (a9 : PySem.W.nsIn K mainGlobals "law" = some (some (.ref f9)))
    (l9 : K.lookup f9 = some ⟨oc9, od9, .func (PySem.W.fnOf "law" "law" (defArgs s_law) (defBody s_law) (defScope s_law) .none kV9 dc9 pm9 an9 cd9 ct9), os9⟩)
    (c9 : PySem.W.codeIn K cd9 "law" = true)
    (k9 : PySem.W.keepIn K (.ref f9) = true)
    (z0 : PySem.W.nsIn K mainGlobals "IndexError" = some none)
    (z1 : PySem.W.nsIn K mainGlobals "KeyError" = some none)
    (z2 : PySem.W.nsIn K mainGlobals "LookupError" = some none)
    (z3 : PySem.W.nsIn K mainGlobals "NotImplementedError" = some none)
    (z4 : PySem.W.nsIn K mainGlobals "RuntimeError" = some none)
    (z5 : PySem.W.nsIn K mainGlobals "ValueError" = some none)
    (z6 : PySem.W.nsIn K mainGlobals "enumerate" = some none)
    (z7 : PySem.W.nsIn K mainGlobals "int" = some none)
    (z8 : PySem.W.nsIn K mainGlobals "isinstance" = some none)
    (z9 : PySem.W.nsIn K mainGlobals "len" = some none)
    (z10 : PySem.W.nsIn K mainGlobals "min" = some none)
    (z11 : PySem.W.nsIn K mainGlobals "range" = some none)
    (z12 : PySem.W.nsIn K mainGlobals "repr" = some none)
    (tb : tabB K xkT upT domT = true) (nb : noB K noT = true) (ib : iniC K iniT = true)
    {xC0 xg0 : Addr} {xoc0 xdc0 xpm0 xcd0 xct0 : Value} {xod0 xan0 : Option Addr} {xos0 : Array (Option Value)} {xkV0 : Value}
    (xa0 : PySem.W.nsIn K mainGlobals "BadNetlist" = some (some (.ref xC0)))
    (xi0 : PySem.W.findIn K (.ref xC0) "__init__" = some (some (.ref xg0)))
    (xl0 : K.lookup xg0 = some ⟨xoc0, xod0, .func (PySem.W.fnOf "__init__" "BadNetlist.__init__" (defArgs si_BadNetlist) (defBody si_BadNetlist) (defScope si_BadNetlist) .none xkV0 xdc0 xpm0 xan0 xcd0 xct0), xos0⟩)
    (xc0 : PySem.W.codeIn K xcd0 "BadNetlist.__init__" = true)
    (xk0 : PySem.W.keepIn K (.ref xg0) = true)
    (xt0 : PySem.W.typeIn K (.ref xg0) = some (.type "function"))
    {xC1 xg1 : Addr} {xoc1 xdc1 xpm1 xcd1 xct1 : Value} {xod1 xan1 : Option Addr} {xos1 : Array (Option Value)} {xkV1 : Value}
    (xa1 : PySem.W.nsIn K mainGlobals "BadPaper" = some (some (.ref xC1)))
    (xi1 : PySem.W.findIn K (.ref xC1) "__init__" = some (some (.ref xg1)))
    (xl1 : K.lookup xg1 = some ⟨xoc1, xod1, .func (PySem.W.fnOf "__init__" "BadPaper.__init__" (defArgs si_BadPaper) (defBody si_BadPaper) (defScope si_BadPaper) .none xkV1 xdc1 xpm1 xan1 xcd1 xct1), xos1⟩)
    (xc1 : PySem.W.codeIn K xcd1 "BadPaper.__init__" = true)
    (xk1 : PySem.W.keepIn K (.ref xg1) = true)
    (xt1 : PySem.W.typeIn K (.ref xg1) = some (.type "function"))
    {xC2 xg2 xT2 : Addr} {xoc2 xdc2 xpm2 xcd2 xct2 : Value} {xod2 xan2 : Option Addr} {xos2 : Array (Option Value)} {xkV2 : Value}
    (xa2 : PySem.W.nsIn K mainGlobals "BadText" = some (some (.ref xC2)))
    (xi2 : PySem.W.findIn K (.ref xC2) "__init__" = some (some (.ref xg2)))
    (xl2 : K.lookup xg2 = some ⟨xoc2, xod2, .func (PySem.W.fnOf "__init__" "BadText.__init__" (defArgs si_BadText) (defBody si_BadText) (defScope si_BadText) (.ref xT2) xkV2 xdc2 xpm2 xan2 xcd2 xct2), xos2⟩)
    (xc2 : PySem.W.codeIn K xcd2 "BadText.__init__" = true)
    (xk2 : PySem.W.keepIn K (.ref xg2) = true)
    (xt2 : PySem.W.typeIn K (.ref xg2) = some (.type "function"))
    {xTo2 : Value} {xTd2 : Option Addr} {xTs2 : Array (Option Value)} {xTn2 : Nat} {xy2_0 xy2_1 : Tok} (xd2 : K.lookup xT2 = some ⟨xTo2, xTd2, .seq #[(.int 0 xy2_0 : Value), (.int 0 xy2_1 : Value)] xTn2, xTs2⟩)
    {xC3 xg3 : Addr} {xoc3 xdc3 xpm3 xcd3 xct3 : Value} {xod3 xan3 : Option Addr} {xos3 : Array (Option Value)} {xkV3 : Value}
    (xa3 : PySem.W.nsIn K mainGlobals "NoSignal" = some (some (.ref xC3)))
    (xi3 : PySem.W.findIn K (.ref xC3) "__init__" = some (some (.ref xg3)))
    (xl3 : K.lookup xg3 = some ⟨xoc3, xod3, .func (PySem.W.fnOf "__init__" "NoSignal.__init__" (defArgs si_NoSignal) (defBody si_NoSignal) (defScope si_NoSignal) .none xkV3 xdc3 xpm3 xan3 xcd3 xct3), xos3⟩)
    (xc3 : PySem.W.codeIn K xcd3 "NoSignal.__init__" = true)
    (xk3 : PySem.W.keepIn K (.ref xg3) = true)
    (xt3 : PySem.W.typeIn K (.ref xg3) = some (.type "function"))
    {xC4 xg4 : Addr} {xoc4 xdc4 xpm4 xcd4 xct4 : Value} {xod4 xan4 : Option Addr} {xos4 : Array (Option Value)} {xkV4 : Value}
    (xa4 : PySem.W.nsIn K mainGlobals "NoEnd" = some (some (.ref xC4)))
    (xi4 : PySem.W.findIn K (.ref xC4) "__init__" = some (some (.ref xg4)))
    (xl4 : K.lookup xg4 = some ⟨xoc4, xod4, .func (PySem.W.fnOf "__init__" "NoEnd.__init__" (defArgs si_NoEnd) (defBody si_NoEnd) (defScope si_NoEnd) .none xkV4 xdc4 xpm4 xan4 xcd4 xct4), xos4⟩)
    (xc4 : PySem.W.codeIn K xcd4 "NoEnd.__init__" = true)
    (xk4 : PySem.W.keepIn K (.ref xg4) = true)
    (xt4 : PySem.W.typeIn K (.ref xg4) = some (.type "function"))
    {xC5 xg5 : Addr} {xoc5 xdc5 xpm5 xcd5 xct5 : Value} {xod5 xan5 : Option Addr} {xos5 : Array (Option Value)} {xkV5 : Value}
    (xa5 : PySem.W.nsIn K mainGlobals "NoCorner" = some (some (.ref xC5)))
    (xi5 : PySem.W.findIn K (.ref xC5) "__init__" = some (some (.ref xg5)))
    (xl5 : K.lookup xg5 = some ⟨xoc5, xod5, .func (PySem.W.fnOf "__init__" "NoCorner.__init__" (defArgs si_NoCorner) (defBody si_NoCorner) (defScope si_NoCorner) .none xkV5 xdc5 xpm5 xan5 xcd5 xct5), xos5⟩)
    (xc5 : PySem.W.codeIn K xcd5 "NoCorner.__init__" = true)
    (xk5 : PySem.W.keepIn K (.ref xg5) = true)
    (xt5 : PySem.W.typeIn K (.ref xg5) = some (.type "function"))
    {xC6 xg6 : Addr} {xoc6 xdc6 xpm6 xcd6 xct6 : Value} {xod6 xan6 : Option Addr} {xos6 : Array (Option Value)} {xkV6 : Value}
    (xa6 : PySem.W.nsIn K mainGlobals "TooMany" = some (some (.ref xC6)))
    (xi6 : PySem.W.findIn K (.ref xC6) "__init__" = some (some (.ref xg6)))
    (xl6 : K.lookup xg6 = some ⟨xoc6, xod6, .func (PySem.W.fnOf "__init__" "TooMany.__init__" (defArgs si_TooMany) (defBody si_TooMany) (defScope si_TooMany) .none xkV6 xdc6 xpm6 xan6 xcd6 xct6), xos6⟩)
    (xc6 : PySem.W.codeIn K xcd6 "TooMany.__init__" = true)
    (xk6 : PySem.W.keepIn K (.ref xg6) = true)
    (xt6 : PySem.W.typeIn K (.ref xg6) = some (.type "function")) :
    ∃ fd : FuncData, (∀ (s : Shared) (u : Value), BindsTo s fd ⟨[u], []⟩ [("script", u)]) ∧ ∀ base : Heap, K.In base → base.Ns mainGlobals mg → FnG P w K mg base 10 fa fd ["script"] (spOf K (clX xkT K) c_law) := by
  have e := hfa.symm.trans (PySem.W.mg_of X G a9)
  cases e
  have gt : ∀ e ∈ gts, GtOk K mg e := by
    intro e he
    simp only [gts, List.mem_cons, List.not_mem_nil, or_false] at he
    rcases he with rfl | rfl
    · exact ⟨fun _ => .int _, fun h => absurd h (by decide +kernel)⟩
    · exact ⟨fun _ => .int _, fun h => absurd h (by decide +kernel)⟩
  have bn : ∀ x ∈ [("IndexError" : Str), ("KeyError" : Str), ("LookupError" : Str), ("NotImplementedError" : Str), ("RuntimeError" : Str), ("ValueError" : Str), ("enumerate" : Str), ("int" : Str), ("isinstance" : Str), ("len" : Str), ("min" : Str), ("range" : Str), ("repr" : Str)], mg x = none := by
    intro x hx
    simp only [List.mem_cons, List.not_mem_nil, or_false] at hx
    rcases hx with rfl | rfl | rfl | rfl | rfl | rfl | rfl | rfl | rfl | rfl | rfl | rfl | rfl
    · exact PySem.W.mg_none_of X G z0
    · exact PySem.W.mg_none_of X G z1
    · exact PySem.W.mg_none_of X G z2
    · exact PySem.W.mg_none_of X G z3
    · exact PySem.W.mg_none_of X G z4
    · exact PySem.W.mg_none_of X G z5
    · exact PySem.W.mg_none_of X G z6
    · exact PySem.W.mg_none_of X G z7
    · exact PySem.W.mg_none_of X G z8
    · exact PySem.W.mg_none_of X G z9
    · exact PySem.W.mg_none_of X G z10
    · exact PySem.W.mg_none_of X G z11
    · exact PySem.W.mg_none_of X G z12
  have F0 := df0 (x := "_law_begin") (qual := "_law_begin") (st := s_law_begin) l0 c0 k0
  have d0 : Df K mg bi (gvOf gts) "_law_begin" f0 _ ["script"] := df_of X G a0 k0 (fun _ => F0.bindsN fun _ _ _ _ _ _ us hl => match us, hl with | [_], _ => rfl) (kw_none (kw_none_of (by decide +kernel)))
  have F1 := df0 (x := "_law_mixed") (qual := "_law_mixed") (st := s_law_mixed) l1 c1 k1
  have d1 : Df K mg bi (gvOf gts) "_law_mixed" f1 _ ["cell", "k"] := df_of X G a1 k1 (fun _ => F1.bindsN fun _ _ _ _ _ _ us hl => match us, hl with | [_, _], _ => rfl) (kw_none (kw_none_of (by decide +kernel)))
  have F2 := df0 (x := "_law_next") (qual := "_law_next") (st := s_law_next) l2 c2 k2
  have d2 : Df K mg bi (gvOf gts) "_law_next" f2 _ ["draw", "many"] := df_of X G a2 k2 (fun _ => F2.bindsN fun _ _ _ _ _ _ us hl => match us, hl with | [_, _], _ => rfl) (kw_none (kw_none_of (by decide +kernel)))
  have F3 := df0 (x := "_law_words") (qual := "_law_words") (st := s_law_words) l3 c3 k3
  have d3 : Df K mg bi (gvOf gts) "_law_words" f3 _ ["error"] := df_of X G a3 k3 (fun _ => F3.bindsN fun _ _ _ _ _ _ us hl => match us, hl with | [_], _ => rfl) (kw_none (kw_none_of (by decide +kernel)))
  have F4 := df0 (x := "_law_families") (qual := "_law_families") (st := s_law_families) l4 c4 k4
  have d4 : Df K mg bi (gvOf gts) "_law_families" f4 _ ["error"] := df_of X G a4 k4 (fun _ => F4.bindsN fun _ _ _ _ _ _ us hl => match us, hl with | [_], _ => rfl) (kw_none (kw_none_of (by decide +kernel)))
  have F5 := df0 (x := "_law_made") (qual := "_law_made") (st := s_law_made) l5 c5 k5
  have d5 : Df K mg bi (gvOf gts) "_law_made" f5 _ ["amount", "spot", "what"] := df_of X G a5 k5 (fun _ => F5.bindsN fun _ _ _ _ _ _ us hl => match us, hl with | [_, _, _], _ => rfl) (kw_none (kw_none_of (by decide +kernel)))
  have F6 := df0 (x := "_law_fields") (qual := "_law_fields") (st := s_law_fields) l6 c6 k6
  have d6 : Df K mg bi (gvOf gts) "_law_fields" f6 _ ["some"] := df_of X G a6 k6 (fun _ => F6.bindsN fun _ _ _ _ _ _ us hl => match us, hl with | [_], _ => rfl) (kw_none (kw_none_of (by decide +kernel)))
  have F7 := df0 (x := "_law_by_names") (qual := "_law_by_names") (st := s_law_by_names) l7 c7 k7
  have d7 : Df K mg bi (gvOf gts) "_law_by_names" f7 _ ["amount", "spot", "what"] := df_of X G a7 k7 (fun _ => F7.bindsN fun _ _ _ _ _ _ us hl => match us, hl with | [_, _, _], _ => rfl) (kw_none (kw_none_of (by decide +kernel)))
  have F8 := df0 (x := "_law_are_caught") (qual := "_law_are_caught") (st := s_law_are_caught) l8 c8 k8
  have d8 : Df K mg bi (gvOf gts) "_law_are_caught" f8 _ ["amount", "spot", "what"] := df_of X G a8 k8 (fun _ => F8.bindsN fun _ _ _ _ _ _ us hl => match us, hl with | [_, _, _], _ => rfl) (kw_none (kw_none_of (by decide +kernel)))
  have F9 := df0 (x := "law") (qual := "law") (st := s_law) l9 c9 k9
  refine ⟨_, fun s u => F9.bindsA (ps := ["script"]) (fun _ _ _ _ _ _ us hl => match us, hl with | [_], _ => rfl) s [u] rfl, fun base _ _ => ?_⟩
  have hC0 := clK_of xa0
  have hX0 : seek xkT "BadNetlist" = some (["place"] : List Str) := by decide +kernel
  obtain ⟨XC0, XN0⟩ := xcls_at tb hX0 hC0
  have FI0 := df0 (x := "__init__") (qual := "BadNetlist.__init__") (st := si_BadNetlist) xl0 xc0 xk0
  have YI0 := xini_of (nms := ["place"]) ⟨xi0, FI0⟩ ib (c := "BadNetlist") (b := .value) (by decide +kernel) hC0 xt0 XN0 (by decide +kernel)
  have hC1 := clK_of xa1
  have hX1 : seek xkT "BadPaper" = some (["place"] : List Str) := by decide +kernel
  obtain ⟨XC1, XN1⟩ := xcls_at tb hX1 hC1
  have FI1 := df0 (x := "__init__") (qual := "BadPaper.__init__") (st := si_BadPaper) xl1 xc1 xk1
  have YI1 := xini_of (nms := ["place"]) ⟨xi1, FI1⟩ ib (c := "BadPaper") (b := .value) (by decide +kernel) hC1 xt1 XN1 (by decide +kernel)
  have hC2 := clK_of xa2
  have hX2 : seek xkT "BadText" = some (["line", "word"] : List Str) := by decide +kernel
  obtain ⟨XC2, XN2⟩ := xcls_at tb hX2 hC2
  have FI2 := dfp (x := "__init__") (qual := "BadText.__init__") (st := si_BadText) [(.int 0 : V), (.int 0 : V)] xl2 xc2 xk2 (by simp) xd2 (its := [(.int 0 xy2_0 : Value), (.int 0 xy2_1 : Value)]) rfl (.cons ⟨_, rfl⟩ (.cons ⟨_, rfl⟩ .nil))
  have YI2 := xini_of (nms := ["line", "word"]) ⟨xi2, FI2⟩ ib (c := "BadText") (b := .value) (by decide +kernel) hC2 xt2 XN2 (by decide +kernel)
  have hC3 := clK_of xa3
  have hX3 : seek xkT "NoSignal" = some (["name"] : List Str) := by decide +kernel
  obtain ⟨XC3, XN3⟩ := xcls_at tb hX3 hC3
  have FI3 := df0 (x := "__init__") (qual := "NoSignal.__init__") (st := si_NoSignal) xl3 xc3 xk3
  have YI3 := xini_of (nms := ["name"]) ⟨xi3, FI3⟩ ib (c := "NoSignal") (b := .lookup) (by decide +kernel) hC3 xt3 XN3 (by decide +kernel)
  have hC4 := clK_of xa4
  have hX4 : seek xkT "NoEnd" = some (["name"] : List Str) := by decide +kernel
  obtain ⟨XC4, XN4⟩ := xcls_at tb hX4 hC4
  have FI4 := df0 (x := "__init__") (qual := "NoEnd.__init__") (st := si_NoEnd) xl4 xc4 xk4
  have YI4 := xini_of (nms := ["name"]) ⟨xi4, FI4⟩ ib (c := "NoEnd") (b := .lookup) (by decide +kernel) hC4 xt4 XN4 (by decide +kernel)
  have hC5 := clK_of xa5
  have hX5 : seek xkT "NoCorner" = some (["number"] : List Str) := by decide +kernel
  obtain ⟨XC5, XN5⟩ := xcls_at tb hX5 hC5
  have FI5 := df0 (x := "__init__") (qual := "NoCorner.__init__") (st := si_NoCorner) xl5 xc5 xk5
  have YI5 := xini_of (nms := ["number"]) ⟨xi5, FI5⟩ ib (c := "NoCorner") (b := .lookup) (by decide +kernel) hC5 xt5 XN5 (by decide +kernel)
  have hC6 := clK_of xa6
  have hX6 : seek xkT "TooMany" = some (["most"] : List Str) := by decide +kernel
  obtain ⟨XC6, XN6⟩ := xcls_at tb hX6 hC6
  have FI6 := df0 (x := "__init__") (qual := "TooMany.__init__") (st := si_TooMany) xl6 xc6 xk6
  have YI6 := xini_of (nms := ["most"]) ⟨xi6, FI6⟩ ib (c := "TooMany") (b := .runtime) (by decide +kernel) hC6 xt6 XN6 (by decide +kernel)
  have G0 : Glo P w K mg base 0 ⟨seek [], gtOf gts, seek xkT, subG xkT upT domT⟩ (gvOf gts) (clX xkT K) bi := Glo.nil gt bn (xg_of X G tb (by decide +kernel) (by
    intro q hq
    simp only [List.mem_cons, List.not_mem_nil, or_false] at hq
    rcases hq with rfl | rfl | rfl | rfl | rfl | rfl | rfl | rfl | rfl | rfl | rfl | rfl | rfl | rfl | rfl | rfl | rfl | rfl | rfl | rfl | rfl | rfl | rfl | rfl
    · exact ⟨xC0, _, hC0, hX0, mkb0 XC0 YI0 FI0 1 [] [] [] (fun kV doc pm an cdv ct me us ws h1 h2 => by
        match us, ws, h1, h2 with
        | [_], [], _, _ => rfl) (fun zs hz => by
        match zs, hz with
        | [], _ => rfl)⟩
    · exact mk_no tb nb .value (by decide +kernel) (by decide +kernel)
    · exact mk_no tb nb .value (by decide +kernel) (by decide +kernel)
    · exact mk_no tb nb .value (by decide +kernel) (by decide +kernel)
    · exact mk_no tb nb .value (by decide +kernel) (by decide +kernel)
    · exact ⟨xC1, _, hC1, hX1, mkb0 XC1 YI1 FI1 1 [] [] [] (fun kV doc pm an cdv ct me us ws h1 h2 => by
        match us, ws, h1, h2 with
        | [_], [], _, _ => rfl) (fun zs hz => by
        match zs, hz with
        | [], _ => rfl)⟩
    · exact mk_no tb nb .value (by decide +kernel) (by decide +kernel)
    · exact ⟨xC2, _, hC2, hX2, mkbD XC2 YI2 FI2 (by simp) 2 [] [] [] (fun T kV doc pm an cdv ct me us its ws h1 h2 h3 => by
        match us, its, ws, h1, h2, h3 with
        | [_, _], [_, _], [], _, _, _ => exact ⟨_, rfl, rfl⟩) (fun zs hz => by
        match zs, hz with
        | [], _ => rfl)⟩
    · exact mk_no tb nb .value (by decide +kernel) (by decide +kernel)
    · exact ⟨xC3, _, hC3, hX3, mkb0 XC3 YI3 FI3 1 [] [] [] (fun kV doc pm an cdv ct me us ws h1 h2 => by
        match us, ws, h1, h2 with
        | [_], [], _, _ => rfl) (fun zs hz => by
        match zs, hz with
        | [], _ => rfl)⟩
    · exact ⟨xC4, _, hC4, hX4, mkb0 XC4 YI4 FI4 1 [] [] [] (fun kV doc pm an cdv ct me us ws h1 h2 => by
        match us, ws, h1, h2 with
        | [_], [], _, _ => rfl) (fun zs hz => by
        match zs, hz with
        | [], _ => rfl)⟩
    · exact ⟨xC5, _, hC5, hX5, mkb0 XC5 YI5 FI5 1 [] [] [] (fun kV doc pm an cdv ct me us ws h1 h2 => by
        match us, ws, h1, h2 with
        | [_], [], _, _ => rfl) (fun zs hz => by
        match zs, hz with
        | [], _ => rfl)⟩
    · exact mk_no tb nb .runtime (by decide +kernel) (by decide +kernel)
    · exact mk_no tb nb .runtime (by decide +kernel) (by decide +kernel)
    · exact ⟨xC6, _, hC6, hX6, mkb0 XC6 YI6 FI6 1 [] [] [] (fun kV doc pm an cdv ct me us ws h1 h2 => by
        match us, ws, h1, h2 with
        | [_], [], _, _ => rfl) (fun zs hz => by
        match zs, hz with
        | [], _ => rfl)⟩
    · exact ⟨xC0, _, hC0, hX0, mkb0 XC0 YI0 FI0 0 ["place"] [.inl 0] [.inl 0] (fun kV doc pm an cdv ct me us ws h1 h2 => by
        match us, ws, h1, h2 with
        | [], [_], _, _ => rfl) (fun zs hz => by
        match zs, hz with
        | [_], _ => rfl)⟩
    · exact ⟨xC1, _, hC1, hX1, mkb0 XC1 YI1 FI1 0 ["place"] [.inl 0] [.inl 0] (fun kV doc pm an cdv ct me us ws h1 h2 => by
        match us, ws, h1, h2 with
        | [], [_], _, _ => rfl) (fun zs hz => by
        match zs, hz with
        | [_], _ => rfl)⟩
    · exact ⟨xC2, _, hC2, hX2, mkbD XC2 YI2 FI2 (by simp) 0 ["word", "line"] [.inl 1, .inl 0] [.inl 1, .inl 0] (fun T kV doc pm an cdv ct me us its ws h1 h2 h3 => by
        match us, its, ws, h1, h2, h3 with
        | [], [_, _], [_, _], _, _, _ => exact ⟨_, rfl, rfl⟩) (fun zs hz => by
        match zs, hz with
        | [_, _], _ => rfl)⟩
    · exact ⟨xC2, _, hC2, hX2, mkbD XC2 YI2 FI2 (by simp) 1 [] [.inr "BadText.word"] [.inr 1] (fun T kV doc pm an cdv ct me us its ws h1 h2 h3 => by
        match us, its, ws, h1, h2, h3 with
        | [_], [_, _], [], _, _, _ => exact ⟨_, rfl, rfl⟩) (fun zs hz => by
        match zs, hz with
        | [], _ => rfl)⟩
    · exact ⟨xC2, _, hC2, hX2, mkbD XC2 YI2 FI2 (by simp) 0 [] [.inr "BadText.line", .inr "BadText.word"] [.inr 0, .inr 1] (fun T kV doc pm an cdv ct me us its ws h1 h2 h3 => by
        match us, its, ws, h1, h2, h3 with
        | [], [_, _], [], _, _, _ => exact ⟨_, rfl, rfl⟩) (fun zs hz => by
        match zs, hz with
        | [], _ => rfl)⟩
    · exact ⟨xC2, _, hC2, hX2, mkbD XC2 YI2 FI2 (by simp) 0 ["word"] [.inr "BadText.line", .inl 0] [.inr 0, .inl 0] (fun T kV doc pm an cdv ct me us its ws h1 h2 h3 => by
        match us, its, ws, h1, h2, h3 with
        | [], [_, _], [_], _, _, _ => exact ⟨_, rfl, rfl⟩) (fun zs hz => by
        match zs, hz with
        | [_], _ => rfl)⟩
    · exact ⟨xC3, _, hC3, hX3, mkb0 XC3 YI3 FI3 0 ["name"] [.inl 0] [.inl 0] (fun kV doc pm an cdv ct me us ws h1 h2 => by
        match us, ws, h1, h2 with
        | [], [_], _, _ => rfl) (fun zs hz => by
        match zs, hz with
        | [_], _ => rfl)⟩
    · exact ⟨xC4, _, hC4, hX4, mkb0 XC4 YI4 FI4 0 ["name"] [.inl 0] [.inl 0] (fun kV doc pm an cdv ct me us ws h1 h2 => by
        match us, ws, h1, h2 with
        | [], [_], _, _ => rfl) (fun zs hz => by
        match zs, hz with
        | [_], _ => rfl)⟩
    · exact ⟨xC6, _, hC6, hX6, mkb0 XC6 YI6 FI6 0 ["most"] [.inl 0] [.inl 0] (fun kV doc pm an cdv ct me us ws h1 h2 => by
        match us, ws, h1, h2 with
        | [], [_], _, _ => rfl) (fun zs hz => by
        match zs, hz with
        | [_], _ => rfl)⟩))
  have R0 := fn_ok F0 sc_law_begin G0 ck_law_begin (c := c_begin) (by first | exact ok_begin | (apply ok_begin <;> rfl))
  have G1 := G0.add d0 R0
  have R1 := fn_ok F1 sc_law_mixed G1 ck_law_mixed (c := c_mixed) (by first | exact ok_mixed | (apply ok_mixed <;> rfl))
  have G2 := G1.add d1 R1
  have R2 := fn_ok F2 sc_law_next G2 ck_law_next (c := c_next) (by first | exact ok_next | (apply ok_next <;> rfl))
  have G3 := G2.add d2 R2
  have R3 := fn_ok F3 sc_law_words G3 ck_law_words (c := c_law_words) (by first | exact ok_law_words | (apply ok_law_words <;> rfl))
  have G4 := G3.add d3 R3
  have R4 := fn_ok F4 sc_law_families G4 ck_law_families (c := c_law_families) (by first | exact ok_law_families | (apply ok_law_families <;> rfl))
  have G5 := G4.add d4 R4
  have R5 := fn_ok F5 sc_law_made G5 ck_law_made (c := c_law_made) (by first | exact ok_law_made | (apply ok_law_made <;> rfl))
  have G6 := G5.add d5 R5
  have R6 := fn_ok F6 sc_law_fields G6 ck_law_fields (c := c_law_fields) (by first | exact ok_law_fields | (apply ok_law_fields <;> rfl))
  have G7 := G6.add d6 R6
  have R7 := fn_ok F7 sc_law_by_names G7 ck_law_by_names (c := c_law_by_names) (by first | exact ok_law_by_names | (apply ok_law_by_names <;> rfl))
  have G8 := G7.add d7 R7
  have R8 := fn_ok F8 sc_law_are_caught G8 ck_law_are_caught (c := c_law_are_caught) (by first | exact ok_law_are_caught | (apply ok_law_are_caught <;> rfl))
  have G9 := G8.add d8 R8
  have R9 := fn_ok F9 sc_law G9 ck_law (c := c_law) (by first | exact ok_law | (apply ok_law <;> rfl))
  exact R9
end Vg

set_option Elab.async false
set_option linter.all false
set_option maxRecDepth 100000
set_option maxHeartbeats 4000000
open PySem PySem.W PyProof.Rows in
set_option maxRecDepth 100000 in
set_option maxHeartbeats 0 in
theorem PySem.Challenge.cw_gateslack_k02_refusals_by_hand_holds : PySem.Challenge.rw_gateslack_k02_refusals_by_hand.Holds := by
  w_on; o_law; k_head; (case hw => w_witness2)
  k_fill
  refine Vg.walkX Vg.xkT (l := PySem.Challenge.rw_gateslack_k02_refusals_by_hand) (n := 63) (k := 10) (x := "script") (c := Vg.c_law) rfl (by decide) rfl ⟨rfl, by decide, by decide⟩ (fun w h Y => PySem.W.kIn_of Y) ?F rfl rfl Vg.wish
  case F =>
    intro w mg fa h KX G hmg
    refine' Vg.all_mk KX G hmg ?a0 ?l0 ?c0 ?k0 ?a1 ?l1 ?c1 ?k1 ?a2 ?l2 ?c2 ?k2 ?a3 ?l3 ?c3 ?k3 ?a4 ?l4 ?c4 ?k4 ?a5 ?l5 ?c5 ?k5 ?a6 ?l6 ?c6 ?k6 ?a7 ?l7 ?c7 ?k7 ?a8 ?l8 ?c8 ?k8 ?a9 ?l9 ?c9 ?k9 ?z0 ?z1 ?z2 ?z3 ?z4 ?z5 ?z6 ?z7 ?z8 ?z9 ?z10 ?z11 ?z12 ?tb ?nb ?ib ?xa0 ?xi0 ?xl0 ?xc0 ?xk0 ?xt0 ?xa1 ?xi1 ?xl1 ?xc1 ?xk1 ?xt1 ?xa2 ?xi2 ?xl2 ?xc2 ?xk2 ?xt2 ?xd2 ?xa3 ?xi3 ?xl3 ?xc3 ?xk3 ?xt3 ?xa4 ?xi4 ?xl4 ?xc4 ?xk4 ?xt4 ?xa5 ?xi5 ?xl5 ?xc5 ?xk5 ?xt5 ?xa6 ?xi6 ?xl6 ?xc6 ?xk6 ?xt6
    (case a0 => k_is)
    (case l0 => k_is)
    (case c0 => k_is)
    (case k0 => k_is)
    (case a1 => k_is)
    (case l1 => k_is)
    (case c1 => k_is)
    (case k1 => k_is)
    (case a2 => k_is)
    (case l2 => k_is)
    (case c2 => k_is)
    (case k2 => k_is)
    (case a3 => k_is)
    (case l3 => k_is)
    (case c3 => k_is)
    (case k3 => k_is)
    (case a4 => k_is)
    (case l4 => k_is)
    (case c4 => k_is)
    (case k4 => k_is)
    (case a5 => k_is)
    (case l5 => k_is)
    (case c5 => k_is)
    (case k5 => k_is)
    (case a6 => k_is)
    (case l6 => k_is)
    (case c6 => k_is)
    (case k6 => k_is)
    (case a7 => k_is)
    (case l7 => k_is)
    (case c7 => k_is)
    (case k7 => k_is)
    (case a8 => k_is)
    (case l8 => k_is)
    (case c8 => k_is)
    (case k8 => k_is)
    (case a9 => k_is)
    (case l9 => k_is)
    (case c9 => k_is)
    (case k9 => k_is)
    (case z0 => k_is)
    (case z1 => k_is)
    (case z2 => k_is)
    (case z3 => k_is)
    (case z4 => k_is)
    (case z5 => k_is)
    (case z6 => k_is)
    (case z7 => k_is)
    (case z8 => k_is)
    (case z9 => k_is)
    (case z10 => k_is)
    (case z11 => k_is)
    (case z12 => k_is)
    (case tb => kernel_rfl!)
    (case nb => kernel_rfl!)
    (case ib => kernel_rfl!)
    (case xa0 => k_is)
    (case xi0 => k_is)
    (case xl0 => k_is)
    (case xc0 => k_is)
    (case xk0 => k_is)
    (case xt0 => k_is)
    (case xa1 => k_is)
    (case xi1 => k_is)
    (case xl1 => k_is)
    (case xc1 => k_is)
    (case xk1 => k_is)
    (case xt1 => k_is)
    (case xa2 => k_is)
    (case xi2 => k_is)
    (case xl2 => k_is)
    (case xc2 => k_is)
    (case xk2 => k_is)
    (case xt2 => k_is)
    (case xd2 => k_is)
    (case xa3 => k_is)
    (case xi3 => k_is)
    (case xl3 => k_is)
    (case xc3 => k_is)
    (case xk3 => k_is)
    (case xt3 => k_is)
    (case xa4 => k_is)
    (case xi4 => k_is)
    (case xl4 => k_is)
    (case xc4 => k_is)
    (case xk4 => k_is)
    (case xt4 => k_is)
    (case xa5 => k_is)
    (case xi5 => k_is)
    (case xl5 => k_is)
    (case xc5 => k_is)
    (case xk5 => k_is)
    (case xt5 => k_is)
    (case xa6 => k_is)
    (case xi6 => k_is)
    (case xl6 => k_is)
    (case xc6 => k_is)
    (case xk6 => k_is)
    (case xt6 => k_is)
#print axioms PySem.Challenge.cw_gateslack_k02_refusals_by_hand_holds

