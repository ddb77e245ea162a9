import PyProof.Rows.All
import Wide.All
import OpenK.AllK
import Wide.FinOn
import PyProof.EqAt
import PyProof.EqKinds
import PyProof.TupleCall
import PyProof.NoPylong
import PyProof.StrReplace2
import KE.KOpsOwn
import KE.GoesMore
import KE.GoesEnum
import HandS.ForMost
import HandS.ForExc
import HandS.IsInst
import HandS.Wide
import HandS.EndBits
import HandS.Style
import HandS.Zip
import HandS.Walk
import HandS.Defaults
import PySem.Challenge.RW_surelevels_k03_numbers_ordered
set_option Elab.async false
set_option linter.all false
set_option maxRecDepth 100000
set_option maxHeartbeats 4000000
/-! Lay0: what every law of this program leans on, beside the library: own operators, great numbers, enumerate of a tuple. -/
namespace PySem.W
open PySem PySem.Calls PyProof.Rows
section
variable {prog : Program} {w : World} {A : Around} {E : Value → Shared → Prop} {s : Shared} {K : Frag} {x C L f : Addr} {h₀ : Heap} {m : Str → Option Value} {ox : Obj} {od : Option Obj} {nm T : String}

/-- x op b, x an own instance, b of a built-in type that the heap may tell -/
theorem gy_binT {op : Operator} {b : Value} {fo ro rc : Option Value} {Q : Value → Shared → Prop} (F : Fr h₀ L s.heap m) (X₀ : K.In h₀) (I : InstAt s.heap x ox C od) (hb : Looks (model prog w) s.heap (typeOf b) (.type T)) (hc : selfFirst K C = true)
    (hs : findIn K (.ref C) (PySem.dunder op.info.2) = some (some (.ref f))) (hf : isFn K (.ref f) = true) (hr : findIn K (.ref C) (dunderR op.info.2) = some rc) (hp : rc = none ∨ ∃ g : Addr, rc = some (.ref g))
    (h1 : findIn K (.type T) (PySem.dunder op.info.2) = some fo) (h2 : findIn K (.type T) (dunderR op.info.2) = some ro) (hsub : subIn K (.type T) (.ref C) = some false)
    (h : wpAny (model prog w) A (call (.ref f) [.ref x, b]) (CmpBack Q) E s) : wpAny (model prog w) A (binaryOp op (.ref x) b) Q E s := by
  have X := X₀.keeps F.keep
  obtain ⟨cd, rest, hcd, hm⟩ := ksp_first hc
  rcases hi : op.info with ⟨sym, nm'⟩
  rw [hi] at hs hr h1 h2
  dsimp only at hs hr h1 h2
  have one := ksp_try X I hs hf h
  obtain ⟨hh, g, d, tt, os⟩ := s
  have L1 : Looks (model prog w) hh (typeOf (.ref x)) (.ref C) := I.type
  have L2 : Looks (model prog w) hh (typeOf b) (.type T) := hb
  have L3 : Looks (model prog w) hh (fillsNumberSlot (.ref C) nm') true := fills_K X hcd hm hs
  have L4 : Looks (model prog w) hh (fillsNumberSlot (.type T) nm') ((fo.isSome && !isSeqSlot fo) || (ro.isSome && !isSeqSlot ro)) := ksp_fillsT X h1 h2
  have L5 : Looks (model prog w) hh (isSubtype (.type T) (.ref C)) false := looks_subIn X hsub
  have L6 : Looks (model prog w) hh (numberSlotInPython (.ref C) nm') true := ksp_inPy X hs hr hp
  have L7 : Looks (model prog w) hh (numberSlotInPython (.type T) nm') false := Looks.of_pure rfl
  have L8 : Looks (model prog w) hh (typeLookup (.type T) (dunderR nm')) ro := looks_findIn X h2
  generalize ((fo.isSome && !isSeqSlot fo) || (ro.isSome && !isSeqSlot ro)) = right at L4
  have hne : (Value.ref C == Value.type T) = false := Bool.eq_false_iff.mpr fun q => by cases beq_iff_eq.mp q
  simp only [binaryOp, hi]
  refine wpAny_holding (wpAny_bind ?_)
  unfold binaryOp1
  refine wpAny_bind (L1.at (wpAny_bind (L2.at (wpAny_bind (L3.at ?_)))))
  simp only [hne, Bool.false_eq_true, if_false]
  cases right with
  | false =>
    ksp_lk
    refine wpAny_mono one (fun r s' hr' => ?_) fun _ _ e => e
    obtain ⟨v, rfl, hq⟩ := hr'
    ksp_lk
    exact hq
  | true =>
    ksp_lk
    refine wpAny_mono one (fun r s' hr' => ?_) fun _ _ e => e
    obtain ⟨v, rfl, hq⟩ := hr'
    ksp_lk
    exact hq

/-- the class of x fills the slot by its reflected method -/
theorem gy_fillsR {M : Model} {h : Heap} {cd : ClassData} {rest : List Value} {fd : Option Value} (X : K.In h) (hc : clsIn K C = some cd) (hm : cd.mro = .ref C :: rest) (hd : findIn K (.ref C) (PySem.dunder nm) = some fd) (hp : fd = none ∨ ∃ g : Addr, fd = some (.ref g))
    (hs : findIn K (.ref C) (dunderR nm) = some (some (.ref f))) : Looks M h (fillsNumberSlot (.ref C) nm) true := by
  rcases hp with rfl | ⟨g, rfl⟩
  · intro A Q E s k q
    unfold fillsNumberSlot
    refine wpAny_bind ((looks_clsIn X hc).andThen (f := fun cd => pure cd.mro) .now A _ E s k ?_)
    rw [hm, List.anyM_cons]
    refine wpAny_bind ?_
    show wpAny M A (List.anyM _ [PySem.dunder nm, dunderR nm]) _ _ _
    rw [List.anyM_cons]
    refine wpAny_bind (wpAny_bind (looks_findIn X hd A _ E s k ?_))
    dsimp only
    refine wpAny_pure ?_
    rw [if_neg (by decide), List.anyM_cons]
    refine wpAny_bind (wpAny_bind (looks_findIn X hs A _ E s k ?_))
    dsimp only
    rw [if_pos (show (!ownNameWrapper (.ref f) (dunderR nm)) = true from rfl)]
    refine wpAny_pure ?_
    rw [if_pos rfl]
    refine wpAny_pure ?_
    rw [if_pos rfl]
    exact wpAny_pure q
  · exact fills_K X hc hm hd

/-- b op x, b of a built-in type whose own slot (if it is a number's) declines, x an own instance with the reflected method at f -/
theorem gy_binR {op : Operator} {b : Value} {fd fo ro : Option Value} {Q : Value → Shared → Prop} (F : Fr h₀ L s.heap m) (X₀ : K.In h₀) (I : InstAt s.heap x ox C od) (hb : Looks (model prog w) s.heap (typeOf b) (.type T)) (hc : selfFirst K C = true)
    (hd : findIn K (.ref C) (PySem.dunder op.info.2) = some fd) (hp : fd = none ∨ ∃ g : Addr, fd = some (.ref g))
    (hs : findIn K (.ref C) (dunderR op.info.2) = some (some (.ref f))) (hf : isFn K (.ref f) = true)
    (h1 : findIn K (.type T) (PySem.dunder op.info.2) = some fo) (h2 : findIn K (.type T) (dunderR op.info.2) = some ro) (hsub : subIn K (.ref C) (.type T) = some false)
    (hdec : ((fo.isSome && !isSeqSlot fo) || (ro.isSome && !isSeqSlot ro)) = true → ∀ P : Option Value → Shared → Prop, P none s → wpAny (model prog w) A (tryMethod b (PySem.dunder op.info.2) (.ref x)) P E s)
    (h : wpAny (model prog w) A (call (.ref f) [.ref x, b]) (CmpBack Q) E s) : wpAny (model prog w) A (binaryOp op b (.ref x)) Q E s := by
  have X := X₀.keeps F.keep
  obtain ⟨cd, rest, hcd, hm⟩ := ksp_first hc
  rcases hi : op.info with ⟨sym, nm'⟩
  rw [hi] at hs hd h1 h2 hdec
  dsimp only at hs hd h1 h2 hdec
  have one := ksp_try X I hs hf h
  obtain ⟨hh, g, d, tt, os⟩ := s
  have L1 : Looks (model prog w) hh (typeOf (.ref x)) (.ref C) := I.type
  have L2 : Looks (model prog w) hh (typeOf b) (.type T) := hb
  have L3 : Looks (model prog w) hh (fillsNumberSlot (.ref C) nm') true := gy_fillsR X hcd hm hd hp hs
  have L4 : Looks (model prog w) hh (fillsNumberSlot (.type T) nm') ((fo.isSome && !isSeqSlot fo) || (ro.isSome && !isSeqSlot ro)) := ksp_fillsT X h1 h2
  have L5 : Looks (model prog w) hh (isSubtype (.ref C) (.type T)) false := looks_subIn X hsub
  have L7 : Looks (model prog w) hh (numberSlotInPython (.type T) nm') false := Looks.of_pure rfl
  generalize ((fo.isSome && !isSeqSlot fo) || (ro.isSome && !isSeqSlot ro)) = left at L4 hdec
  have hne : (Value.type T == Value.ref C) = false := Bool.eq_false_iff.mpr fun q => by cases beq_iff_eq.mp q
  simp only [binaryOp, hi]
  refine wpAny_holding (wpAny_bind ?_)
  unfold binaryOp1
  refine wpAny_bind (L2.at (wpAny_bind (L1.at (wpAny_bind (L4.at ?_)))))
  simp only [hne, Bool.false_eq_true, if_false]
  cases left with
  | false =>
    ksp_lk
    refine wpAny_mono one (fun r s' hr' => ?_) fun _ _ e => e
    obtain ⟨v, rfl, hq⟩ := hr'
    ksp_lk
    exact hq
  | true =>
    ksp_lk
    refine hdec rfl _ ?_
    ksp_lk
    refine wpAny_mono one (fun r s' hr' => ?_) fun _ _ e => e
    obtain ⟨v, rfl, hq⟩ := hr'
    ksp_lk
    exact hq
end
end PySem.W

namespace PySem.GyDec
open PySem PySem.W
section
variable {C dx x : Addr} (a : Int) (t : Tok)
theorem add_dec : GivesAt (fun s => s.heap.get? x = some (instObj C dx)) (Builtin.«int.__add__» ⟨[.int a t, .ref x], []⟩) (.val .notImplemented) := fun prog w A R s hP h => by
  obtain ⟨hp, g, d, tk, os⟩ := s
  have hl : Heap.get? (Shared.heap ⟨hp, g, d, tk, os⟩) x = some (instObj C dx) := hP
  wp_walk using AutoSeq1.wpAny_loadPart' hl
  exact h
theorem sub_dec : GivesAt (fun s => s.heap.get? x = some (instObj C dx)) (Builtin.«int.__sub__» ⟨[.int a t, .ref x], []⟩) (.val .notImplemented) := fun prog w A R s hP h => by
  obtain ⟨hp, g, d, tk, os⟩ := s
  have hl : Heap.get? (Shared.heap ⟨hp, g, d, tk, os⟩) x = some (instObj C dx) := hP
  wp_walk using AutoSeq1.wpAny_loadPart' hl
  exact h
theorem mul_dec : GivesAt (fun s => s.heap.get? x = some (instObj C dx)) (Builtin.«int.__mul__» ⟨[.int a t, .ref x], []⟩) (.val .notImplemented) := fun prog w A R s hP h => by
  obtain ⟨hp, g, d, tk, os⟩ := s
  have hl : Heap.get? (Shared.heap ⟨hp, g, d, tk, os⟩) x = some (instObj C dx) := hP
  wp_walk using AutoSeq1.wpAny_loadPart' hl
  exact h
end
section
variable {prog : Program} {w : World} {A : Around} {E : Value → Shared → Prop} {s : Shared} {C dx x : Addr} {a : Int} {t : Tok} {P : Option Value → Shared → Prop}
theorem try_dec {name : Str} {id : String} {B : Builtin} (slot : Slot "int" name id) (entry : entryFor table id = some B) (args : argsOk id ⟨[.int a t, .ref x], []⟩)
    (g : GivesAt (fun s => s.heap.get? x = some (instObj C dx)) (B ⟨[.int a t, .ref x], []⟩) (.val .notImplemented)) (hx : s.heap.get? x = some (instObj C dx)) (h : P none s) : wpAny (model prog w) A (tryMethod (.int a t) name (.ref x)) P E s :=
  wpAny_tryMethod_declines (typeIs_int s a t) slot (call_givesAt slot (typeIs_int s a t) entry args g hx ⟨rfl, h⟩)
theorem try_add (hx : s.heap.get? x = some (instObj C dx)) (h : P none s) : wpAny (model prog w) A (tryMethod (.int a t) (PySem.dunder Operator.Add.info.2) (.ref x)) P E s :=
  try_dec (name := PySem.dunder Operator.Add.info.2) (id := "int.__add__") (B := Builtin.«int.__add__») F.slot_int_add F.entry_int_add (F.args_int_add_2 _ _) (add_dec a t) hx h
theorem try_sub (hx : s.heap.get? x = some (instObj C dx)) (h : P none s) : wpAny (model prog w) A (tryMethod (.int a t) (PySem.dunder Operator.Sub.info.2) (.ref x)) P E s :=
  try_dec (name := PySem.dunder Operator.Sub.info.2) (id := "int.__sub__") (B := Builtin.«int.__sub__») F.slot_int_sub F.entry_int_sub (F.args_int_sub_2 _ _) (sub_dec a t) hx h
theorem try_mul (hx : s.heap.get? x = some (instObj C dx)) (h : P none s) : wpAny (model prog w) A (tryMethod (.int a t) (PySem.dunder Operator.Mult.info.2) (.ref x)) P E s :=
  try_dec (name := PySem.dunder Operator.Mult.info.2) (id := "int.__mul__") (B := Builtin.«int.__mul__») F.slot_int_mul F.entry_int_mul (F.args_int_mul_2 _ _) (mul_dec a t) hx h
end
end PySem.GyDec

namespace L2
open PySem PySem.Spec PyProof.Rows
/-! ### an own class's operators -/
/-- what the text says of the class at C for the operator op: its method at g, its reflected one at r -/
structure GyOp (K : PySem.W.Frag) (C : Addr) (op : Operator) (g r : Addr) : Prop where
  sf : PySem.W.selfFirst K C = true
  d : PySem.W.findIn K (.ref C) (PySem.dunder op.info.2) = some (some (.ref g))
  df : PySem.W.isFn K (.ref g) = true
  rm : PySem.W.findIn K (.ref C) (dunderR op.info.2) = some (some (.ref r))
  rf : PySem.W.isFn K (.ref r) = true
  i1 : ∃ fo, PySem.W.findIn K (.type "int") (PySem.dunder op.info.2) = some fo
  i2 : ∃ ro, PySem.W.findIn K (.type "int") (dunderR op.info.2) = some ro
  up : PySem.W.subIn K (.type "int") (.ref C) = some false
  dn : PySem.W.subIn K (.ref C) (.type "int") = some false
theorem gy_back {P : Value → Shared → Prop} {z : V} {v : Value} {s' : Shared} (r : RelV z v) (h : P v s') : PySem.W.CmpBack P v s' := by
  cases z with
  | non => cases (show v = Value.none from r); exact h
  | bl b => cases (show v = Value.bool b from r); exact h
  | int i => obtain ⟨t, e⟩ := (show ∃ t, v = Value.int i t from r); cases e; exact h
  | str x => obtain ⟨t, e⟩ := (show ∃ t, v = Value.str x t from r); cases e; exact h
  | byt b => obtain ⟨t, e⟩ := (show ∃ t, v = Value.bytes b t from r); cases e; exact h
  | flt b => obtain ⟨t, e⟩ := (show ∃ t, v = Value.float b t from r); cases e; exact h
  | ref a => cases (show v = Value.ref a from r); exact h
  | ty n => cases (show v = Value.type n from r); exact h
section
variable {X : Cx} {CX : CXT} {pins : List (Addr × Obj)} {σ : St} {H : Hp} {s : Shared} {a C dx g r : Addr} {fs : List (Str × V)} {k : Nat} {fd : FuncData} {ps : List Str} {sp : Sp} {E : XK}
theorem ins_at (I : Inv X pins σ H s) (h : H a = some (.ins C dx fs)) : ∃ od, PySem.W.InstAt s.heap a (PySem.W.instObj C dx) C (some od) ∧ s.heap.get? a = some (PySem.W.instObj C dx) := by
  obtain ⟨mA, O, _⟩ := ins_get I.hok h
  obtain ⟨od, J, _⟩ := O.look
  exact ⟨od, J, J.at_⟩
/-- x op y, x an instance, y an instance or an int -/
def rGyD (C : Addr) (sp : Sp) (E : XK) : R2 := fun x y H Q => ∃ a dx fs, x = .ref a ∧ H a = some (.ins C dx fs) ∧ ((∃ b dy gs, y = .ref b ∧ H b = some (.ins C dy gs)) ∨ ∃ i, y = .int i) ∧ sp [x, y] H Q E
theorem op_gyD {op : Operator} (D : GyOp X.K C op g r) (F : FnOk X.prog X.w X.K X.mg X.base CX k g fd ps sp) (hr : Room k X.A) (hb : Binds X.K fd ps []) (hx : Passes CX X E) : OpR X (binaryOp op) (rGyD C sp E) := by
  intro pins s σ H x y v u Q I rx ry h
  obtain ⟨a, dx, fs, rfl, ha, hy, q⟩ := h
  obtain rfl : v = Value.ref a := rx
  obtain ⟨od, J, _⟩ := ins_at I ha
  obtain ⟨m, hF⟩ := I.fr
  have q' : sp ([.ref a, y] ++ []) H Q E := q
  have go : wpAny (model X.prog X.w) X.A (call (.ref g) [.ref a, u]) (PySem.W.CmpBack (EP X pins σ Q)) X.xe s :=
    wpAny_mono (run_fn (us := [.ref a, u]) (vs := [.ref a, y]) F hr hb .nil hx I (.cons rfl (.cons ry .nil)) q') (fun w s' z => by
      obtain ⟨z', H', I', rz, qz⟩ := z
      exact gy_back rz ⟨z', H', I', rz, qz⟩) fun _ _ e => e
  rcases hy with ⟨b, dy, gs, rfl, hb'⟩ | ⟨i, rfl⟩
  · obtain rfl : u = Value.ref b := ry
    obtain ⟨od', J', _⟩ := ins_at I hb'
    exact PySem.W.binop_K hF I.ok.mod.kin J J'.type D.sf D.d D.df go
  · obtain ⟨t, rfl⟩ := ry
    obtain ⟨fo, h1⟩ := D.i1
    obtain ⟨ro, h2⟩ := D.i2
    exact PySem.W.gy_binT hF I.ok.mod.kin J (PySem.W.Looks.of_pure rfl) D.sf D.d D.df D.rm (.inr ⟨r, rfl⟩) h1 h2 D.up go
/-- n op y, n an int, y an instance: its reflected method -/
def rGyR (C : Addr) (sp : Sp) (E : XK) : R2 := fun x y H Q => ∃ i b dy gs, x = .int i ∧ y = .ref b ∧ H b = some (.ins C dy gs) ∧ sp [y, x] H Q E
theorem op_gyR {op : Operator} (D : GyOp X.K C op g r) (dec : ∀ (A : Around) (E : Value → Shared → Prop) (s : Shared) (C dx x : Addr) (a : Int) (t : Tok) (P : Option Value → Shared → Prop), s.heap.get? x = some (PySem.W.instObj C dx) → P none s →
      wpAny (model X.prog X.w) A (tryMethod (.int a t) (PySem.dunder op.info.2) (.ref x)) P E s)
    (F : FnOk X.prog X.w X.K X.mg X.base CX k r fd ps sp) (hr : Room k X.A) (hb : Binds X.K fd ps []) (hx : Passes CX X E) : OpR X (binaryOp op) (rGyR C sp E) := by
  intro pins s σ H x y v u Q I rx ry h
  obtain ⟨i, b, dy, gs, rfl, rfl, hb', q⟩ := h
  obtain ⟨t, rfl⟩ := rx
  obtain rfl : u = Value.ref b := ry
  obtain ⟨od, J, hg⟩ := ins_at I hb'
  obtain ⟨m, hF⟩ := I.fr
  obtain ⟨fo, h1⟩ := D.i1
  obtain ⟨ro, h2⟩ := D.i2
  have q' : sp ([.ref b, .int i] ++ []) H Q E := q
  have go : wpAny (model X.prog X.w) X.A (call (.ref r) [.ref b, .int i t]) (PySem.W.CmpBack (EP X pins σ Q)) X.xe s :=
    wpAny_mono (run_fn (us := [.ref b, .int i t]) (vs := [.ref b, .int i]) F hr hb .nil hx I (.cons rfl (.cons ⟨t, rfl⟩ .nil)) q') (fun w s' z => by
      obtain ⟨z', H', I', rz, qz⟩ := z
      exact gy_back rz ⟨z', H', I', rz, qz⟩) fun _ _ e => e
  exact PySem.W.gy_binR hF I.ok.mod.kin J (PySem.W.Looks.of_pure rfl) D.sf D.d (.inr ⟨g, rfl⟩) D.rm D.rf h1 h2 D.dn (fun _ P hp => dec X.A _ s C dy b i t P hg hp) go
theorem op_gyRadd (D : GyOp X.K C .Add g r) (F : FnOk X.prog X.w X.K X.mg X.base CX k r fd ps sp) (hr : Room k X.A) (hb : Binds X.K fd ps []) (hx : Passes CX X E) : OpR X (binaryOp .Add) (rGyR C sp E) :=
  op_gyR D (fun A E s C dx x a t P hx hp => GyDec.try_add hx hp) F hr hb hx
theorem op_gyRsub (D : GyOp X.K C .Sub g r) (F : FnOk X.prog X.w X.K X.mg X.base CX k r fd ps sp) (hr : Room k X.A) (hb : Binds X.K fd ps []) (hx : Passes CX X E) : OpR X (binaryOp .Sub) (rGyR C sp E) :=
  op_gyR D (fun A E s C dx x a t P hx hp => GyDec.try_sub hx hp) F hr hb hx
theorem op_gyRmul (D : GyOp X.K C .Mult g r) (F : FnOk X.prog X.w X.K X.mg X.base CX k r fd ps sp) (hr : Room k X.A) (hb : Binds X.K fd ps []) (hx : Passes CX X E) : OpR X (binaryOp .Mult) (rGyR C sp E) :=
  op_gyR D (fun A E s C dx x a t P hx hp => GyDec.try_mul hx hp) F hr hb hx
/-- -x of an instance -/
def rGyN (C : Addr) (sp : Sp) (E : XK) : V → Hp → VK → Prop := fun x H Q => ∃ a dx fs, x = .ref a ∧ H a = some (.ins C dx fs) ∧ sp [x] H Q E
theorem un_gyN (hs : PySem.W.findIn X.K (.ref C) "__neg__" = some (some (.ref g))) (hf : PySem.W.isFn X.K (.ref g) = true) (F : FnOk X.prog X.w X.K X.mg X.base CX k g fd ps sp) (hr : Room k X.A) (hb : Binds X.K fd ps []) (hx : Passes CX X E) :
    UnR X (unaryOp .USub) (rGyN C sp E) := by
  intro pins s σ H x v Q I rx h
  obtain ⟨a, dx, fs, rfl, ha, q⟩ := h
  obtain rfl : v = Value.ref a := rx
  obtain ⟨od, J, _⟩ := ins_at I ha
  obtain ⟨m, hF⟩ := I.fr
  have q' : sp ([.ref a] ++ []) H Q E := q
  exact PySem.W.ksp_neg hF I.ok.mod.kin J hs hf (run_fn (us := [.ref a]) (vs := [.ref a]) F hr hb .nil hx I (.cons rfl .nil) q')
end
/-! ### great numbers -/
section
variable {X : Cx}
def GDiv (_ j : Int) : Prop := j ≠ 0 ∧ j.natAbs.log2 < 9000
theorem op_mulG : OpR X (binaryOp .Mult) (rI IntMulOk fun i j => .int (i * j)) := opI fun _ _ _ _ _ _ _ hc q => mul_int q hc
theorem op_fdivG : OpR X (binaryOp .FloorDiv) (rI GDiv fun i j => .int (i.fdiv j)) := opI fun _ _ _ _ _ _ _ hc q => floordiv_int hc.1 q (.inl (PyProof.noPylong_of_log2 hc.2))
end
theorem gDiv_lt {i j : Int} {b : Nat} (h : j ≠ 0) (hb : j.natAbs < 2 ^ b) (h0 : 0 < b) (h9 : b ≤ 9000) : GDiv i j := ⟨h, Nat.lt_of_lt_of_le (PySem.Flt.log2_lt_of h0 hb) h9⟩
end L2

namespace PySem
open PySem.W PyProof.Rows AutoSeq1
theorem gy_enum_new (l : Addr) (items : Array Value) (o : Obj) (n : Nat) (ho : o.cls = .type "tuple" ∧ o.data = .seq items n) :
    Meets (Builtin.«enumerate.__new__» ⟨[.type "enumerate", .ref l], []⟩) (fun _ R s => s.heap.get? l = some o ∧
      R (.ok (.ret (.ref (s.heap.push { cls := .type "tuple_iterator", data := .fields #[.ref l, .int 0 0] }).objs.size)))
        { s with heap := (s.heap.push { cls := .type "tuple_iterator", data := .fields #[.ref l, .int 0 0] }).push { cls := .type "enumerate", data := .fields #[.none, .bool false, .ref s.heap.objs.size, rawInt 0, .none, .none] } }) :=
  .of_wp fun prog w A R s h => by
    obtain ⟨hp, g, d, tk, os⟩ := s
    obtain ⟨hl, h⟩ := h
    have hsub := sub_enumerate
    have hL : Heap.IsTuple (Shared.heap ⟨hp, g, d, tk, os⟩) l items := ⟨_, hl, ho.1, n, ho.2⟩
    wp_walk using wpAny_loadPart' hl
    refine wpAny_stack_any fun st => wpAny_pure ?_
    split
    · rename_i c _ _ _ _ _
      cases (c == Value.type "enumerate")
      · wp_walk using wpAny_loadPart' hl, wpAny_pyIter_tuple hL
        exact ⟨_, rfl, h⟩
      · wp_walk using wpAny_loadPart' hl, wpAny_pyIter_tuple hL
        exact ⟨_, rfl, h⟩
    · wp_walk using wpAny_loadPart' hl, wpAny_pyIter_tuple hL
      exact ⟨_, rfl, h⟩
section
variable {prog : Program} {w : World} {A : Around} {E : Value → Shared → Prop} {s : Shared}
theorem gy_call_enum {l : Addr} {items : Array Value} {Q : Value → Shared → Prop} (hL : IsTup s.heap l items)
    (h : ∀ h', IsEnum h' (s.heap.objs.size + 1) s.heap.objs.size 0 .none → h'.IsTupleIter s.heap.objs.size l 0 → h'.objs.size = s.heap.objs.size + 2 →
      (∀ b o, s.heap.get? b = some o → h'.get? b = some o) → Q (.ref (s.heap.objs.size + 1)) { s with heap := h' }) :
    wpAny (model prog w) A (call (.type "enumerate") [.ref l]) Q E s := by
  obtain ⟨o, hl, hc, n, hd⟩ := hL
  refine callType_new F.called_enumerate (by decide) (F.typeCall_enumerate_1 _) (F.newCall_enumerate_1 _) (fun obj => F.args_object_init_2 obj _) F.entry_enumerate_new
    (gy_enum_new l items o n ⟨hc, hd⟩) ⟨hl, ?_⟩
  have hz : (s.heap.push { cls := .type "tuple_iterator", data := .fields #[.ref l, .int 0 0] }).objs.size = s.heap.objs.size + 1 := Heap.size_push ..
  show _ ∧ _
  rw [hz]
  have he : IsEnum ((s.heap.push { cls := .type "tuple_iterator", data := .fields #[.ref l, .int 0 0] }).push
      { cls := .type "enumerate", data := .fields #[.none, .bool false, .ref s.heap.objs.size, rawInt 0, .none, .none] }) (s.heap.objs.size + 1) s.heap.objs.size 0 .none := by
    have := Heap.get?_push_size (s.heap.push { cls := .type "tuple_iterator", data := .fields #[.ref l, .int 0 0] })
      (o := { cls := .type "enumerate", data := .fields #[.none, .bool false, .ref s.heap.objs.size, rawInt 0, .none, .none] }) rfl
    rw [hz] at this; exact this
  refine ⟨⟨_, he, rfl⟩, h _ he ⟨_, Heap.get?_push_of_some _ (Heap.get?_push_size _ rfl), rfl, rfl⟩ (by rw [Heap.size_push, hz]) fun b o x => Heap.get?_push_of_some _ (Heap.get?_push_of_some _ x)⟩
end
end PySem
namespace L2
open PySem PySem.Spec PyProof.Rows
/-! ### enumerate of a tuple -/
def IteT (K : PySem.W.Frag) (a : Addr) : It :=
  ⟨fun i H => ∃ (xs : List V) (x : V), SqT K H a xs ∧ xs[i]? = some x, fun i H v H' => ∃ T x, v = .ref T ∧ H T = none ∧ H' = upd H T (.tup [.int (i : Nat), x]) ∧ ∀ xs, SqT K H a xs → xs[i]? = some x, fun i H => ∃ xs : List V, SqT K H a xs ∧ xs.length ≤ i⟩
theorem turn_enumT {P : Program} {w : World} {K : PySem.W.Frag} {elts : List Expr} {kk : Nat} {tpos : Pos} (a e it : Addr) :
    Turn P w K (.Tuple elts kk tpos) (IteT K a) [e, it] e (fun i h => (∃ old, IsEnum h e it ((i : Nat) : Int) old) ∧ h.IsTupleIter it a i ∧ e ≠ it) where
  mem := by simp
  obj := fun i h st b hb => by
    obtain ⟨⟨old, he⟩, ⟨o, ho, hc, hd⟩, _⟩ := st
    have e' : b = e ∨ b = it := by simpa using hb
    rcases e' with z | z
    · rw [z]; exact ⟨_, he, fun v q => nomatch q⟩
    · rw [z]; exact ⟨o, ho, fun v q => by rw [hd] at q; cases q⟩
  keep := fun i h h' st k => let ⟨⟨old, he⟩, hi, hne⟩ := st; ⟨⟨old, k e (by simp) _ he⟩, hi.at fun o q => k it (by simp) o q, hne⟩
  item := by
    intro X hP hw hK hc i pins s σ H E I hf st hg
    subst hP hw hK
    obtain ⟨⟨old, he⟩, hit, hne⟩ := st
    obtain ⟨xs, x, hq, hx⟩ := hg
    obtain ⟨its, rv, p, hz⟩ := I.tuple hq
    obtain ⟨u, hu, ru⟩ := rv.get hx
    have hel : e < s.heap.objs.size := Heap.lt_size he
    have hil : it < s.heap.objs.size := by obtain ⟨_, q, _⟩ := hit; exact Heap.lt_size q
    have pa : s.heap.IsTuple a its.toArray := p
    have ha_it : a ≠ it := by
      intro z
      obtain ⟨o, h1, h2, _⟩ := p
      obtain ⟨o', h3, h4, _⟩ := hit
      rw [z, h3] at h1
      cases h1
      rw [h2] at h4
      exact absurd (Value.type.inj h4) (by decide)
    have ha_e : a ≠ e := by
      intro z
      obtain ⟨o, h1, h2, _⟩ := p
      have h3 := he
      unfold IsEnum at h3
      rw [z, h3] at h1
      cases h1
      exact absurd (Value.type.inj h2) (by decide)
    have hhd : X.A.in1.handled = none := I.ok.hd hc
    have hlt : i < its.toArray.size := by
      have := (List.getElem?_eq_some_iff.mp hu).1
      simpa using this
    refine wpAny_pyNext_enum_itemD (Draws.tuple (prog := X.prog) (w := X.w) hhd it a ha_it its.toArray) he ⟨hit, pa⟩ hlt hne (by simp [hne, ha_e.symm]) fun y h' tk hy ho hst hT hsz hk => ?_
    have hyu : y = u := by
      have h1 : its.toArray[i]? = some y := hy
      have h2 : its[i]? = some y := by simpa using h1
      rw [hu] at h2
      exact (Option.some.inj h2).symm
    subst hyu
    refine ⟨_, rfl, wpAny_letOwnedTupleGo_enum (s := { s with heap := h', toks := tk + 1 }) ho fun h'' he' sb => ?_⟩
    have hT2 : h''.get? s.heap.objs.size = some { cls := .type "tuple", data := .seq #[.int i tk, y] } := (sb.2 _ (Nat.ne_of_gt hel)).trans hT
    have new : ObjOk X.prog X.w (upd H s.heap.objs.size (.tup [.int (i : Nat), x])) h'' s.heap.objs.size (.tup [.int (i : Nat), x]) :=
      ⟨by show 2 ≤ sizeLine; decide, [.int i tk, y], .cons ⟨_, rfl⟩ (.cons ru .nil), ⟨_, hT2, rfl, _, rfl⟩⟩
    have I1 : Inv X pins σ (upd H s.heap.objs.size (.tup [.int (i : Nat), x])) { s with heap := h'', toks := tk + 1 } :=
      I.turnedNew (ch := [e, it]) (fun b ob hb q => (sb.2 b (fun z => hb (by simp [z]))).trans (hk b ob (fun z => hb (by simp [z])) (fun z => hb (by simp [z])) q)) hf (Nat.le_refl _) new
    refine ⟨.ref s.heap.objs.size, _, I1, rfl, ⟨_, x, rfl, I.hok.fresh (Nat.le_refl _), rfl, fun ys hy => by rw [I.tuple_inj hy hq]; exact hx⟩, ⟨⟨y, ?_⟩, hst.1.at fun o q => (sb.2 it (Ne.symm hne)).trans q, hne⟩, fun b hb => ?_⟩
    · have e1 : ((i + 1 : Nat) : Int) = (i : Int) + 1 := by omega
      rw [e1]; exact he'
    · have hb' : b < s.heap.objs.size := by
        have e' : b = e ∨ b = it := by simpa using hb
        rcases e' with z | z
        · rw [z]; exact hel
        · rw [z]; exact hil
      rw [upd_ne (Nat.ne_of_lt hb')]
      exact (hf b hb).1
  done := by
    intro X hP hw hK hc i pins s σ H E I hf st hg
    subst hP hw hK
    obtain ⟨⟨old, he⟩, hit, hne⟩ := st
    obtain ⟨xs, hq, hx⟩ := hg
    obtain ⟨its, rv, p, hz⟩ := I.tuple hq
    obtain ⟨f0, f1, f2, f3, f4, f5⟩ := hf it (by simp)
    have hl := rv.length
    have pa : s.heap.IsTuple a its.toArray := p
    have ha_it : a ≠ it := by
      intro z
      obtain ⟨o, h1, h2, _⟩ := p
      obtain ⟨o', h3, h4, _⟩ := hit
      rw [z, h3] at h1
      cases h1
      rw [h2] at h4
      exact absurd (Value.type.inj h4) (by decide)
    have hhd : X.A.in1.handled = none := I.ok.hd hc
    have hT : s.TypeIs (.ref e) "enumerate" := ⟨_, he, rfl⟩
    unfold pyNext
    refine wpAny_bind (wpAny_attempt (wpAny_callSpecial?_slot (name := Str.ofString "__next__") hT F.slot_enumerate_next
      (wpAny_call_entry F.slot_enumerate_next hT F.entry_enumerate_next ?_ (F.args_enumerate_next_1 _))))
    show wpAny _ _ (field (.ref e) 2 >>= _) _ _ _
    refine wpAny_bind (wpAny_field he rfl (x := .ref it) rfl ?_)
    refine wpAny_bind (wpAny_nextOf_tuple_end hhd hit pa (by simp; omega) fun h' x he' hx' => ?_)
    obtain ⟨o, ho, hcl⟩ := hx'
    refine wpAny_bind (wpAny_isInstance (T := "StopIteration") (b := true) ⟨o, ho, hcl⟩ isSubtype_stop ?_)
    exact wpAny_pure ⟨rfl, I.turned (t' := s.toks) (fun b o hb q => he' b o hb q) f0 f1 f3 f4 f5⟩
  self := fun A i s Q E st h => let ⟨⟨_, he⟩, _⟩ := st; wpAny_pyIter_enum he h
def iEnumT (K : PySem.W.Frag) (ta : TA) : TI := fun σ H R => ta σ H fun vs H1 => ∃ a xs, vs = [.ref a] ∧ SqT K H1 a xs ∧ R (IteT K a) H1
theorem pi_enumT {X : Cx} {e : Expr} {ta : TA} {p pos tpos : Pos} {elts : List Expr} {kk : Nat} (hg : Gl X "enumerate") (hm : X.mg "enumerate" = none) (ha : PA X [e] ta) (hs : starEach [e] X.env = [(false, eval e X.env)] := by rfl) :
    PI X (.Tuple elts kk tpos) (.Call (.Name "enumerate" p) [e] [] pos) (iEnumT X.K ta) := by
  refine ⟨fun pins s σ H R I h => ?_⟩
  refine Call_ (ld_blt I hg hm boot_enumerate (PyProof.Rows.callWith_type1 (thn (ha.run pos pins s σ H _ I h) fun us s1 ⟨vs, H1, I1, r1, q1⟩ => ?_) hs rfl))
  obtain ⟨a, xs, ex, hq, q⟩ := q1
  subst ex
  cases r1 with
  | cons r rr =>
    cases rr
    cases r
    obtain ⟨its, rv, p', hz⟩ := I1.tuple hq
    refine gy_call_enum p' fun h' he hit hsz hk => wpAny_pyIter_enum he ?_
    have I2 : Inv X pins σ H1 { s1 with heap := h' } := I1.kept (t' := s1.toks) hk
    refine ⟨s1.heap.objs.size + 1, [s1.heap.objs.size + 1, s1.heap.objs.size], _, _, H1, rfl, I2, turn_enumT a (s1.heap.objs.size + 1) s1.heap.objs.size, ⟨⟨.none, he⟩, hit, Nat.succ_ne_self _⟩, fun b hb => ?_, q⟩
    have e' : b = s1.heap.objs.size + 1 ∨ b = s1.heap.objs.size := by simpa using hb
    have hle : s1.heap.objs.size ≤ b := by
      rcases e' with z | z
      · rw [z]; exact Nat.le_add_right _ _
      · rw [z]; exact Nat.le_refl _
    exact I1.fpOk hle (I1.hok.fresh hle)
/-- over enumerate of a tuple that stands still: the pair stands in a new tuple at T -/
theorem for_enumT {K : PySem.W.Frag} {a : Addr} {xs : List V} {g : TG} {tb : TS} {D : Ends} {σ : St} {H : Hp} (Pv : Nat → St → Hp → Prop) (h0 : Pv 0 σ H) (hl : ∀ i σ H, i ≤ xs.length → Pv i σ H → SqT K H a xs)
    (hs : ∀ i x σ H T, xs[i]? = some x → Pv i σ H → H T = none → g (.ref T) σ (upd H T (.tup [.int (i : Nat), x])) fun σ2 H2 => tb { D with nx := Pv (i + 1), ct := Pv (i + 1), bk := D.nx } σ2 H2) (hd : ∀ σ H, Pv xs.length σ H → D.nx σ H) :
    ∃ W : Nat → Nat → St → Hp → Prop, (∃ m, W 0 m σ H) ∧ ∀ i m σ H, W i m σ H →
      ((IteT K a).stop i H ∧ D.nx σ H) ∨ ((IteT K a).go i H ∧ ∃ N : St → Hp → Prop, (∀ σ' H', N σ' H' → ∃ m', m' < m ∧ W (i + 1) m' σ' H') ∧ ∀ x H', (IteT K a).yld i H x H' → g x σ H' fun σ2 H2 => tb { D with nx := N, ct := N, bk := D.nx } σ2 H2) := by
  refine ⟨fun i m σ H => m = xs.length - i ∧ i ≤ xs.length ∧ Pv i σ H, ⟨xs.length, by simp, Nat.zero_le _, h0⟩, ?_⟩
  rintro i m σ H ⟨rfl, hi, p⟩
  have q := hl i σ H hi p
  by_cases hlt : i < xs.length
  · refine .inr ⟨⟨xs, xs[i], q, by simp [hlt]⟩, Pv (i + 1), fun σ' H' p' => ⟨xs.length - (i + 1), by omega, rfl, hlt, p'⟩, fun x H' y => ?_⟩
    obtain ⟨T, z, rfl, hT, e, y⟩ := y
    subst e
    exact hs i z σ H T (y xs q) p hT
  · have e : i = xs.length := by omega
    subst e
    exact .inl ⟨⟨xs, q, Nat.le_refl _⟩, hd σ H p⟩
end L2

set_option Elab.async false
set_option linter.all false
set_option maxRecDepth 100000
set_option maxHeartbeats 4000000
/-! Lay1: heaps from one moment to the next, reduced fractions, sizes. -/
namespace Gy
open PySem L2

/-! ### heaps -/
/-- a new object, its heap by a name of its own -/
theorem alloc {H : Hp} {o : HO} {Q : V → Hp → Prop} (h : ∀ p H1, H p = none → Same H H1 → H1 p = some o → Q (.ref p) H1) : ∀ p, H p = none → Q (.ref p) (upd H p o) := fun p hp =>
  h p _ hp (fun b u e => by rw [upd_ne (ne_of_none e hp)]; exact e) upd_same
/-- all but the object at st is as it was -/
def Keep (st : Addr) (H H' : Hp) : Prop := ∀ b o, H b = some o → b ≠ st → H' b = some o
theorem Keep.refl (st : Addr) (H : Hp) : Keep st H H := fun _ _ e _ => e
theorem Keep.trans {st : Addr} {H H1 H2 : Hp} (a : Keep st H H1) (b : Keep st H1 H2) : Keep st H H2 := fun c o e n => b c o (a c o e n) n
theorem Same.keep {st : Addr} {H H1 : Hp} (a : Same H H1) : Keep st H H1 := fun c o e _ => a c o e
theorem keep_upd {st : Addr} {H : Hp} {o : HO} : Keep st H (upd H st o) := fun b u e n => by rw [upd_ne n]; exact e
theorem same_upd {p : Addr} {H : Hp} {o : HO} (h : H p = none) : Same H (upd H p o) := fun b u e => by rw [upd_ne (ne_of_none e h)]; exact e
/-- an instance that is being made -/
theorem made {H : Hp} {x dx C : Addr} (nx : H x = none) (nd : H dx = none) (ne : dx ≠ x) : Same H (upd (upd H dx (.own x)) x (.ins C dx [])) := fun b o e => by
  rw [upd_ne (ne_of_none e nx), upd_ne (ne_of_none e nd)]
  exact e

/-- the state of the draws at st: its cells are the ints ns -/
def StAt (H : Hp) (st c : Addr) (ns : List Int) : Prop := (∃ nth left mx, H st = some (.lst [.ref c, .int nth, .int left, .bl mx])) ∧ H c = some (.lst (ns.map V.int)) ∧ c ≠ st
theorem StAt.same {H H' : Hp} {st c : Addr} {ns : List Int} (h : StAt H st c ns) (e : Same H H') : StAt H' st c ns :=
  ⟨let ⟨a, b, d, z⟩ := h.1; ⟨a, b, d, e _ _ z⟩, e _ _ h.2.1, h.2.2⟩
theorem StAt.upd {H : Hp} {st c : Addr} {ns : List Int} {nth left : Int} {mx : Bool} (h : StAt H st c ns) : StAt (upd H st (.lst [.ref c, .int nth, .int left, .bl mx])) st c ns :=
  ⟨⟨nth, left, mx, upd_same⟩, by rw [upd_ne h.2.2]; exact h.2.1, h.2.2⟩

/-! ### sizes -/
theorem mulOk {a b : Int} {m n : Nat} (ha : a.natAbs < 2 ^ m) (hb : b.natAbs < 2 ^ n) (h0 : 0 < m) (h1 : 0 < n) (h : m + n ≤ 1000000) : IntMulOk a b := (wide_mul ha hb h0 h1 h).ok
theorem mulOk_l {a b : Int} (h : -(2 ^ 64) < a ∧ a < 2 ^ 64) : IntMulOk a b := (show CMul a b from .inl h).ok
theorem mulOk_r {a b : Int} (h : -(2 ^ 64) < b ∧ b < 2 ^ 64) : IntMulOk a b := (show CMul a b from .inr h).ok
theorem sz_mul {a b : Int} {m n : Nat} (ha : a.natAbs < 2 ^ m) (hb : b.natAbs < 2 ^ n) : (a * b).natAbs < 2 ^ (m + n) := wide_lt ha hb
theorem sz_add {a b : Int} {m : Nat} (ha : a.natAbs < 2 ^ m) (hb : b.natAbs < 2 ^ m) : (a + b).natAbs < 2 ^ (m + 1) := by
  rw [Nat.pow_succ]
  omega
theorem sz_sub {a b : Int} {m : Nat} (ha : a.natAbs < 2 ^ m) (hb : b.natAbs < 2 ^ m) : (a - b).natAbs < 2 ^ (m + 1) := by
  rw [Nat.pow_succ]
  omega
theorem sz_neg {a : Int} {m : Nat} (ha : a.natAbs < 2 ^ m) : (-a).natAbs < 2 ^ m := by
  rw [Int.natAbs_neg]
  exact ha
theorem sz_up {a : Int} {m n : Nat} (ha : a.natAbs < 2 ^ m) (h : m ≤ n) : a.natAbs < 2 ^ n := Nat.lt_of_lt_of_le ha (Nat.pow_le_pow_right (by decide) h)

/-! ### fractions -/
/-- what reduces a over b: their greatest common part, with b's sign -/
def red_w (a b : Int) : Int := if b < 0 then -(Int.gcd a b : Int) else (Int.gcd a b : Int)
def red (a b : Int) : Int × Int := (a.fdiv (red_w a b), b.fdiv (red_w a b))
/-- a reduced pair -/
def Rd (p : Int × Int) : Prop := 0 < p.2 ∧ Int.gcd p.1 p.2 = 1
theorem red_w_ne {a b : Int} (h : b ≠ 0) : red_w a b ≠ 0 := by
  have g : (Int.gcd a b) ≠ 0 := by
    intro z
    exact h (Int.gcd_eq_zero_iff.mp z).2
  unfold red_w
  split <;> omega
theorem gcd_le {a b : Int} (h : b ≠ 0) : Int.gcd a b ≤ b.natAbs := Nat.le_of_dvd (Int.natAbs_pos.mpr h) (by rw [Int.gcd]; exact Nat.gcd_dvd_right _ _)
theorem red_w_abs {a b : Int} : (red_w a b).natAbs = Int.gcd a b := by
  unfold red_w
  split <;> simp
theorem red_w_dvd {a b : Int} : red_w a b ∣ a ∧ red_w a b ∣ b := by
  have h1 : (Int.gcd a b : Int) ∣ a := Int.gcd_dvd_left ..
  have h2 : (Int.gcd a b : Int) ∣ b := Int.gcd_dvd_right ..
  unfold red_w
  split
  · exact ⟨Int.neg_dvd.mpr h1, Int.neg_dvd.mpr h2⟩
  · exact ⟨h1, h2⟩
/-- the two parts, times what was taken out -/
theorem red_mul {a b : Int} : (red a b).1 * red_w a b = a ∧ (red a b).2 * red_w a b = b := by
  obtain ⟨h1, h2⟩ := red_w_dvd (a := a) (b := b)
  unfold red
  exact ⟨Int.fdiv_mul_cancel h1, Int.fdiv_mul_cancel h2⟩
theorem red_rd {a b : Int} (h : b ≠ 0) : Rd (red a b) := by
  obtain ⟨e1, e2⟩ := red_mul (a := a) (b := b)
  have w0 := red_w_ne (a := a) h
  have wa := red_w_abs (a := a) (b := b)
  generalize hp : (red a b).1 = p at e1
  generalize hq : (red a b).2 = q at e2
  generalize hw : red_w a b = w at *
  refine ⟨?_, ?_⟩
  · rw [hq]
    -- b and w have the same sign
    have hs : (b < 0 → w < 0) ∧ (0 < b → 0 < w) := by
      unfold red_w at hw
      have g : 0 < Int.gcd a b := Nat.pos_of_ne_zero fun z => h (Int.gcd_eq_zero_iff.mp z).2
      constructor
      · intro hb
        rw [if_pos hb] at hw
        omega
      · intro hb
        rw [if_neg (by omega)] at hw
        omega
    rcases Int.lt_or_gt_of_ne h with hb | hb
    · have hw0 := hs.1 hb
      rcases Int.lt_trichotomy q 0 with z | z | z
      · have := Int.mul_pos_of_neg_of_neg z hw0
        omega
      · rw [z] at e2
        omega
      · exact z
    · have hw0 := hs.2 hb
      rcases Int.lt_trichotomy q 0 with z | z | z
      · have := Int.mul_neg_of_neg_of_pos z hw0
        omega
      · rw [z] at e2
        omega
      · exact z
  · rw [hp, hq]
    have e : Int.gcd a b = Int.gcd p q * w.natAbs := by rw [← e1, ← e2, Int.gcd_mul_right]
    rw [wa] at e
    have g : 0 < Int.gcd a b := Nat.pos_of_ne_zero fun z => h (Int.gcd_eq_zero_iff.mp z).2
    have : 1 * Int.gcd a b = Int.gcd p q * Int.gcd a b := by rw [Nat.one_mul]; exact e
    exact (Nat.eq_of_mul_eq_mul_right g this).symm
/-- a reduced pair made larger by a factor is what it was -/
theorem red_scale {p : Int × Int} (h : Rd p) {s : Int} (hs : s ≠ 0) : red (p.1 * s) (p.2 * s) = p := by
  obtain ⟨h1, h2⟩ := h
  have eg : Int.gcd (p.1 * s) (p.2 * s) = s.natAbs := by rw [Int.gcd_mul_right, h2, Nat.one_mul]
  have ew : red_w (p.1 * s) (p.2 * s) = s := by
    unfold red_w
    rw [eg]
    rcases Int.lt_or_gt_of_ne hs with z | z
    · rw [if_pos (Int.mul_neg_of_pos_of_neg h1 z)]
      omega
    · rw [if_neg (by have := Int.mul_pos h1 z; omega)]
      omega
  unfold red
  rw [ew]
  exact Prod.ext (Int.mul_fdiv_cancel _ hs) (Int.mul_fdiv_cancel _ hs)
theorem red_self {p : Int × Int} (h : Rd p) : red p.1 p.2 = p := by
  have := red_scale h (s := 1) (by decide)
  rwa [Int.mul_one, Int.mul_one] at this
theorem rd_int (n : Int) : Rd (n, 1) := ⟨(by decide : (0 : Int) < 1), Int.gcd_one_right ..⟩
theorem red_neg {p : Int × Int} (h : Rd p) : red (-p.1) p.2 = (-p.1, p.2) := red_self (p := (-p.1, p.2)) ⟨h.1, by show Int.gcd (-p.1) p.2 = 1; rw [Int.neg_gcd]; exact h.2⟩
theorem rd_neg {p : Int × Int} (h : Rd p) : Rd (-p.1, p.2) := ⟨h.1, by show Int.gcd (-p.1) p.2 = 1; rw [Int.neg_gcd]; exact h.2⟩
/-- parts are no larger than what they come from -/
theorem red_sz {a b : Int} {m n : Nat} (h : b ≠ 0) (ha : a.natAbs < 2 ^ m) (hb : b.natAbs < 2 ^ n) : (red a b).1.natAbs < 2 ^ m ∧ (red a b).2.natAbs < 2 ^ n := by
  obtain ⟨e1, e2⟩ := red_mul (a := a) (b := b)
  have w1 : 1 ≤ (red_w a b).natAbs := Int.natAbs_pos.mpr (red_w_ne h)
  have f : ∀ x w : Int, 1 ≤ w.natAbs → x.natAbs ≤ (x * w).natAbs := fun x w hw => by
    rw [Int.natAbs_mul]
    exact Nat.le_mul_of_pos_right _ hw
  exact ⟨Nat.lt_of_le_of_lt (Nat.le_trans (f _ _ w1) (Nat.le_of_eq (congrArg Int.natAbs e1))) ha, Nat.lt_of_le_of_lt (Nat.le_trans (f _ _ w1) (Nat.le_of_eq (congrArg Int.natAbs e2))) hb⟩
theorem red_w_sz {a b : Int} {n : Nat} (h : b ≠ 0) (hb : b.natAbs < 2 ^ n) : (red_w a b).natAbs < 2 ^ n := by
  rw [red_w_abs]
  exact Nat.lt_of_le_of_lt (gcd_le h) hb
/-- a step of Euclid -/
theorem gcd_step (a b : Int) : Int.gcd b (a.fmod b) = Int.gcd a b := by
  have e : a = b * a.fdiv b + a.fmod b := (Int.mul_fdiv_add_fmod a b).symm
  rw [Int.gcd_comm a b]
  conv => rhs; rw [e]
  rw [Int.add_comm, Int.gcd_add_mul_left_right]
theorem fmod_lt {a b : Int} (h : b ≠ 0) : (a.fmod b).natAbs < b.natAbs := by
  rcases Int.lt_or_gt_of_ne h with z | z
  · have e := Int.neg_fmod_neg a b
    have h1 := Int.fmod_nonneg_of_pos (-a) (b := -b) (by omega)
    have h2 := Int.fmod_lt_of_pos (-a) (b := -b) (by omega)
    omega
  · have h1 := Int.fmod_nonneg_of_pos a z
    have h2 := Int.fmod_lt_of_pos a z
    omega
end Gy
namespace Gy
open PySem L2
/-- a while whose test only reads: W by a measure that is not 0 where the body runs -/
theorem while_any {c : TT} {tb : TS} {D : Ends} {σ : L2.St} {H : Hp} (W : Nat → L2.St → Hp → Prop) (h0 : ∃ m, W m σ H)
    (test : ∀ m σ H (Q : Bool → Hp → Prop), W m σ H → (m ≠ 0 → Q true H) → Q false H → c σ H Q)
    (turn : ∀ m σ H, m ≠ 0 → W m σ H → tb { D with nx := fun σ' H' => ∃ m', m' < m ∧ W m' σ' H', ct := fun σ' H' => ∃ m', m' < m ∧ W m' σ' H', bk := D.nx } σ H) (done : ∀ m σ H, W m σ H → D.nx σ H) : tWhile c tb D σ H :=
  ⟨W, h0, fun m σ H w => test m σ H _ w (fun hm => iteT ⟨fun σ' H' => ∃ m', m' < m ∧ W m' σ' H', fun _ _ z => z, turn m σ H hm w⟩) (iteF (done m σ H w))⟩
end Gy
namespace Gy
open PySem L2
theorem walk_zipT {K : PySem.W.Frag} {a b : Addr} {xs ys : List V} {n : Nat} (hn : n = min xs.length ys.length) : Walk (RZ.ItzT K a b) n (fun H => SqT K H a xs ∧ SqT K H b ys) (YPair (fun i => xs[i]?) (fun i => ys[i]?)) := by
  refine ⟨fun i H hi hq => ?_, fun H hq => ?_, fun i H x H' _ hq y => ?_⟩
  · have h1 : i < xs.length := by omega
    have h2 : i < ys.length := by omega
    exact ⟨xs, ys, xs[i], ys[i], hq.1, hq.2, List.getElem?_eq_getElem h1, List.getElem?_eq_getElem h2⟩
  · refine ⟨xs, ys, hq.1, hq.2, ?_⟩
    omega
  · obtain ⟨T, u, v, rfl, nT, e, h1, h2⟩ := y
    exact ⟨T, u, v, rfl, nT, e, h1 xs hq.1, h2 ys hq.2⟩
end Gy
namespace Gy
open PySem L2
/-- a comprehension without a test keeps each item -/
theorem yes_of {σ : L2.St} {H : Hp} {A B : Hp → Prop} (h : A H) : tYes σ H fun b H3 => if b = true then A H3 else B H3 := by
  show (if true = true then A H else B H)
  exact iteT h
end Gy
namespace L2
open PySem PySem.Spec PyProof.Rows
/-- a def with defaults that lets nothing out -/
theorem FunD.ok0 {P : Program} {w : World} {K : PySem.W.Frag} {mg : Str → Option Value} {base : Heap} {x qual : Str} {params : Arguments} {body : List Stmt} {scope : Scope} {dvs : List V} {kws : List (Str × V)} {f : Addr} {fd : FuncData} {N ps : List Str} {k : Nat} {sp : Sp}
    (F : FunD K x qual params body scope dvs kws f fd) (S : FnScope N ps scope) (len : ∀ vs H Q E, sp vs H Q E → vs.length = ps.length)
    (hbody : ∀ (cdv : Value) (A : Around) (outer : List Env) (s : Shared) (H : Hp) (vs : List V) (Q : VK) (E : XK), Room k (A.deeper (envOfC qual scope s.heap.objs.size f cdv)) → sp vs H Q E →
      ∃ t, PSs (cxOf CX0 P w K mg base N qual scope f cdv A outer s H E).nox body t ∧ t { nx := fun _ H' => Q .non H', rt := Q } (start N vs) H) : FnOk P w K mg base CX0 (k + 1) f fd ps sp :=
  F.ok S len fun cdv A outer s H vs Q E hr h => let ⟨t, a, b⟩ := hbody cdv A outer s H vs Q E hr h; ⟨t, a.nox, b⟩
end L2
namespace Gy
open PySem L2
/-! ### isinstance against an own class, of an own class -/
theorem kit_self {K : PySem.W.Frag} {C : Addr} : PySem.W.kitOne K (.ref C) (.ref C) = some true := by
  unfold PySem.W.kitOne
  rw [if_pos (beq_iff_eq.mpr rfl)]
theorem kit_to {K : PySem.W.Frag} {C : Addr} {t : String} {b : Bool} (ic : PySem.W.isClsIn K C = true) (ty : PySem.W.typeIn K (.ref C) = some (.type "type")) (up : PySem.W.subIn K (.type t) (.ref C) = some b) : PySem.W.kitOne K (.type t) (.ref C) = some b := by
  unfold PySem.W.kitOne
  rw [if_neg (fun q => by cases beq_iff_eq.mp q)]
  unfold PySem.W.kitCls
  have h : ((PySem.W.clsIn K C).isSome && PySem.W.typeIn K (.ref C) == some (.type "type")) = true := by
    rw [ty, show (PySem.W.clsIn K C).isSome = true from ic]
    rfl
  show (if ((PySem.W.clsIn K C).isSome && PySem.W.typeIn K (.ref C) == some (.type "type")) = true then PySem.W.subIn K (.type t) (.ref C) else none) = some b
  rw [if_pos h]
  exact up
theorem kit_of_to {K : PySem.W.Frag} {C D : Addr} {b : Bool} (ne : C ≠ D) (ic : PySem.W.isClsIn K D = true) (ty : PySem.W.typeIn K (.ref D) = some (.type "type")) (up : PySem.W.subIn K (.ref C) (.ref D) = some b) : PySem.W.kitOne K (.ref C) (.ref D) = some b := by
  unfold PySem.W.kitOne
  rw [if_neg (fun q => ne (Value.ref.inj (beq_iff_eq.mp q)))]
  have h : ((PySem.W.clsIn K D).isSome && PySem.W.typeIn K (.ref D) == some (.type "type")) = true := by
    rw [ty, show (PySem.W.clsIn K D).isSome = true from ic]
    rfl
  show (if ((PySem.W.clsIn K D).isSome && PySem.W.typeIn K (.ref D) == some (.type "type")) = true then PySem.W.subIn K (.ref C) (.ref D) else none) = some b
  rw [if_pos h]
  exact up
theorem kit_ob {K : PySem.W.Frag} {C : Addr} {t : String} {b : Bool} (m : PySem.W.kitMeta t = true) (dn : PySem.W.subIn K (.ref C) (.type t) = some b) : PySem.W.kitOne K (.ref C) (.type t) = some b := by
  unfold PySem.W.kitOne
  rw [if_neg (fun q => by cases beq_iff_eq.mp q)]
  show (if PySem.W.kitMeta t = true then PySem.W.subIn K (.ref C) (.type t) else none) = some b
  rw [if_pos m]
  exact dn
end Gy

set_option Elab.async false
set_option linter.all false
set_option maxRecDepth 100000
set_option maxHeartbeats 4000000
/-! Lay2: comparisons of an own class: by its methods, turned about, and != by ==. -/
namespace PySem.GyDec
open PySem PySem.W AutoSeq1
section
variable {C dx x : Addr} (a : Int) (t : Tok)
abbrev GyAt (x C dx : Addr) : Shared → Prop := fun s => s.heap.get? x = some (instObj C dx)
theorem lt_dec : GivesAt (GyAt x C dx) (Builtin.«int.__lt__» ⟨[.int a t, .ref x], []⟩) (.val .notImplemented) := fun prog w A R s hP h => by
  obtain ⟨hp, g, d, tk, os⟩ := s
  have hl : Heap.get? (Shared.heap ⟨hp, g, d, tk, os⟩) x = some (instObj C dx) := hP
  wp_walk using wpAny_loadPart' hl
  exact h
theorem le_dec : GivesAt (GyAt x C dx) (Builtin.«int.__le__» ⟨[.int a t, .ref x], []⟩) (.val .notImplemented) := fun prog w A R s hP h => by
  obtain ⟨hp, g, d, tk, os⟩ := s
  have hl : Heap.get? (Shared.heap ⟨hp, g, d, tk, os⟩) x = some (instObj C dx) := hP
  wp_walk using wpAny_loadPart' hl
  exact h
theorem gt_dec : GivesAt (GyAt x C dx) (Builtin.«int.__gt__» ⟨[.int a t, .ref x], []⟩) (.val .notImplemented) := fun prog w A R s hP h => by
  obtain ⟨hp, g, d, tk, os⟩ := s
  have hl : Heap.get? (Shared.heap ⟨hp, g, d, tk, os⟩) x = some (instObj C dx) := hP
  wp_walk using wpAny_loadPart' hl
  exact h
theorem ge_dec : GivesAt (GyAt x C dx) (Builtin.«int.__ge__» ⟨[.int a t, .ref x], []⟩) (.val .notImplemented) := fun prog w A R s hP h => by
  obtain ⟨hp, g, d, tk, os⟩ := s
  have hl : Heap.get? (Shared.heap ⟨hp, g, d, tk, os⟩) x = some (instObj C dx) := hP
  wp_walk using wpAny_loadPart' hl
  exact h
theorem eq_dec : GivesAt (GyAt x C dx) (Builtin.«int.__eq__» ⟨[.int a t, .ref x], []⟩) (.val .notImplemented) := fun prog w A R s hP h => by
  obtain ⟨hp, g, d, tk, os⟩ := s
  have hl : Heap.get? (Shared.heap ⟨hp, g, d, tk, os⟩) x = some (instObj C dx) := hP
  wp_walk using wpAny_loadPart' hl
  exact h
theorem beq_dec (b : Bool) : GivesAt (GyAt x C dx) (Builtin.«int.__eq__» ⟨[.bool b, .ref x], []⟩) (.val .notImplemented) := fun prog w A R s hP h => by
  obtain ⟨hp, g, d, tk, os⟩ := s
  have hl : Heap.get? (Shared.heap ⟨hp, g, d, tk, os⟩) x = some (instObj C dx) := hP
  wp_walk using wpAny_loadPart' hl
  exact h
theorem seq_dec (y : Str) : GivesAt (GyAt x C dx) (Builtin.«str.__eq__» ⟨[.str y t, .ref x], []⟩) (.val .notImplemented) := fun prog w A R s hP h => by
  obtain ⟨hp, g, d, tk, os⟩ := s
  have hl : Heap.get? (Shared.heap ⟨hp, g, d, tk, os⟩) x = some (instObj C dx) := hP
  wp_walk using wpAny_loadPart' hl
  exact h
theorem neq_dec : GivesAt (GyAt x C dx) (Builtin.«NoneType.__eq__» ⟨[.none, .ref x], []⟩) (.val .notImplemented) := fun prog w A R s hP h => by
  obtain ⟨hp, g, d, tk, os⟩ := s
  have hl : Heap.get? (Shared.heap ⟨hp, g, d, tk, os⟩) x = some (instObj C dx) := hP
  wp_walk using wpAny_loadPart' hl
  exact h
end
section
variable {prog : Program} {w : World} {A : Around} {E : Value → Shared → Prop} {s : Shared} {C dx x : Addr} {a : Int} {t : Tok} {P : Option Value → Shared → Prop}
theorem tryC_dec {b : Value} {T : String} {name : Str} {id : String} {B : Builtin} (hT : s.TypeIs b T) (slot : Slot T name id) (entry : entryFor table id = some B) (args : argsOk id ⟨[b, .ref x], []⟩)
    (g : GivesAt (GyAt x C dx) (B ⟨[b, .ref x], []⟩) (.val .notImplemented)) (hx : s.heap.get? x = some (instObj C dx)) (h : P none s) : wpAny (model prog w) A (tryCompare b name (.ref x)) P E s :=
  wpAny_tryCompare_declines hT slot (call_givesAt slot hT entry args g hx ⟨rfl, h⟩)
theorem tryC_lt (hx : s.heap.get? x = some (instObj C dx)) (h : P none s) : wpAny (model prog w) A (tryCompare (.int a t) (cmpInfo .Lt).2.1 (.ref x)) P E s :=
  tryC_dec (T := "int") (name := (cmpInfo .Lt).2.1) (id := "int.__lt__") (B := Builtin.«int.__lt__») (typeIs_int s a t) F.slot_int_lt F.entry_int_lt (F.args_int_lt_2 _ _) (lt_dec a t) hx h
theorem tryC_le (hx : s.heap.get? x = some (instObj C dx)) (h : P none s) : wpAny (model prog w) A (tryCompare (.int a t) (cmpInfo .LtE).2.1 (.ref x)) P E s :=
  tryC_dec (T := "int") (name := (cmpInfo .LtE).2.1) (id := "int.__le__") (B := Builtin.«int.__le__») (typeIs_int s a t) F.slot_int_le F.entry_int_le (F.args_int_le_2 _ _) (le_dec a t) hx h
theorem tryC_gt (hx : s.heap.get? x = some (instObj C dx)) (h : P none s) : wpAny (model prog w) A (tryCompare (.int a t) (cmpInfo .Gt).2.1 (.ref x)) P E s :=
  tryC_dec (T := "int") (name := (cmpInfo .Gt).2.1) (id := "int.__gt__") (B := Builtin.«int.__gt__») (typeIs_int s a t) F.slot_int_gt F.entry_int_gt (F.args_int_gt_2 _ _) (gt_dec a t) hx h
theorem tryC_ge (hx : s.heap.get? x = some (instObj C dx)) (h : P none s) : wpAny (model prog w) A (tryCompare (.int a t) (cmpInfo .GtE).2.1 (.ref x)) P E s :=
  tryC_dec (T := "int") (name := (cmpInfo .GtE).2.1) (id := "int.__ge__") (B := Builtin.«int.__ge__») (typeIs_int s a t) F.slot_int_ge F.entry_int_ge (F.args_int_ge_2 _ _) (ge_dec a t) hx h
theorem tryC_eq (hx : s.heap.get? x = some (instObj C dx)) (h : P none s) : wpAny (model prog w) A (tryCompare (.int a t) (cmpInfo .Eq).2.1 (.ref x)) P E s :=
  tryC_dec (T := "int") (name := (cmpInfo .Eq).2.1) (id := "int.__eq__") (B := Builtin.«int.__eq__») (typeIs_int s a t) F.slot_int_eq F.entry_int_eq (F.args_int_eq_2 _ _) (eq_dec a t) hx h
theorem tryC_beq {b : Bool} (hx : s.heap.get? x = some (instObj C dx)) (h : P none s) : wpAny (model prog w) A (tryCompare (.bool b) (cmpInfo .Eq).2.1 (.ref x)) P E s :=
  tryC_dec (T := "bool") (name := (cmpInfo .Eq).2.1) (id := "int.__eq__") (B := Builtin.«int.__eq__») rfl F.slot_bool_eq F.entry_int_eq (F.args_int_eq_2 _ _) (beq_dec b) hx h
theorem tryC_seq {y : Str} (hx : s.heap.get? x = some (instObj C dx)) (h : P none s) : wpAny (model prog w) A (tryCompare (.str y t) (cmpInfo .Eq).2.1 (.ref x)) P E s :=
  tryC_dec (T := "str") (name := (cmpInfo .Eq).2.1) (id := "str.__eq__") (B := Builtin.«str.__eq__») (typeIs_str s y t) F.slot_str_eq F.entry_str_eq (F.args_str_eq_2 _ _) (seq_dec t y) hx h
theorem tryC_neq (hx : s.heap.get? x = some (instObj C dx)) (h : P none s) : wpAny (model prog w) A (tryCompare .none (cmpInfo .Eq).2.1 (.ref x)) P E s :=
  tryC_dec (T := "NoneType") (name := (cmpInfo .Eq).2.1) (id := "NoneType.__eq__") (B := Builtin.«NoneType.__eq__») rfl F.slot_NoneType_eq F.entry_NoneType_eq (F.args_NoneType_eq_2 _ _) neq_dec hx h
end
end PySem.GyDec
namespace PySem.W
open PySem PySem.Calls PyProof.Rows
section
variable {prog : Program} {w : World} {A : Around} {E : Value → Shared → Prop} {s : Shared} {K : Frag} {x C L f : Addr} {h₀ : Heap} {m : Str → Option Value} {ox : Obj} {od : Option Obj} {T : String}
/-- b op x, b of a built-in type whose own comparison declines: x's turned one is asked -/
theorem gy_cmpR {op : CmpOp} {b : Value} {Q : Value → Shared → Prop} (hu : A.units < cLine) (F : Fr h₀ L s.heap m) (X₀ : K.In h₀) (I : InstAt s.heap x ox C od) (hb : s.TypeIs b T) (hL : Looks (model prog w) s.heap (typeOf b) (.type T))
    (hs : findIn K (.ref C) (cmpInfo op).2.2 = some (some (.ref f))) (hf : isFn K (.ref f) = true) (dn : subIn K (.ref C) (.type T) = some false)
    (hdec : ∀ P : Option Value → Shared → Prop, P none s → wpAny (model prog w) A (tryCompare b (cmpInfo op).2.1 (.ref x)) P E s)
    (h : wpAny (model prog w) A (call (.ref f) [.ref x, b]) (CmpBack Q) E s) : wpAny (model prog w) A (richCompare op b (.ref x)) Q E s := by
  have X := X₀.keeps F.keep
  have one : wpAny (model prog w) A (tryCompare (.ref x) (cmpInfo op).2.2 b) (fun r s' => ∃ v, r = some v ∧ Q v s') E s := by
    unfold tryCompare
    refine wpAny_bind (ifBound_K X I hs hf (wpAny_mono h (fun v s' hv => ?_) fun _ _ e => e))
    cases v <;> first | exact hv.elim | exact wpAny_pure ⟨_, rfl, hv⟩
  have hne : (Value.type T != Value.ref C) = true := by
    rw [bne, Bool.not_eq_true', Bool.eq_false_iff]
    intro q
    cases beq_iff_eq.mp q
  unfold richCompare
  simp only [hb.oneThing_none]
  refine wpAny_holding (wpAny_bind (wpAny_cRoomFor hu ?_))
  refine wpAny_bind (hL.here (wpAny_bind (I.type.here ?_)))
  rw [if_pos hne]
  refine wpAny_bind ((looks_subIn X dn).here ?_)
  simp only [Bool.false_eq_true, if_false]
  refine wpAny_bind (hdec _ ?_)
  simp only [Bool.not_false, if_true]
  refine wpAny_bind (wpAny_mono one (fun r s' z => ?_) fun _ _ e => e)
  obtain ⟨v, rfl, hq⟩ := z
  exact wpAny_pure hq
end
end PySem.W
namespace PySem.W
open PySem PySem.Calls PyProof.Rows
section
variable {prog : Program} {w : World} {A : Around} {E : Value → Shared → Prop} {s : Shared} {K : Frag} {x C L f : Addr} {h₀ : Heap} {m : Str → Option Value} {ox : Obj} {od : Option Obj} {t : Value}
theorem gy_neObj {b : Value} {Q : Fin → Shared → Prop} (hu : A.units < cLine) (X : K.In s.heap) (I : InstAt s.heap x ox C od) (heq : findIn K (.ref C) "__eq__" = some (some (.ref f))) (hf : isFn K (.ref f) = true)
    (h : wpAny (model prog w) A (call (.ref f) [.ref x, b]) (fun v s' => ∃ c, v = .bool c ∧ Q (.done (.ret (.bool (!c)))) s') E s) : wpAny (model prog w) A (Builtin.«object.__ne__» ⟨[.ref x, b], []⟩) Q E s := by
  obtain ⟨hp, g, d, tk, os⟩ := s
  unfold Builtin.«object.__ne__»
  repeat (first
    | with_reducible refine wpAny_cRoomFor hu ?_
    | (refine wpAny_bind (m := callSpecialIfBound? (.ref x) (Str.ofString "__eq__") [b])
        (ifBound_K X I heq hf (wpAny_mono h (fun r s' hr => by
          obtain ⟨c, rfl, hq⟩ := hr
          repeat (first | exact hq | exact wpAny_pure hq | exact wpAny_truthy_bool hq | (refine wpAny_bind (m := truthy (.bool _)) (wpAny_truthy_bool ?_)) | wp_step)) fun _ _ e => e)))
    | wp_step)
theorem gy_ne {b : Value} {Q : Value → Shared → Prop} (hu : A.units + 1 < cLine) (FF : Fr h₀ L s.heap m) (X₀ : K.In h₀) (I : InstAt s.heap x ox C od) (hL : Looks (model prog w) s.heap (typeOf b) t) (hn : notFirst K C t = true)
    (hne : findIn K (.ref C) "__ne__" = some (some (.builtin "object.__ne__"))) (heq : findIn K (.ref C) "__eq__" = some (some (.ref f))) (hf : isFn K (.ref f) = true) (ho : mroIn K C (.type "object") = some true)
    (h : wpAny (model prog w) A.in1 (call (.ref f) [.ref x, b]) (fun v s' => ∃ c, v = .bool c ∧ Q (.bool (!c)) s') E s) : wpAny (model prog w) A (richCompare .NotEq (.ref x) b) Q E s := by
  have X := X₀.keeps FF.keep
  have hi : Looks (model prog w) s.heap (isInstance (.ref x) (.type "object")) true := I.type.andThen (looks_mroIn X ho)
  have cal : wpAny (model prog w) A (call (.builtin "object.__ne__") [.ref x, b]) (fun v s' => ∃ c, v = .bool c ∧ Q (.bool c) s') E s := by
    refine wpAny_call (codeAny_call_builtin F.slot_object_ne.plain F.entry_object_ne (check_slot (owner := "object") (n := "__ne__") (by decide +kernel) (by decide +kernel) hi (F.args_object_ne_2 _ _) ?_))
    refine gy_neObj (A := A.in1) (by have := hu; exact this) X I heq hf (wpAny_mono h (fun v s' hv => ?_) fun _ _ e => e)
    obtain ⟨c, rfl, hq⟩ := hv
    exact ⟨c, rfl, _, rfl, hq⟩
  have one : wpAny (model prog w) A (tryCompare (.ref x) (cmpInfo .NotEq).2.1 b) (fun r s' => ∃ v, r = some v ∧ Q v s') E s := by
    unfold tryCompare
    refine wpAny_bind (m := callSpecialIfBound? (.ref x) (Str.ofString "__ne__") [b]) ?_
    simp only [callSpecialIfBound?, bindSpecialIfBound?]
    refine wpAny_holding (wpAny_bind (wpAny_bind (wpAny_bind (I.type.here ((looks_findIn X hne).here ?_)))))
    refine wpAny_bind (wpAny_askSetting (wpAny_ite ?_))
    have fin : wpAny (model prog w) A (call (.builtin "object.__ne__") ([.ref x] ++ [b]) >>= fun v => pure (some v)) (fun a s' => wpAny (model prog w) A (match a with | some .notImplemented | none => pure none | some v => pure (some v)) (fun r s' => ∃ v, r = some v ∧ Q v s') E s') E s := by
      refine wpAny_bind (wpAny_mono cal (fun v s' hv => ?_) fun _ _ e => e)
      obtain ⟨c, rfl, hq⟩ := hv
      exact wpAny_pure (wpAny_pure ⟨_, rfl, hq⟩)
    simp only [F.slot_object_ne.bind]
    split
    · exact wpAny_bind (wpAny_pure (wpAny_pure (by exact fin)))
    · exact wpAny_tryCatch (wpAny_bind (wpAny_pure (wpAny_pure (by exact fin))))
  unfold richCompare
  simp only [oneThing_ref]
  refine wpAny_holding (wpAny_bind (wpAny_cRoomFor (Nat.lt_of_succ_lt hu) ?_))
  refine wpAny_bind (I.type.here (wpAny_bind (hL.here ?_)))
  split
  · rename_i q
    have e : subIn K t (.ref C) = some false := by
      rcases Bool.or_eq_true_iff.mp hn with e | e
      · rw [beq_iff_eq.mp e] at q; simp at q
      · exact beq_iff_eq.mp e
    refine wpAny_bind ((looks_subIn X e).here ?_)
    simp only [Bool.false_eq_true, if_false]
    refine wpAny_bind (wpAny_mono one (fun r s' z => ?_) fun _ _ e => e)
    obtain ⟨v, rfl, hq⟩ := z
    exact wpAny_pure hq
  · refine wpAny_bind (wpAny_pure ?_)
    simp only [Bool.false_eq_true, if_false]
    refine wpAny_bind (wpAny_mono one (fun r s' z => ?_) fun _ _ e => e)
    obtain ⟨v, rfl, hq⟩ := z
    exact wpAny_pure hq
end
end PySem.W
namespace PySem.GyDec
open PySem PySem.W AutoSeq1
section
variable {C dx x l : Addr} {n : Nat} {vs : List Value} {ol : Obj}
abbrev GyTwo (T : String) (l : Addr) (ol : Obj) (x C dx : Addr) : Shared → Prop := fun s => s.heap.get? l = some ol ∧ s.heap.get? x = some (instObj C dx) ∧ ∀ prog w, Looks (model prog w) s.heap (isSubtype (.ref C) (.type T)) false
theorem list_dec (dd : Option Addr) (a : Array Value) (nn : Nat) (sl : Array (Option Value)) : GivesAt (GyTwo "list" l ⟨.type "list", dd, .seq a nn, sl⟩ x C dx) (Builtin.«list.__eq__» ⟨[.ref l, .ref x], []⟩) (.val .notImplemented) := fun prog w A R s hP h => by
  obtain ⟨hp, g, d, tk, os⟩ := s
  obtain ⟨h1, h2, h3⟩ := hP
  have hl : Heap.get? (Shared.heap ⟨hp, g, d, tk, os⟩) l = some ⟨.type "list", dd, .seq a nn, sl⟩ := h1
  have hx : Heap.get? (Shared.heap ⟨hp, g, d, tk, os⟩) x = some (instObj C dx) := h2
  wp_walk using wpAny_loadPart' hl, wpAny_loadPart' hx
  refine (h3 prog w).here ?_
  simp only [Bool.not_false, if_true]
  wp_walk using wpAny_loadPart' hl
  exact h
theorem tup_dec {ol : Obj} (hc : ol.cls = .type "tuple") : GivesAt (GyTwo "tuple" l ol x C dx) (Builtin.«tuple.__eq__» ⟨[.ref l, .ref x], []⟩) (.val .notImplemented) := fun prog w A R s hP h => by
  obtain ⟨hp, g, d, tk, os⟩ := s
  obtain ⟨h1, h2, h3⟩ := hP
  obtain ⟨c, od, pl, sl⟩ := ol
  obtain rfl : c = .type "tuple" := hc
  have hl : Heap.get? (Shared.heap ⟨hp, g, d, tk, os⟩) l = some ⟨.type "tuple", od, pl, sl⟩ := h1
  have hx : Heap.get? (Shared.heap ⟨hp, g, d, tk, os⟩) x = some (instObj C dx) := h2
  wp_walk using wpAny_loadPart' hl, wpAny_loadPart' hx
  refine (h3 prog w).here ?_
  simp only [Bool.not_false, if_true]
  wp_walk using wpAny_loadPart' hl
  exact h
theorem dict_dec {ol : Obj} (hc : ol.cls = .type "dict") : GivesAt (GyTwo "dict" l ol x C dx) (Builtin.«dict.__eq__» ⟨[.ref l, .ref x], []⟩) (.val .notImplemented) := fun prog w A R s hP h => by
  obtain ⟨hp, g, d, tk, os⟩ := s
  obtain ⟨h1, h2, h3⟩ := hP
  obtain ⟨c, od, pl, sl⟩ := ol
  obtain rfl : c = .type "dict" := hc
  have hl : Heap.get? (Shared.heap ⟨hp, g, d, tk, os⟩) l = some ⟨.type "dict", od, pl, sl⟩ := h1
  have hx : Heap.get? (Shared.heap ⟨hp, g, d, tk, os⟩) x = some (instObj C dx) := h2
  wp_walk using wpAny_loadPart' hl, wpAny_loadPart' hx
  refine (h3 prog w).here ?_
  simp only [Bool.not_false, if_true]
  wp_walk using wpAny_loadPart' hl
  exact h
end
end PySem.GyDec
namespace L2
open PySem PySem.Spec PyProof.Rows
section
variable {X : Cx} {CX : CXT} {pins : List (Addr × Obj)} {σ : St} {H : Hp} {s : Shared} {a C dx g r : Addr} {fs : List (Str × V)} {k : Nat} {fd : FuncData} {ps : List Str} {sp : Sp} {E : XK}
theorem run_fn1 {Q : VK} {us : List Value} {vs : List V} (F : FnOk X.prog X.w X.K X.mg X.base CX k g fd ps sp) (hr : Room (k + 1) X.A) (hb : Binds X.K fd ps []) (hx : Passes CX X E)
    (I : Inv X pins σ H s) (r : Vals vs us) (h : sp vs H Q E) : wpAny (model X.prog X.w) X.A.in1 (call (.ref g) us) (EP X pins σ Q) X.xe s := by
  have hl : us.length = ps.length := by rw [← r.length]; exact F.len _ _ _ _ h
  have b := hb s us I.kIn (by rw [List.append_nil]; exact hl)
  rw [List.append_nil] at b
  refine wpAny_call (codeAny_mono (F.run X.A.in1 X.stack s H ⟨us, []⟩ us vs Q E hr.in1 I.env0.in1 b r h) fun r s' hq => ?_)
  cases r with
  | error e => exact hx pins σ H s e s' I hq
  | ok fl =>
    cases fl with
    | ret u => exact I.after hq
    | next => exact False.elim hq
    | brk => exact False.elim hq
    | cont => exact False.elim hq
/-- x op y, x an instance: its own method; y's type is no subclass -/
def rGyC (K : PySem.W.Frag) (C : Addr) (sp : Sp) (E : XK) : R2 := fun x y H Q => ∃ a dx fs t, x = .ref a ∧ H a = some (.ins C dx fs) ∧ TyX K H y t ∧ PySem.W.notFirst K C t = true ∧ sp [x, y] H Q E
theorem op_gyC {op : CmpOp} (ho : ∀ a b, compareOp op a b = richCompare op a b) (hs : PySem.W.findIn X.K (.ref C) (cmpInfo op).2.1 = some (some (.ref g))) (hf : PySem.W.isFn X.K (.ref g) = true)
    (F : FnOk X.prog X.w X.K X.mg X.base CX k g fd ps sp) (hr : Room k X.A) (hb : Binds X.K fd ps []) (hx : Passes CX X E) : OpR X (compareOp op) (rGyC X.K C sp E) := by
  intro pins s σ H x y v u Q I rx ry h
  obtain ⟨a, dx, fs, t, rfl, ha, ty, hn, q⟩ := h
  obtain rfl : v = Value.ref a := rx
  obtain ⟨od, J, _⟩ := ins_at I ha
  obtain ⟨m, hF⟩ := I.fr
  obtain ⟨P, kx, hP, _⟩ := kit_of I ry ty
  have q' : sp ([.ref a, y] ++ []) H Q E := q
  have go : wpAny (model X.prog X.w) X.A (call (.ref g) [.ref a, u]) (PySem.W.CmpBack (EP X pins σ Q)) X.xe s :=
    wpAny_mono (run_fn (us := [.ref a, u]) (vs := [.ref a, y]) F hr hb .nil hx I (.cons rfl (.cons ry .nil)) q') (fun w s' z => by
      obtain ⟨z', H', I', rz, qz⟩ := z
      exact gy_back rz ⟨z', H', I', rz, qz⟩) fun _ _ e => e
  rw [ho]
  exact PySem.W.cmp_K hr.units0 hF I.ok.mod.kin J (kx.ty _ _ I.kIn hP) hn hs hf go
/-- x != y by object's, through the own == -/
def rGyNe (K : PySem.W.Frag) (C : Addr) (sp : Sp) (E : XK) : R2 := fun x y H Q => ∃ a dx fs t, x = .ref a ∧ H a = some (.ins C dx fs) ∧ TyX K H y t ∧ PySem.W.notFirst K C t = true ∧ sp [x, y] H (fun v H' => ∃ c, v = .bl c ∧ Q (.bl (!c)) H') E
theorem op_gyNe (hne : PySem.W.findIn X.K (.ref C) "__ne__" = some (some (.builtin "object.__ne__"))) (hs : PySem.W.findIn X.K (.ref C) "__eq__" = some (some (.ref g))) (hf : PySem.W.isFn X.K (.ref g) = true) (hm : PySem.W.mroIn X.K C (.type "object") = some true)
    (F : FnOk X.prog X.w X.K X.mg X.base CX k g fd ps sp) (hr : Room (k + 1) X.A) (hb : Binds X.K fd ps []) (hx : Passes CX X E) : OpR X (compareOp .NotEq) (rGyNe X.K C sp E) := by
  intro pins s σ H x y v u Q I rx ry h
  obtain ⟨a, dx, fs, t, rfl, ha, ty, hn, q⟩ := h
  obtain rfl : v = Value.ref a := rx
  obtain ⟨od, J, _⟩ := ins_at I ha
  obtain ⟨m, hF⟩ := I.fr
  obtain ⟨P, kx, hP, _⟩ := kit_of I ry ty
  exact PySem.W.gy_ne (f := g) hr.in1.units0 hF I.ok.mod.kin J (kx.ty _ _ I.kIn hP) hn hne hs hf hm
    (wpAny_mono (run_fn1 (us := [.ref a, u]) (vs := [.ref a, y]) F hr hb hx I (.cons rfl (.cons ry .nil)) q) (fun w s' z => by
      obtain ⟨z', H', I', rz, c, rfl, qz⟩ := z
      cases (show w = Value.bool c from rz)
      exact ⟨c, rfl, .bl (!c), H', I', rfl, qz⟩) fun _ _ e => e)
/-- x's own comparison with an instance of C declines -/
def Turns (X : Cx) (C : Addr) (op : CmpOp) (x : V) (H : Hp) : Prop := ∀ (pins : List (Addr × Obj)) (σ : St) (s : Shared) (v : Value) (b dy : Addr) (gs : List (Str × V)), Inv X pins σ H s → RelV x v → H b = some (.ins C dy gs) →
  ∃ T, s.TypeIs v T ∧ PySem.W.Looks (model X.prog X.w) s.heap (typeOf v) (.type T) ∧ PySem.W.subIn X.K (.ref C) (.type T) = some false ∧
    ∀ (A : Around) (E : Value → Shared → Prop) (P : Option Value → Shared → Prop), P none s → wpAny (model X.prog X.w) A (tryCompare v (cmpInfo op).2.1 (.ref b)) P E s
/-- x op y, y an instance, x's own comparison declines: y's turned one -/
def rGyCR (X : Cx) (op : CmpOp) (C : Addr) (sp : Sp) (E : XK) : R2 := fun x y H Q => ∃ b dy gs, y = .ref b ∧ H b = some (.ins C dy gs) ∧ Turns X C op x H ∧ sp [y, x] H Q E
theorem op_gyCR {op : CmpOp} (ho : ∀ a b, compareOp op a b = richCompare op a b) (hs : PySem.W.findIn X.K (.ref C) (cmpInfo op).2.2 = some (some (.ref g))) (hf : PySem.W.isFn X.K (.ref g) = true)
    (F : FnOk X.prog X.w X.K X.mg X.base CX k g fd ps sp) (hr : Room k X.A) (hb : Binds X.K fd ps []) (hx : Passes CX X E) : OpR X (compareOp op) (rGyCR X op C sp E) := by
  intro pins s σ H x y v u Q I rx ry h
  obtain ⟨b, dy, gs, rfl, hb', tn, q⟩ := h
  obtain rfl : u = Value.ref b := ry
  obtain ⟨od, J, _⟩ := ins_at I hb'
  obtain ⟨m, hF⟩ := I.fr
  obtain ⟨T, t1, t2, t3, t4⟩ := tn pins σ s v b dy gs I rx hb'
  have q' : sp ([.ref b, x] ++ []) H Q E := q
  have go : wpAny (model X.prog X.w) X.A (call (.ref g) [.ref b, v]) (PySem.W.CmpBack (EP X pins σ Q)) X.xe s :=
    wpAny_mono (run_fn (us := [.ref b, v]) (vs := [.ref b, x]) F hr hb .nil hx I (.cons rfl (.cons rx .nil)) q') (fun w s' z => by
      obtain ⟨z', H', I', rz, qz⟩ := z
      exact gy_back rz ⟨z', H', I', rz, qz⟩) fun _ _ e => e
  rw [ho]
  exact PySem.W.gy_cmpR hr.units0 hF I.ok.mod.kin J t1 t2 hs hf t3 (fun P hp => t4 _ _ P hp) go
theorem turns_lt {i : Int} (hs : PySem.W.subIn X.K (.ref C) (.type "int") = some false) : Turns X C .Lt (.int i) H := fun pins σ s v b dy gs I rv hb => by
  obtain ⟨t, rfl⟩ := rv
  exact ⟨"int", typeIs_int s i t, PySem.W.Looks.of_pure rfl, hs, fun A E P hp => GyDec.tryC_lt (ins_at I hb).choose_spec.2 hp⟩
theorem turns_le {i : Int} (hs : PySem.W.subIn X.K (.ref C) (.type "int") = some false) : Turns X C .LtE (.int i) H := fun pins σ s v b dy gs I rv hb => by
  obtain ⟨t, rfl⟩ := rv
  exact ⟨"int", typeIs_int s i t, PySem.W.Looks.of_pure rfl, hs, fun A E P hp => GyDec.tryC_le (ins_at I hb).choose_spec.2 hp⟩
theorem turns_gt {i : Int} (hs : PySem.W.subIn X.K (.ref C) (.type "int") = some false) : Turns X C .Gt (.int i) H := fun pins σ s v b dy gs I rv hb => by
  obtain ⟨t, rfl⟩ := rv
  exact ⟨"int", typeIs_int s i t, PySem.W.Looks.of_pure rfl, hs, fun A E P hp => GyDec.tryC_gt (ins_at I hb).choose_spec.2 hp⟩
theorem turns_ge {i : Int} (hs : PySem.W.subIn X.K (.ref C) (.type "int") = some false) : Turns X C .GtE (.int i) H := fun pins σ s v b dy gs I rv hb => by
  obtain ⟨t, rfl⟩ := rv
  exact ⟨"int", typeIs_int s i t, PySem.W.Looks.of_pure rfl, hs, fun A E P hp => GyDec.tryC_ge (ins_at I hb).choose_spec.2 hp⟩
theorem turns_eq {i : Int} (hs : PySem.W.subIn X.K (.ref C) (.type "int") = some false) : Turns X C .Eq (.int i) H := fun pins σ s v b dy gs I rv hb => by
  obtain ⟨t, rfl⟩ := rv
  exact ⟨"int", typeIs_int s i t, PySem.W.Looks.of_pure rfl, hs, fun A E P hp => GyDec.tryC_eq (ins_at I hb).choose_spec.2 hp⟩
theorem turns_beq {c : Bool} (hs : PySem.W.subIn X.K (.ref C) (.type "bool") = some false) : Turns X C .Eq (.bl c) H := fun pins σ s v b dy gs I rv hb => by
  cases (show v = Value.bool c from rv)
  exact ⟨"bool", rfl, PySem.W.Looks.of_pure rfl, hs, fun A E P hp => GyDec.tryC_beq (ins_at I hb).choose_spec.2 hp⟩
theorem turns_seq {x : Str} (hs : PySem.W.subIn X.K (.ref C) (.type "str") = some false) : Turns X C .Eq (.str x) H := fun pins σ s v b dy gs I rv hb => by
  obtain ⟨t, rfl⟩ := rv
  exact ⟨"str", typeIs_str s x t, PySem.W.Looks.of_pure rfl, hs, fun A E P hp => GyDec.tryC_seq (ins_at I hb).choose_spec.2 hp⟩
theorem turns_neq (hs : PySem.W.subIn X.K (.ref C) (.type "NoneType") = some false) : Turns X C .Eq .non H := fun pins σ s v b dy gs I rv hb => by
  cases (show v = Value.none from rv)
  exact ⟨"NoneType", rfl, PySem.W.Looks.of_pure rfl, hs, fun A E P hp => GyDec.tryC_neq (ins_at I hb).choose_spec.2 hp⟩
end
end L2
namespace L2
open PySem PySem.Spec PyProof.Rows
section
variable {X : Cx} {CX : CXT} {pins : List (Addr × Obj)} {σ : St} {H : Hp} {s : Shared} {a C dx g r : Addr} {fs : List (Str × V)} {k : Nat} {fd : FuncData} {ps : List Str} {sp : Sp} {E : XK}
theorem turns_ref {T : String} {l : Addr} {op : CmpOp} {id : String} {B : Builtin} (hs : PySem.W.subIn X.K (.ref C) (.type T) = some false) (slot : Slot T (cmpInfo op).2.1 id) (entry : entryFor table id = some B) (args : ∀ a b, argsOk id ⟨[a, b], []⟩)
    (get : ∀ (pins : List (Addr × Obj)) (σ : St) (s : Shared), Inv X pins σ H s → ∃ ol, s.heap.get? l = some ol ∧ ol.cls = .type T ∧ ∀ b dy, GivesAt (PySem.GyDec.GyTwo T l ol b C dy) (B ⟨[.ref l, .ref b], []⟩) (.val .notImplemented)) : Turns X C op (.ref l) H := fun pins σ s v b dy gs I rv hb => by
  cases (show v = Value.ref l from rv)
  obtain ⟨ol, h1, h2, gv⟩ := get pins σ s I
  have hT : s.TypeIs (.ref l) T := ⟨ol, h1, h2⟩
  refine ⟨T, hT, ?_, hs, fun A E P hp => ?_⟩
  · exact PySem.W.kitAt_ty _ _ ⟨ol, h1, h2⟩
  · refine wpAny_tryCompare_declines hT slot (call_givesAt slot hT entry (args _ _) (gv b dy) ⟨h1, (ins_at I hb).choose_spec.2, fun prog w => PySem.W.looks_subIn I.kIn hs⟩ ⟨rfl, hp⟩)
theorem turns_list {l : Addr} {xs : List V} (h : H l = some (.lst xs)) (hs : PySem.W.subIn X.K (.ref C) (.type "list") = some false) : Turns X C .Eq (.ref l) H :=
  turns_ref (T := "list") (id := "list.__eq__") (B := Builtin.«list.__eq__») hs F.slot_list_eq F.entry_list_eq F.args_list_eq_2 fun pins σ s I => by
    obtain ⟨_, _, n, _, h1⟩ := (show ObjOk X.prog X.w H s.heap l (.lst xs) from I.hok l _ h)
    exact ⟨_, h1, rfl, fun b dy => PySem.GyDec.list_dec _ _ _ _⟩
theorem turns_tup {l : Addr} {xs : List V} (h : H l = some (.tup xs)) (hs : PySem.W.subIn X.K (.ref C) (.type "tuple") = some false) : Turns X C .Eq (.ref l) H :=
  turns_ref (T := "tuple") (id := "tuple.__eq__") (B := Builtin.«tuple.__eq__») hs F.slot_tuple_eq F.entry_tuple_eq F.args_tuple_eq_2 fun pins σ s I => by
    obtain ⟨_, _, _, o, h1, h2, _⟩ := (show ObjOk X.prog X.w H s.heap l (.tup xs) from I.hok l _ h)
    exact ⟨_, h1, h2, fun b dy => PySem.GyDec.tup_dec h2⟩
theorem turns_dK {l : Addr} {xs : List (Key × V)} (h : H l = some (.dK xs)) (hs : PySem.W.subIn X.K (.ref C) (.type "dict") = some false) : Turns X C .Eq (.ref l) H :=
  turns_ref (T := "dict") (id := "dict.__eq__") (B := Builtin.«dict.__eq__») hs F.slot_dict_eq F.entry_dict_eq F.args_dict_eq_2 fun pins σ s I => by
    obtain ⟨_, _, vs, _, o, es, ep, h1, h2, _⟩ := (show ObjOk X.prog X.w H s.heap l (.dK xs) from I.hok l _ h)
    exact ⟨_, h1, h2.1, fun b dy => PySem.GyDec.dict_dec h2.1⟩
end
end L2

/-! Numbers ordered. -/
namespace Gy
open PySem L2

def top (i : Nat) : Stmt := PySem.Challenge.pw_surelevels_k03_numbers_ordered.main.body.getD i (.Pass ⟨0, 0, 0, 0⟩)
abbrev s_is_whole : Stmt := (top 5)
theorem sc_is_whole : FnScope ["thing"] ["thing"] (defScope s_is_whole) :=
  ⟨rfl, rfl, rfl, by decide +kernel, rfl, by decide +kernel, by decide +kernel⟩
abbrev s_Exact_init : Stmt := (inClass (top 7) 0)
theorem sc_Exact_init : FnScope ["self", "over", "under", "part", "shared"] ["self", "over", "under"] (defScope s_Exact_init) :=
  ⟨rfl, rfl, rfl, by decide +kernel, rfl, by decide +kernel, by decide +kernel⟩
abbrev s_Exact_eq : Stmt := (inClass (top 7) 8)
theorem sc_Exact_eq : FnScope ["self", "other"] ["self", "other"] (defScope s_Exact_eq) :=
  ⟨rfl, rfl, rfl, by decide +kernel, rfl, by decide +kernel, by decide +kernel⟩
abbrev s_Exact_lt : Stmt := (inClass (top 7) 9)
theorem sc_Exact_lt : FnScope ["self", "other", "over", "under"] ["self", "other"] (defScope s_Exact_lt) :=
  ⟨rfl, rfl, rfl, by decide +kernel, rfl, by decide +kernel, by decide +kernel⟩
abbrev s_Exact_le : Stmt := (inClass (top 7) 10)
theorem sc_Exact_le : FnScope ["self", "other", "over", "under"] ["self", "other"] (defScope s_Exact_le) :=
  ⟨rfl, rfl, rfl, by decide +kernel, rfl, by decide +kernel, by decide +kernel⟩
abbrev s_Exact_gt : Stmt := (inClass (top 7) 11)
theorem sc_Exact_gt : FnScope ["self", "other", "over", "under"] ["self", "other"] (defScope s_Exact_gt) :=
  ⟨rfl, rfl, rfl, by decide +kernel, rfl, by decide +kernel, by decide +kernel⟩
abbrev s_Exact_ge : Stmt := (inClass (top 7) 12)
theorem sc_Exact_ge : FnScope ["self", "other", "over", "under"] ["self", "other"] (defScope s_Exact_ge) :=
  ⟨rfl, rfl, rfl, by decide +kernel, rfl, by decide +kernel, by decide +kernel⟩
abbrev s_divisor : Stmt := (top 8)
theorem sc_divisor : FnScope ["one", "other"] ["one", "other"] (defScope s_divisor) :=
  ⟨rfl, rfl, rfl, by decide +kernel, rfl, by decide +kernel, by decide +kernel⟩
abbrev s_is_number : Stmt := (top 9)
theorem sc_is_number : FnScope ["thing"] ["thing"] (defScope s_is_number) :=
  ⟨rfl, rfl, rfl, by decide +kernel, rfl, by decide +kernel, by decide +kernel⟩
abbrev s_parts : Stmt := (top 10)
theorem sc_parts : FnScope ["number"] ["number"] (defScope s_parts) :=
  ⟨rfl, rfl, rfl, by decide +kernel, rfl, by decide +kernel, by decide +kernel⟩
abbrev s_law_fresh : Stmt := (top 12)
theorem sc_law_fresh : FnScope ["_law_script"] ["_law_script"] (defScope s_law_fresh) :=
  ⟨rfl, rfl, rfl, by decide +kernel, rfl, by decide +kernel, by decide +kernel⟩
abbrev s_law_fill : Stmt := (top 13)
theorem sc_law_fill : FnScope ["_law_state", "_law_cells", "_law_nth", "_law_seed", "_law_k", "_law_prime", "_law_far"] ["_law_state"] (defScope s_law_fill) :=
  ⟨rfl, rfl, rfl, by decide +kernel, rfl, by decide +kernel, by decide +kernel⟩
abbrev s_law_take : Stmt := (top 14)
theorem sc_law_take : FnScope ["_law_state", "_law_many", "_law_laps", "_law_digit"] ["_law_state", "_law_many"] (defScope s_law_take) :=
  ⟨rfl, rfl, rfl, by decide +kernel, rfl, by decide +kernel, by decide +kernel⟩
abbrev s_law_one : Stmt := (top 15)
theorem sc_law_one : FnScope ["_law_state", "_law_things"] ["_law_state", "_law_things"] (defScope s_law_one) :=
  ⟨rfl, rfl, rfl, by decide +kernel, rfl, by decide +kernel, by decide +kernel⟩
abbrev s_law_same : Stmt := (top 16)
theorem sc_law_same : FnScope ["_law_found", "_law_due", "_law_a", "_law_b"] ["_law_found", "_law_due"] (defScope s_law_same) :=
  ⟨rfl, rfl, rfl, by decide +kernel, rfl, by decide +kernel, by decide +kernel⟩
abbrev s_law_gcd : Stmt := (top 17)
theorem sc_law_gcd : FnScope ["_law_a", "_law_b"] ["_law_a", "_law_b"] (defScope s_law_gcd) :=
  ⟨rfl, rfl, rfl, by decide +kernel, rfl, by decide +kernel, by decide +kernel⟩
abbrev s_law_frac : Stmt := (top 18)
theorem sc_law_frac : FnScope ["_law_over", "_law_under", "_law_whole"] ["_law_over", "_law_under"] (defScope s_law_frac) :=
  ⟨rfl, rfl, rfl, by decide +kernel, rfl, by decide +kernel, by decide +kernel⟩
abbrev s_law_add : Stmt := (top 19)
theorem sc_law_add : FnScope ["_law_a", "_law_b"] ["_law_a", "_law_b"] (defScope s_law_add) :=
  ⟨rfl, rfl, rfl, by decide +kernel, rfl, by decide +kernel, by decide +kernel⟩
abbrev s_law_less : Stmt := (top 20)
theorem sc_law_less : FnScope ["_law_a", "_law_b"] ["_law_a", "_law_b"] (defScope s_law_less) :=
  ⟨rfl, rfl, rfl, by decide +kernel, rfl, by decide +kernel, by decide +kernel⟩
abbrev s_law_as_number : Stmt := (top 21)
theorem sc_law_as_number : FnScope ["_law_state", "_law_a", "_law_far"] ["_law_state", "_law_a"] (defScope s_law_as_number) :=
  ⟨rfl, rfl, rfl, by decide +kernel, rfl, by decide +kernel, by decide +kernel⟩
abbrev s_law_some_frac : Stmt := (top 22)
theorem sc_law_some_frac : FnScope ["_law_state", "_law_top"] ["_law_state"] (defScope s_law_some_frac) :=
  ⟨rfl, rfl, rfl, by decide +kernel, rfl, by decide +kernel, by decide +kernel⟩
abbrev s_law : Stmt := (top 23)
theorem sc_law : FnScope ["_law_script", "_law_state", "_law_turn", "_law_a", "_law_far", "_law_b", "_law_x", "_law_y", "_law_less_here", "_law_same_here", "_law_found", "_law_more", "_law_due", "_law_others", "_law_other"] ["_law_script"] (defScope s_law) :=
  ⟨rfl, rfl, rfl, by decide +kernel, rfl, by decide +kernel, by decide +kernel⟩
structure Tx (K : PySem.W.Frag) (mg : Str → Option Value) where
  Exact_a : Addr
  Exact_m : mg "Exact" = some (.ref Exact_a)
  Exact_cl : Cls K Exact_a
  Exact_n_over : NoAttr K Exact_a "over"
  Exact_n_under : NoAttr K Exact_a "under"
  Exact_i1 : PySem.W.findIn K (.ref Exact_a) "__class__" = some (some (.builtin "object.__class__"))
  Exact_i2 : PySem.W.specialIn K (.builtin "object.__class__") "__get__" = some (some (.builtin "getset_descriptor.__get__"))
  Exact_i3 : PySem.W.takesIn K (.builtin "object.__class__") = some true
  Exact_i4 : PySem.W.mroIn K Exact_a (.type "object") = some true
  Exact_ne : PySem.W.findIn K (.ref Exact_a) "__ne__" = some (some (.builtin "object.__ne__"))
  Exact_k0 : PySem.W.kitOne K (.ref Exact_a) (.ref Exact_a) = some true
  Exact_kt_int : PySem.W.kitOne K (.type "int") (.ref Exact_a) = some false
  Exact_ko_int : PySem.W.kitOne K (.ref Exact_a) (.type "int") = some false
  Exact_up_int : PySem.W.subIn K (.type "int") (.ref Exact_a) = some false
  Exact_dn_int : PySem.W.subIn K (.ref Exact_a) (.type "int") = some false
  Exact_kt_bool : PySem.W.kitOne K (.type "bool") (.ref Exact_a) = some false
  Exact_ko_bool : PySem.W.kitOne K (.ref Exact_a) (.type "bool") = some false
  Exact_up_bool : PySem.W.subIn K (.type "bool") (.ref Exact_a) = some false
  Exact_dn_bool : PySem.W.subIn K (.ref Exact_a) (.type "bool") = some false
  Exact_kt_str : PySem.W.kitOne K (.type "str") (.ref Exact_a) = some false
  Exact_up_str : PySem.W.subIn K (.type "str") (.ref Exact_a) = some false
  Exact_dn_str : PySem.W.subIn K (.ref Exact_a) (.type "str") = some false
  Exact_kt_list : PySem.W.kitOne K (.type "list") (.ref Exact_a) = some false
  Exact_ko_list : PySem.W.kitOne K (.ref Exact_a) (.type "list") = some false
  Exact_up_list : PySem.W.subIn K (.type "list") (.ref Exact_a) = some false
  Exact_dn_list : PySem.W.subIn K (.ref Exact_a) (.type "list") = some false
  Exact_kt_tuple : PySem.W.kitOne K (.type "tuple") (.ref Exact_a) = some false
  Exact_ko_tuple : PySem.W.kitOne K (.ref Exact_a) (.type "tuple") = some false
  Exact_up_tuple : PySem.W.subIn K (.type "tuple") (.ref Exact_a) = some false
  Exact_dn_tuple : PySem.W.subIn K (.ref Exact_a) (.type "tuple") = some false
  Exact_kt_dict : PySem.W.kitOne K (.type "dict") (.ref Exact_a) = some false
  Exact_up_dict : PySem.W.subIn K (.type "dict") (.ref Exact_a) = some false
  Exact_dn_dict : PySem.W.subIn K (.ref Exact_a) (.type "dict") = some false
  Exact_kt_NoneType : PySem.W.kitOne K (.type "NoneType") (.ref Exact_a) = some false
  Exact_up_NoneType : PySem.W.subIn K (.type "NoneType") (.ref Exact_a) = some false
  Exact_dn_NoneType : PySem.W.subIn K (.ref Exact_a) (.type "NoneType") = some false
  is_whole_a : Addr
  is_whole_d : FuncData
  is_whole_F : Fun K "is_whole" "is_whole" s_is_whole is_whole_a is_whole_d
  is_whole_b : Binds K is_whole_d ["thing"] []
  is_whole_m : mg "is_whole" = some (.ref is_whole_a)
  Exact_init_a : Addr
  Exact_init_d : FuncData
  Exact_init_F : FunD K "__init__" "Exact.__init__" (defArgs s_Exact_init) (defBody s_Exact_init) (defScope s_Exact_init) [V.int 1] [] Exact_init_a Exact_init_d
  Exact_init_b : Binds K Exact_init_d ["self", "over", "under"] []
  Exact_init_ds2 : List Value
  Exact_init_v2 : Vals [V.int 1] Exact_init_ds2
  Exact_init_bd2 : Binds K Exact_init_d ["self", "over", "under"] Exact_init_ds2
  Exact_init_M : Meth K Exact_a "__init__" Exact_init_a
  Exact_mk : Mk K Exact_a Exact_init_a
  Exact_eq_a : Addr
  Exact_eq_d : FuncData
  Exact_eq_F : Fun K "__eq__" "Exact.__eq__" s_Exact_eq Exact_eq_a Exact_eq_d
  Exact_eq_b : Binds K Exact_eq_d ["self", "other"] []
  Exact_eq_M : Meth K Exact_a "__eq__" Exact_eq_a
  Exact_lt_a : Addr
  Exact_lt_d : FuncData
  Exact_lt_F : Fun K "__lt__" "Exact.__lt__" s_Exact_lt Exact_lt_a Exact_lt_d
  Exact_lt_b : Binds K Exact_lt_d ["self", "other"] []
  Exact_lt_M : Meth K Exact_a "__lt__" Exact_lt_a
  Exact_le_a : Addr
  Exact_le_d : FuncData
  Exact_le_F : Fun K "__le__" "Exact.__le__" s_Exact_le Exact_le_a Exact_le_d
  Exact_le_b : Binds K Exact_le_d ["self", "other"] []
  Exact_le_M : Meth K Exact_a "__le__" Exact_le_a
  Exact_gt_a : Addr
  Exact_gt_d : FuncData
  Exact_gt_F : Fun K "__gt__" "Exact.__gt__" s_Exact_gt Exact_gt_a Exact_gt_d
  Exact_gt_b : Binds K Exact_gt_d ["self", "other"] []
  Exact_gt_M : Meth K Exact_a "__gt__" Exact_gt_a
  Exact_ge_a : Addr
  Exact_ge_d : FuncData
  Exact_ge_F : Fun K "__ge__" "Exact.__ge__" s_Exact_ge Exact_ge_a Exact_ge_d
  Exact_ge_b : Binds K Exact_ge_d ["self", "other"] []
  Exact_ge_M : Meth K Exact_a "__ge__" Exact_ge_a
  divisor_a : Addr
  divisor_d : FuncData
  divisor_F : Fun K "divisor" "divisor" s_divisor divisor_a divisor_d
  divisor_b : Binds K divisor_d ["one", "other"] []
  divisor_m : mg "divisor" = some (.ref divisor_a)
  is_number_a : Addr
  is_number_d : FuncData
  is_number_F : Fun K "is_number" "is_number" s_is_number is_number_a is_number_d
  is_number_b : Binds K is_number_d ["thing"] []
  is_number_m : mg "is_number" = some (.ref is_number_a)
  parts_a : Addr
  parts_d : FuncData
  parts_F : Fun K "parts" "parts" s_parts parts_a parts_d
  parts_b : Binds K parts_d ["number"] []
  parts_m : mg "parts" = some (.ref parts_a)
  law_fresh_a : Addr
  law_fresh_d : FuncData
  law_fresh_F : Fun K "_law_fresh" "_law_fresh" s_law_fresh law_fresh_a law_fresh_d
  law_fresh_b : Binds K law_fresh_d ["_law_script"] []
  law_fresh_m : mg "_law_fresh" = some (.ref law_fresh_a)
  law_fill_a : Addr
  law_fill_d : FuncData
  law_fill_F : Fun K "_law_fill" "_law_fill" s_law_fill law_fill_a law_fill_d
  law_fill_b : Binds K law_fill_d ["_law_state"] []
  law_fill_m : mg "_law_fill" = some (.ref law_fill_a)
  law_take_a : Addr
  law_take_d : FuncData
  law_take_F : Fun K "_law_take" "_law_take" s_law_take law_take_a law_take_d
  law_take_b : Binds K law_take_d ["_law_state", "_law_many"] []
  law_take_m : mg "_law_take" = some (.ref law_take_a)
  law_one_a : Addr
  law_one_d : FuncData
  law_one_F : Fun K "_law_one" "_law_one" s_law_one law_one_a law_one_d
  law_one_b : Binds K law_one_d ["_law_state", "_law_things"] []
  law_one_m : mg "_law_one" = some (.ref law_one_a)
  law_same_a : Addr
  law_same_d : FuncData
  law_same_F : Fun K "_law_same" "_law_same" s_law_same law_same_a law_same_d
  law_same_b : Binds K law_same_d ["_law_found", "_law_due"] []
  law_same_m : mg "_law_same" = some (.ref law_same_a)
  law_gcd_a : Addr
  law_gcd_d : FuncData
  law_gcd_F : Fun K "_law_gcd" "_law_gcd" s_law_gcd law_gcd_a law_gcd_d
  law_gcd_b : Binds K law_gcd_d ["_law_a", "_law_b"] []
  law_gcd_m : mg "_law_gcd" = some (.ref law_gcd_a)
  law_frac_a : Addr
  law_frac_d : FuncData
  law_frac_F : Fun K "_law_frac" "_law_frac" s_law_frac law_frac_a law_frac_d
  law_frac_b : Binds K law_frac_d ["_law_over", "_law_under"] []
  law_frac_m : mg "_law_frac" = some (.ref law_frac_a)
  law_add_a : Addr
  law_add_d : FuncData
  law_add_F : Fun K "_law_add" "_law_add" s_law_add law_add_a law_add_d
  law_add_b : Binds K law_add_d ["_law_a", "_law_b"] []
  law_add_m : mg "_law_add" = some (.ref law_add_a)
  law_less_a : Addr
  law_less_d : FuncData
  law_less_F : Fun K "_law_less" "_law_less" s_law_less law_less_a law_less_d
  law_less_b : Binds K law_less_d ["_law_a", "_law_b"] []
  law_less_m : mg "_law_less" = some (.ref law_less_a)
  law_as_number_a : Addr
  law_as_number_d : FuncData
  law_as_number_F : Fun K "_law_as_number" "_law_as_number" s_law_as_number law_as_number_a law_as_number_d
  law_as_number_b : Binds K law_as_number_d ["_law_state", "_law_a"] []
  law_as_number_m : mg "_law_as_number" = some (.ref law_as_number_a)
  law_some_frac_a : Addr
  law_some_frac_d : FuncData
  law_some_frac_F : Fun K "_law_some_frac" "_law_some_frac" s_law_some_frac law_some_frac_a law_some_frac_d
  law_some_frac_b : Binds K law_some_frac_d ["_law_state"] []
  law_some_frac_m : mg "_law_some_frac" = some (.ref law_some_frac_a)
  law_a : Addr
  law_d : FuncData
  law_F : Fun K "law" "law" s_law law_a law_d
  law_b : Binds K law_d ["_law_script"] []
  law_m : mg "law" = some (.ref law_a)
  z_abs : mg "abs" = none
  z_all : mg "all" = none
  z_bool : mg "bool" = none
  z_enumerate : mg "enumerate" = none
  z_int : mg "int" = none
  z_isinstance : mg "isinstance" = none
  z_len : mg "len" = none
  z_list : mg "list" = none
  z_range : mg "range" = none
  z_tuple : mg "tuple" = none
  z_zip : mg "zip" = none


section
variable {P : Program} {w : World} {K : PySem.W.Frag} {mg : Str → Option Value} {base : Heap}
/-! ### numbers: is_whole, parts, divisor, Exact -/
/-- an Exact's attributes -/
def exF (p q : V) : List (Str × V) := [(("over" : Str), p), (("under" : Str), q)]
/-- an Exact stands at v -/
def ExAt (C : Addr) (H : Hp) (v : V) (p : Int × Int) : Prop := ∃ a dx, v = .ref a ∧ H a = some (.ins C dx (exF (.int p.1) (.int p.2)))
/-- a number as it is passed -/
def NumAt (C : Addr) (H : Hp) (v : V) (p : Int × Int) : Prop := (v = .int p.1 ∧ p.2 = 1) ∨ ExAt C H v p
theorem ExAt.same {C : Addr} {H H' : Hp} {v : V} {p : Int × Int} (h : ExAt C H v p) (e : Same H H') : ExAt C H' v p := let ⟨a, dx, r, z⟩ := h; ⟨a, dx, r, e _ _ z⟩
theorem NumAt.same {C : Addr} {H H' : Hp} {v : V} {p : Int × Int} (h : NumAt C H v p) (e : Same H H') : NumAt C H' v p := h.elim .inl fun z => .inr (z.same e)
theorem fl_ne : ¬ (("over" : Str) = "under") := by decide +kernel
theorem fl_eq (p q : V) : putF "under" q (putF "over" p []) = exF p q := by
  show (if ("over" : Str) = "under" then [(("over" : Str), q)] else (("over" : Str), p) :: putF "under" q []) = ([(("over" : Str), p), (("under" : Str), q)] : List (Str × V))
  rw [if_neg fl_ne]
  all_goals rfl
theorem fl_over {x y : V} : (exF x y).lookup ("over" : Str) = some x := by
  rw [← fl_eq, lookup_putF, if_neg fl_ne, lookup_putF, if_pos rfl]
theorem fl_under {x y : V} : (exF x y).lookup ("under" : Str) = some y := by
  rw [← fl_eq, lookup_putF, if_pos rfl]
theorem fl_no {x y : V} {m : Str} (h1 : ¬ m = "over") (h2 : ¬ m = "under") : (exF x y).lookup m = none := by
  rw [← fl_eq, lookup_putF, if_neg h2, lookup_putF, if_neg h1]
  all_goals rfl
/-- no number -/
def NoNum (K : PySem.W.Frag) (C : Addr) (H : Hp) (v : V) : Prop := ∃ t b, TyX K H v t ∧ PySem.W.kitOne K t (.type "int") = some b ∧ (b = true → PySem.W.kitOne K t (.type "bool") = some true) ∧ PySem.W.kitOne K t (.ref C) = some false
/-- an int, an Exact, no number: whether it is an int -/
def spWhole (K : PySem.W.Frag) (C : Addr) : Sp := fun vs H Q _ => ∃ v, vs = [v] ∧ ((∃ i, v = .int i) ∧ Q (.bl true) H ∨ (∃ p, ExAt C H v p) ∧ Q (.bl false) H ∨ NoNum K C H v ∧ Q (.bl false) H)
theorem ok_is_whole (T : Tx K mg) : FnOk P w K mg base CX0 1 T.is_whole_a T.is_whole_d ["thing"] (spWhole K T.Exact_a) := by
  refine T.is_whole_F.ok sc_is_whole (fun vs H Q E h => ?_) (fun cdv A outer s H vs Q E hr h => ?_)
  · obtain ⟨v, rfl, _⟩ := h
    rfl
  · obtain ⟨v, rfl, h⟩ := h
    refine ⟨_, (pss_one (ps_ret (pe_and (pe_callB call_isi (by rfl) T.z_isinstance (by decide +kernel) (pa_cons (pv 0) (pa_cons (pe_bltn (v := .ty "int") (by rfl) T.z_int (by decide +kernel) rfl) pa_nil))) (pe_one (pe_not (pe_callB call_isi (by rfl) T.z_isinstance (by decide +kernel) (pa_cons (pv 0) (pa_cons (pe_bltn (v := .ty "bool") (by rfl) T.z_bool (by decide +kernel) rfl) pa_nil)))))))), ?_⟩
    rcases h with ⟨⟨i, rfl⟩, k⟩ | ⟨⟨p, a, dx, rfl, ha⟩, k⟩ | ⟨⟨t, b, ty, ki, kb, _⟩, k⟩
    · refine ⟨_, rfl, _, _, _, _, true, rfl, .ty "int", .base (.int i), kit_ty (by decide +kernel), true, rfl, ?_⟩
      refine iteT ?_
      refine ⟨_, rfl, _, _, _, _, false, rfl, .ty "bool", .base (.int i), kit_ty (by decide +kernel), false, rfl, k⟩
    · refine ⟨_, rfl, _, _, _, _, false, rfl, .ty "int", .base (.ins ha T.Exact_cl T.Exact_i1 T.Exact_i2 T.Exact_i3 T.Exact_i4), T.Exact_ko_int, false, rfl, ?_⟩
      exact iteF k
    · refine ⟨_, rfl, _, _, _, _, b, rfl, .ty "int", ty, ki, b, rfl, ?_⟩
      cases b with
      | false => exact iteF k
      | true =>
        refine iteT ?_
        exact ⟨_, rfl, _, _, _, _, true, rfl, .ty "bool", ty, kb rfl, true, rfl, k⟩
/-- the greatest common part of two ints that are not below 0 -/
def spDivisor : Sp := fun vs H Q _ => ∃ a b : Int, vs = [.int a, .int b] ∧ 0 ≤ a ∧ 0 ≤ b ∧ Q (.int (Int.gcd a b)) H
theorem ok_divisor (T : Tx K mg) : FnOk P w K mg base CX0 1 T.divisor_a T.divisor_d ["one", "other"] spDivisor := by
  refine T.divisor_F.ok sc_divisor (fun vs H Q E h => ?_) (fun cdv A outer s H vs Q E hr h => ?_)
  · obtain ⟨a, b, rfl, _⟩ := h
    rfl
  · obtain ⟨a, b, rfl, ha, hb, k⟩ := h
    refine ⟨_, (pss_cons (ps_while PassesOwn.never (pt_cmpR op_ne (pv 1) pe_int (nomark _))
  (pss_one (ps_par (i := 0) (j := 1) (by rfl) sc_divisor.nd rfl rfl (by decide) rfl rfl (pa_cons (pv 1) (pa_cons (pe_op (op_modN) (pv 0) (pv 1)) pa_nil)) (by rfl))))
  (pss_one (ps_ret (pv 0)))), ?_⟩
    refine ⟨fun m σ H' => ∃ x y : Int, σ = [some (.int x), some (.int y)] ∧ 0 ≤ x ∧ 0 ≤ y ∧ Int.gcd x y = Int.gcd a b ∧ m = y.toNat ∧ H' = H, ⟨_, a, b, rfl, ha, hb, rfl, rfl, rfl⟩, ?_⟩
    rintro m σ H' ⟨x, y, rfl, hx, hy, hg, rfl, rfl⟩
    refine ⟨_, rfl, rfl, _, rfl, ?_⟩
    by_cases h0 : y = 0
    · subst h0
      refine iteF ?_
      refine ⟨_, rfl, ?_⟩
      have e : x = (Int.gcd a b : Int) := by rw [← hg, Int.gcd_zero_right]; omega
      rw [e]
      exact k
    · rw [show (!decide (V.int y = V.int 0)) = true by simp [h0]]
      refine iteT ?_
      refine ⟨_, fun σ' H' z => z, ?_⟩
      refine ⟨_, rfl, _, rfl, _, rfl, _, _, rfl, rfl, h0, _, _, rfl, ?_⟩
      have h1 := Int.fmod_nonneg_of_pos x (b := y) (by omega)
      have h2 := Int.fmod_lt_of_pos x (b := y) (by omega)
      exact ⟨_, by omega, y, x.fmod y, rfl, hy, h1, (gcd_step x y).trans hg, rfl, rfl⟩
/-- Exact(a, b), b not 0 -/
def spExInit (C : Addr) : Sp := fun vs H Q _ => ∃ (x dx : Addr) (a b : Int), vs = [.ref x, .int a, .int b] ∧ b ≠ 0 ∧ b.natAbs < 2 ^ 8000 ∧ H x = some (.ins C dx []) ∧
  ∀ H', H' x = some (.ins C dx (exF (.int (red a b).1) (.int (red a b).2))) → (∀ c o, H c = some o → c ≠ x → H' c = some o) → Q .non H'
theorem ok_Exact_init (T : Tx K mg) : FnOk P w K mg base CX0 3 T.Exact_init_a T.Exact_init_d ["self", "over", "under"] (spExInit T.Exact_a) := by
  refine T.Exact_init_F.ok0 sc_Exact_init (fun vs H Q E h => ?_) (fun cdv A outer s H vs Q E hr h => ?_)
  · obtain ⟨x, dx, a, b, rfl, _⟩ := h
    rfl
  · obtain ⟨x, dx, a, b, rfl, hb, hz, hx, k⟩ := h
    refine ⟨_, (pss_cons (ps_for PassesOwn.never rfl (pi_tup (pe_tup (pa_cons (pv 1) (pa_cons (pv 2) pa_nil)))) (pg_name (i := 3) sc_Exact_init.nd rfl (Or.inl rfl))
  (pss_one (ps_if (pt_not (pt_val (pe_call (ok_is_whole T) (hr.mono (by decide)) rfl T.is_whole_m T.is_whole_F.kp T.is_whole_b .nil pass0 (pa_cons (pv 3) pa_nil))))
  (pss_one ps_never)
  pss_nil)))
  (pss_cons (ps_if (pt_cmpR op_eq (pv 2) pe_int (nomark _))
  (pss_one ps_never)
  pss_nil)
  (pss_cons (ps_set (i := 4) sc_Exact_init.nd rfl (Or.inl rfl) (pe_call (ok_divisor T) (hr.mono (by decide)) rfl T.divisor_m T.divisor_F.kp T.divisor_b .nil pass0 (pa_cons (pe_callB (call_abs) (by rfl) T.z_abs (by decide +kernel) (pa_cons (pv 1) pa_nil)) (pa_cons (pe_callB (call_abs) (by rfl) T.z_abs (by decide +kernel) (pa_cons (pv 2) pa_nil)) pa_nil))))
  (pss_cons (ps_if (pt_cmpR op_lt (pv 2) pe_int (nomark _))
  (pss_one (ps_set (i := 4) sc_Exact_init.nd rfl (Or.inl rfl) (pe_un (un_neg) (pv 4))))
  pss_nil)
  (pss_cons (ps_fld (pv 0) (pe_op (op_fdivG) (pv 1) (pv 4)) rfl)
  (pss_one (ps_fld (pv 0) (pe_op (op_fdivG) (pv 2) (pv 4)) rfl))))))), ?_⟩
    refine ⟨_, rfl, _, rfl, (by show 2 ≤ sizeLine; decide), fun t nt => ?_⟩
    have s1 : Same H (upd H t (.tup [.int a, .int b])) := same_upd nt
    have ht : (upd H t (.tup [.int a, .int b])) t = some (.tup [.int a, .int b]) := upd_same
    generalize upd H t (.tup [.int a, .int b]) = H1 at s1 ht ⊢
    refine ⟨t, rfl, ⟨_, .inl (.inl ht)⟩, for_tup (K := K) (a := t) (xs := [.int a, .int b]) (fun i σ H2 => (∃ v, σ = [some (.ref x), some (.int a), some (.int b), v, none]) ∧ H2 = H1) ⟨⟨none, rfl⟩, rfl⟩ (fun i σ H2 _ e => by rw [e.2]; exact .inl (.inl ht)) ?_ ?_⟩
    · rintro i y σ H2 hi ⟨⟨v, rfl⟩, rfl⟩
      have hy : ∃ n, y = V.int n := by
        match i, hi with
        | 0, hi => exact ⟨a, (Option.some.inj hi).symm⟩
        | 1, hi => exact ⟨b, (Option.some.inj hi).symm⟩
      obtain ⟨n, rfl⟩ := hy
      refine ⟨_, rfl, _, rfl, .inl ⟨⟨n, rfl⟩, true, rfl, ?_⟩⟩
      exact iteF ⟨⟨_, rfl⟩, rfl⟩
    · rintro σ H2 ⟨⟨v, rfl⟩, rfl⟩
      refine ⟨_, rfl, rfl, _, rfl, ?_⟩
      rw [show decide (V.int b = V.int 0) = false by simp [hb]]
      refine iteF ?_
      refine ⟨_, rfl, _, rfl, _, rfl, _, rfl, a.natAbs, b.natAbs, ?_, by omega, by omega, ?_⟩
      · show ([V.int _, V.int _] : List V) = [V.int _, V.int _]
        have f : ∀ z : Int, (if z < 0 then -z else z) = (z.natAbs : Int) := fun z => by split <;> omega
        rw [f, f]
      rw [show Int.gcd (a.natAbs : Int) (b.natAbs : Int) = Int.gcd a b from rfl]
      have hx2 := s1 _ _ hx
      -- the sign, then the two fields: both ways end alike
      have fin : ∀ w : Int, w = red_w a b → tSeq (sFld K (tVar 0) (tOp (rI GDiv fun i j => .int (i.fdiv j)) (tVar 1) (tVar 4)) "over") (sFld K (tVar 0) (tOp (rI GDiv fun i j => .int (i.fdiv j)) (tVar 2) (tVar 4)) "under")
          { nx := fun _ H' => Q .non H', rt := Q } [some (.ref x), some (.int a), some (.int b), v, some (.int w)] H2 := by
        rintro w rfl
        have gd : ∀ i, GDiv i (red_w a b) := fun i => gDiv_lt (red_w_ne hb) (red_w_sz hb hz) (by decide) (by decide)
        refine ⟨_, rfl, _, rfl, _, _, rfl, rfl, gd _, _, rfl, x, T.Exact_a, dx, _, rfl, hx2, T.Exact_cl, T.Exact_n_over, (by show 0 < 1000; decide), ?_⟩
        refine ⟨_, rfl, _, rfl, _, _, rfl, rfl, gd _, _, rfl, x, T.Exact_a, dx, _, rfl, upd_same, T.Exact_cl, T.Exact_n_under, (by show 1 < 1000; decide), ?_⟩
        refine k _ ?_ fun c o e hc => ?_
        · rw [upd_same]
          exact congrArg (fun l => some (HO.ins T.Exact_a dx l)) (fl_eq _ _)
        · rw [upd_ne hc, upd_ne hc]
          exact s1 _ _ e
      refine ⟨_, rfl, _, _, rfl, rfl, _, rfl, ?_⟩
      refine ite2 (fun hneg => ?_) (fun hneg => ?_)
      · have hneg : b < 0 := of_decide_eq_true hneg
        exact ⟨_, rfl, _, rfl, fin _ (by unfold red_w; rw [if_pos hneg])⟩
      · have hneg : ¬ b < 0 := fun z => hneg (decide_eq_true z)
        exact fin _ (by unfold red_w; rw [if_neg hneg])
/-- Exact(A, B) as a value -/
theorem mk_ex {C : Addr} {H1 : Hp} {Q : VK} {E : XK} {A B : Int} (hB : B ≠ 0) (hz : B.natAbs < 2 ^ 8000) (k : ∀ v H2, Same H1 H2 → ExAt C H2 v (red A B) → Q v H2) :
    ∀ x dx, H1 x = none → H1 dx = none → dx ≠ x → spExInit C (.ref x :: ([.int A, .int B] ++ [])) (upd (upd H1 dx (.own x)) x (.ins C dx [])) (fun v H2 => v = .non ∧ Q (.ref x) H2) E := fun x dx nx nd ne =>
  ⟨x, dx, A, B, rfl, hB, hz, upd_same, fun H2 hx kp => ⟨rfl, k _ H2 (Same.made nx nd kp) ⟨x, dx, rfl, hx⟩⟩⟩
/-- the same, where what follows is no letter -/
theorem mk_ex1 {C : Addr} {H1 : Hp} {Q : Hp → Prop} {E : XK} {A B : Int} {x dx : Addr} (nx : H1 x = none) (nd : H1 dx = none) (hB : B ≠ 0) (hz : B.natAbs < 2 ^ 8000) (k : ∀ H2, Same H1 H2 → ExAt C H2 (.ref x) (red A B) → Q H2) :
    spExInit C (.ref x :: ([.int A, .int B] ++ [])) (upd (upd H1 dx (.own x)) x (.ins C dx [])) (fun v H2 => v = .non ∧ Q H2) E :=
  ⟨x, dx, A, B, rfl, hB, hz, upd_same, fun H2 hx kp => ⟨rfl, k H2 (Same.made nx nd kp) ⟨x, dx, rfl, hx⟩⟩⟩
/-- a number that may be reckoned with -/
def Nm (p : Int × Int) : Prop := 0 < p.2 ∧ p.1.natAbs < 2 ^ 1000 ∧ p.2.natAbs < 2 ^ 1000
theorem ok1000 {a b : Int} (ha : a.natAbs < 2 ^ 1000) (hb : b.natAbs < 2 ^ 1000) : IntMulOk a b := mulOk ha hb (by decide) (by decide) (by decide)
theorem un_ok {a b : Int × Int} (ha : Nm a) (hb : Nm b) : a.2 * b.2 ≠ 0 ∧ (a.2 * b.2).natAbs < 2 ^ 8000 :=
  ⟨Int.ne_of_gt (Int.mul_pos ha.1 hb.1), sz_up (sz_mul ha.2.2 hb.2.2) (by decide)⟩
theorem NumAt.cases {C : Addr} {H : Hp} {v : V} {p : Int × Int} (h : NumAt C H v p) : (v = .int p.1 ∧ p.2 = 1) ∨ ∃ a dx, v = .ref a ∧ H a = some (.ins C dx (exF (.int p.1) (.int p.2))) := h
def spParts (C : Addr) : Sp := fun vs H Q _ => ∃ v p, vs = [v] ∧ NumAt C H v p ∧ ∀ t H', Same H H' → H' t = some (.tup [.int p.1, .int p.2]) → Q (.ref t) H'
theorem ok_parts (T : Tx K mg) : FnOk P w K mg base CX0 3 T.parts_a T.parts_d ["number"] (spParts T.Exact_a) := by
  refine T.parts_F.ok sc_parts (fun vs H Q E h => ?_) (fun cdv A outer s H vs Q E hr h => ?_)
  · obtain ⟨v, p, rfl, _⟩ := h
    rfl
  · obtain ⟨v, p, rfl, hv, k⟩ := h
    refine ⟨_, (pss_cons (ps_if (pt_val (pe_callB call_isi (by rfl) T.z_isinstance (by decide +kernel) (pa_cons (pv 0) (pa_cons (pe_glob (v := .ref T.Exact_a) rfl T.Exact_m rfl) pa_nil))))
  (pss_one (ps_ret (pe_tup (pa_cons (pe_fld (pv 0) rfl) (pa_cons (pe_fld (pv 0) rfl) pa_nil)))))
  pss_nil)
  (pss_cons (ps_if (pt_val (pe_call (ok_is_whole T) (hr.mono (by decide)) rfl T.is_whole_m T.is_whole_F.kp T.is_whole_b .nil pass0 (pa_cons (pv 0) pa_nil)))
  (pss_one (ps_ret (pe_tup (pa_cons (pv 0) (pa_cons pe_int pa_nil)))))
  pss_nil)
  (pss_one ps_never))), ?_⟩
    rcases hv.cases with ⟨rfl, h1⟩ | ⟨x, dx, rfl, hx⟩
    · refine ⟨_, rfl, _, _, _, _, false, rfl, .own _, .base (.int _), T.Exact_kt_int, false, rfl, ?_⟩
      refine iteF ?_
      refine ⟨_, rfl, _, rfl, .inl ⟨⟨_, rfl⟩, true, rfl, ?_⟩⟩
      refine iteT ?_
      refine ⟨_, rfl, (by show 2 ≤ sizeLine; decide), fun t nt => ?_⟩
      rw [← h1]
      exact k t _ (same_upd nt) upd_same
    · refine ⟨_, rfl, _, _, _, _, true, rfl, .own _, .base (.ins hx T.Exact_cl T.Exact_i1 T.Exact_i2 T.Exact_i3 T.Exact_i4), T.Exact_k0, true, rfl, ?_⟩
      refine iteT ?_
      refine ⟨_, rfl, x, _, dx, _, _, rfl, hx, T.Exact_cl, T.Exact_n_over, fl_over, _, rfl, x, _, dx, _, _, rfl, hx, T.Exact_cl, T.Exact_n_under, fl_under, (by show 2 ≤ sizeLine; decide), fun t nt => ?_⟩
      exact k t _ (same_upd nt) upd_same
def fAdd (a b : Int × Int) : Int × Int := (a.1 * b.2 + b.1 * a.2, a.2 * b.2)
def fSub (a b : Int × Int) : Int × Int := (a.1 * b.2 - b.1 * a.2, a.2 * b.2)
def fRsub (a b : Int × Int) : Int × Int := (b.1 * a.2 - a.1 * b.2, a.2 * b.2)
def fMul (a b : Int × Int) : Int × Int := (a.1 * b.1, a.2 * b.2)
def fBy (a b : Int × Int) : Int × Int := (a.1 * b.2, a.2 * b.1)

end


section
variable {P : Program} {w : World} {K : PySem.W.Frag} {mg : Str → Option Value} {base : Heap}
/-! ### the law's draws -/
theorem cut63 (ns : List Int) (h : ns.length ≤ 63) : cutV (ns.map V.int) none (some 63) = ns.map V.int := by
  have hl : (ns.map V.int).length = ns.length := List.length_map ..
  have e : HT.sIx (ns.map V.int).length (ns.map V.int).length (some (63 : Int)) = (ns.map V.int).length := by
    have := HT.sIx_nat (ns.map V.int).length (ns.map V.int).length 63
    rw [show (((63 : Nat) : Int)) = (63 : Int) from rfl] at this
    rw [this, hl]
    omega
  unfold cutV
  rw [e, HT.sIx_none, Nat.sub_zero, List.drop_zero, List.take_length]
def spFresh (K : PySem.W.Frag) : Sp := fun vs H Q _ => ∃ (a : Addr) (ns : List Int), vs = [.ref a] ∧ SqL K H a (ns.map V.int) ∧ ns.length ≤ 63 ∧ ∀ st c H', Same H H' → StAt H' st c ns → Q (.ref st) H'
theorem ok_law_fresh (T : Tx K mg) : FnOk P w K mg base CX0 1 T.law_fresh_a T.law_fresh_d ["_law_script"] (spFresh K) := by
  refine T.law_fresh_F.ok sc_law_fresh (fun vs H Q E h => ?_) (fun cdv A outer s H vs Q E hr h => ?_)
  · obtain ⟨a, ns, rfl, _⟩ := h
    rfl
  · obtain ⟨a, ns, rfl, hS, hl, k⟩ := h
    refine ⟨_, (pss_one (ps_ret (pe_lst (pa_cons (pe_slice sl_list (pv 0) po_none (po_some pe_int)) (pa_cons pe_int (pa_cons pe_int (pa_cons pe_bl pa_nil))))))), ?_⟩
    refine ⟨_, rfl, 63, rfl, a, _, rfl, hS, fun c nc => ?_⟩
    refine ⟨(by show 4 ≤ sizeLine; decide), fun st ns' => ?_⟩
    have hne : c ≠ st := ne_of_none upd_same ns'
    refine k st c _ (Same.trans (same_upd nc) (same_upd ns')) ⟨⟨0, 0, false, upd_same⟩, ?_, hne⟩
    rw [upd_ne hne, upd_same, cut63 ns hl]
theorem prime_at {i : Nat} {x : V} (h : ([.int 2147483647, .int 2147483629, .int 2147483587, .int 2147483579, .int 2147483563] : List V)[i]? = some x) : ∃ p : Int, x = .int p ∧ 0 < p ∧ p < 2 ^ 31 ∧ i < 5 := by
  match i, h with
  | 0, h => exact ⟨_, (Option.some.inj h).symm, by decide, by decide, by decide⟩
  | 1, h => exact ⟨_, (Option.some.inj h).symm, by decide, by decide, by decide⟩
  | 2, h => exact ⟨_, (Option.some.inj h).symm, by decide, by decide, by decide⟩
  | 3, h => exact ⟨_, (Option.some.inj h).symm, by decide, by decide, by decide⟩
  | 4, h => exact ⟨_, (Option.some.inj h).symm, by decide, by decide, by decide⟩
def spFill : Sp := fun vs H Q _ => ∃ (st c : Addr) (ns : List Int), vs = [.ref st] ∧ StAt H st c ns ∧ ns.length ≤ 63 ∧ ∀ H', StAt H' st c ns → Keep st H H' → Q .non H'
theorem ok_law_fill (T : Tx K mg) : FnOk P w K mg base CX0 1 T.law_fill_a T.law_fill_d ["_law_state"] spFill := by
  refine T.law_fill_F.ok sc_law_fill (fun vs H Q E h => ?_) (fun cdv A outer s H vs Q E hr h => ?_)
  · obtain ⟨st, c, ns, rfl, _⟩ := h
    rfl
  · obtain ⟨st, c, ns, rfl, ⟨⟨nth, left, mx, hL⟩, hc, hne⟩, hl, k⟩ := h
    refine ⟨_, (pss_cons (ps_par (i := 1) (j := 2) (by rfl) sc_law_fill.nd rfl rfl (by decide) rfl rfl (pa_cons (pe_ix ix_list (pv 0) pe_int (fun _ _ => rfl)) (pa_cons (pe_ix ix_list (pv 0) pe_int (fun _ _ => rfl)) pa_nil)) (by rfl))
  (pss_cons (ps_set (i := 3) sc_law_fill.nd rfl (Or.inl rfl) (pe_op (op_add) (pe_op (op_mulG) pe_int (pv 2)) pe_int))
  (pss_cons (ps_if (pt_cmpR op_gt (pe_callB (call_len_seq) (by rfl) T.z_len (by decide +kernel) (pa_cons (pv 1) pa_nil)) pe_int (nomark _))
  (pss_one (ps_set (i := 3) sc_law_fill.nd rfl (Or.inl rfl) (pe_op (op_add) (pe_op (op_mulG) pe_int (pe_op (op_fdivG) (pv 2) (pe_callB (call_len_seq) (by rfl) T.z_len (by decide +kernel) (pa_cons (pv 1) pa_nil)))) (pe_ix ix_list (pv 1) (pe_op (op_modN) (pe_callTy call_int1 (by rfl) T.z_int (by decide +kernel) (pa_cons (pv 2) pa_nil)) (pe_callB (call_len_seq) (by rfl) T.z_len (by decide +kernel) (pa_cons (pv 1) pa_nil))) (fun _ _ => rfl)))))
  pss_nil)
  (pss_cons (ps_asg (pe_op (op_add) (pv 2) pe_int) (pg_sub (pv 0) pe_int set_list))
  (pss_cons (ps_asg (pe_or (pe_cmpR op_ge (pv 2) (pe_callB (call_len_seq) (by rfl) T.z_len (by decide +kernel) (pa_cons (pv 1) pa_nil)) (nomark _)) (pe_one (pe_cmpR op_lt (pv 3) (pe_op (op_pow) pe_int pe_int) (nomark _)))) (pg_sub (pv 0) pe_int set_list))
  (pss_cons (ps_asg (pe_op (op_sub) (pv 3) (pe_op (op_pow) pe_int pe_int)) (pg_sub (pv 0) pe_int set_list))
  (pss_one (ps_if (pt_val (pe_ix ix_list (pv 0) pe_int (fun _ _ => rfl)))
  (pss_cons (ps_asg pe_int (pg_sub (pv 0) pe_int set_list))
  (pss_one (ps_for PassesOwn.never rfl (pi_enumT (by rfl) T.z_enumerate (pa_cons (pe_tup (pa_cons pe_int (pa_cons pe_int (pa_cons pe_int (pa_cons pe_int (pa_cons pe_int pa_nil)))))) pa_nil)) (pg_tup (by rfl) (pgs_cons (pg_name (i := 4) sc_law_fill.nd rfl (Or.inl rfl)) (pgs_cons (pg_name (i := 5) sc_law_fill.nd rfl (Or.inl rfl)) pgs_nil)))
  (pss_cons (ps_set (i := 6) sc_law_fill.nd rfl (Or.inl rfl) (pe_op (op_modN) (pe_callTy call_int1 (by rfl) T.z_int (by decide +kernel) (pa_cons (pe_op (op_mulG) (pe_op (op_add) (pe_op (op_add) (pv 3) (pe_op (op_mulG) (pe_op (op_mulG) pe_int (pv 4)) (pv 4))) (pe_op (op_mulG) pe_int (pv 4))) (pe_op (op_add) pe_int (pe_op (op_mulG) pe_int (pv 4)))) pa_nil)) (pv 5)))
  (pss_one (ps_asg (pe_op (op_add) (pe_op (op_mulG) (pe_ix ix_list (pv 0) pe_int (fun _ _ => rfl)) (pv 5)) (pe_op (op_modN) (pe_callTy call_int1 (by rfl) T.z_int (by decide +kernel) (pa_cons (pe_op (op_pow) (pv 6) pe_int) pa_nil)) (pv 5))) (pg_sub (pv 0) pe_int set_list)))))))
  pss_nil)))))))), ?_⟩
    refine ⟨_, rfl, st, _, _, _, rfl, rfl, .inl (.inl hL), rfl, _, rfl, st, _, _, _, rfl, rfl, .inl (.inl hL), rfl, _, _, rfl, ?_⟩
    refine ⟨_, rfl, _, _, rfl, rfl, mulOk_l ⟨by decide, by decide⟩, _, _, rfl, rfl, ?_⟩
    refine ⟨_, rfl, c, _, rfl, .inl (.inl (.inl hc)), _, _, rfl, rfl, _, rfl, ?_⟩
    have hcU : ∀ o, (upd H st o) c = some (.lst (ns.map V.int)) := fun o => by rw [upd_ne hne]; exact hc
    -- what comes behind the seed, whatever it is
    have tail : ∀ (mx' : Bool) (H1 : Hp), Keep st H H1 → (∃ left, H1 st = some (.lst [.ref c, .int (nth + 1), .int left, .bl mx'])) → Q .non H1 := fun mx' H1 kp ⟨l, hl⟩ =>
      k H1 ⟨⟨_, _, _, hl⟩, kp c _ hc hne, hne⟩ kp
    refine ite2 (fun h0 => ?_) (fun h0 => ?_)
    · have h0 : (0 : Int) < ((ns.map V.int).length : Int) := of_decide_eq_true h0
      have hlen : (ns.map V.int).length = ns.length := List.length_map ..
      have hn0 : ((ns.map V.int).length : Int) ≠ 0 := by omega
      have f1 := Int.fmod_nonneg_of_pos nth h0
      have f2 := Int.fmod_lt_of_pos nth h0
      obtain ⟨j, hj⟩ : ∃ j : Nat, nth.fmod ((ns.map V.int).length : Int) = (j : Int) := ⟨_, (Int.toNat_of_nonneg f1).symm⟩
      have hjl : j < ns.length := by omega
      have hat : atI (ns.map V.int) (nth.fmod ((ns.map V.int).length : Int)) = some (.int ns[j]) := by
        rw [hj]
        exact atI_nat (by rw [List.getElem?_map, List.getElem?_eq_getElem hjl]; rfl)
      refine ⟨_, rfl, _, rfl, c, _, rfl, .inl (.inl (.inl hc)), _, _, rfl, rfl, gDiv_lt (b := 6) hn0 (by rw [hlen]; show ns.length < 64; omega) (by decide) (by decide), _, _, rfl, rfl, mulOk_l ⟨by decide, by decide⟩,
        _, rfl, _, rfl, .inl ⟨_, rfl, _, rfl, c, _, rfl, .inl (.inl (.inl hc)), _, _, rfl, rfl, hn0, c, _, _, _, rfl, rfl, .inl (.inl hc), hat, _, _, rfl, rfl, ?_⟩⟩
      -- the place is counted on
      refine ⟨_, rfl, _, _, rfl, rfl, _, rfl, st, _, 1, 1, rfl, rfl, hL, rfl, ?_⟩
      -- is it mixed
      refine ⟨_, rfl, _, rfl, c, _, rfl, .inl (.inl (.inl (hcU _))), _, _, rfl, rfl, _, rfl, ?_⟩
      refine ite2 (fun h1 => ?_) (fun h1 => ?_)
      · refine ⟨_, rfl, st, _, 3, 3, rfl, rfl, upd_same, rfl, ?_⟩
        refine ⟨_, rfl, _, _, rfl, rfl, ⟨by decide, by decide, by decide⟩, _, _, rfl, rfl, _, rfl, st, _, 2, 2, rfl, rfl, upd_same, rfl, ?_⟩
        refine ⟨_, rfl, st, _, _, _, rfl, rfl, .inl (.inl upd_same), rfl, _, rfl, ?_⟩
        refine iteT ?_
        refine ⟨_, rfl, st, _, 2, 2, rfl, rfl, upd_same, rfl, ?_⟩
        refine ⟨(by show 5 ≤ sizeLine; decide), fun t nt => ?_⟩
        refine ⟨t, _, rfl, .inl (.inl upd_same), for_enumT (K := K) (a := t) (xs := [.int 2147483647, .int 2147483629, .int 2147483587, .int 2147483579, .int 2147483563]) (fun i σ H2 => ∃ kk pp ff l b seed, σ = [some (.ref st), some (.ref c), some (.int nth), some (.int seed), kk, pp, ff] ∧ H2 st = some (.lst [.ref c, .int (nth + 1), .int l, .bl b]) ∧
          H2 t = some (.tup [.int 2147483647, .int 2147483629, .int 2147483587, .int 2147483579, .int 2147483563]) ∧ Keep st H H2) ⟨_, _, _, _, _, _, rfl, (upd_ne (ne_of_none upd_same nt)).trans upd_same, upd_same, ?_⟩ (fun i σ H2 _ ⟨_, _, _, _, _, _, _, _, ht, _⟩ => .inl (.inl ht)) ?_ ?_⟩
        · exact fun b o e n => same_upd nt b o (by rw [upd_ne n, upd_ne n, upd_ne n, upd_ne n]; exact e)
        · rintro i x σ H2 T' hx ⟨kk, pp, ff, l, b, seed, rfl, hS, hT, kp⟩ nT
          obtain ⟨p, rfl, p0, p1, i5⟩ := prime_at hx
          refine ⟨T', _, rfl, .inl (.inl upd_same), rfl, _, _, rfl, _, _, rfl, rfl, ?_⟩
          have hS' : ∀ o, (upd H2 T' o) st = some (.lst [.ref c, .int (nth + 1), .int l, .bl b]) := fun o => by rw [upd_ne (ne_of_none hS nT)]; exact hS
          have f1 : ∀ z : Int, 0 ≤ z.fmod p := fun z => Int.fmod_nonneg_of_pos z p0
          have f2 : ∀ z : Int, z.fmod p < p := fun z => Int.fmod_lt_of_pos z p0
          refine ⟨_, rfl, _, rfl, _, _, rfl, rfl, mulOk_l ⟨by decide, by decide⟩, _, rfl, _, _, rfl, rfl, mulOk_r ⟨by omega, by omega⟩, _, _, rfl, rfl, _, rfl, _, _, rfl, rfl, mulOk_l ⟨by decide, by decide⟩, _, _, rfl, rfl,
            _, rfl, _, _, rfl, rfl, mulOk_l ⟨by decide, by decide⟩, _, _, rfl, rfl, _, _, rfl, rfl, mulOk_r ⟨by omega, by omega⟩, .inl ⟨_, rfl, _, rfl, _, _, rfl, rfl, by omega, ?_⟩⟩
          refine ⟨_, rfl, st, _, _, _, rfl, rfl, .inl (.inl (hS' _)), rfl, _, rfl, _, _, rfl, rfl, mulOk_r ⟨by omega, by omega⟩, _, rfl, _, _, rfl, rfl, ⟨by decide, by decide, ?_⟩, .inl ⟨_, rfl, _, rfl, _, _, rfl, rfl, by omega, _, _, rfl, rfl, _, rfl, st, _, 2, 2, rfl, rfl, hS' _, rfl, ?_⟩⟩
          · have g1 := f1 ((seed + 10007 * (i : Int) * (i : Int) + 101 * (i : Int)) * (48271 + 2 * (i : Int)))
            have g2 := f2 ((seed + 10007 * (i : Int) * (i : Int) + 101 * (i : Int)) * (48271 + 2 * (i : Int)))
            omega
          · refine ⟨_, _, _, _, _, _, rfl, upd_same, ?_, fun b' o e n => ?_⟩
            · rw [upd_ne (ne_of hT hS (by intro z; cases z)), upd_ne (ne_of_none hT nT)]
              exact hT
            · rw [upd_ne n]
              exact same_upd nT b' o (kp b' o e n)
        · rintro σ H2 ⟨kk, pp, ff, l, b, seed, rfl, hS, hT, kp⟩
          exact tail b H2 kp ⟨l, hS⟩
      · refine ⟨_, rfl, _, _, rfl, rfl, ⟨by decide, by decide, by decide⟩, _, _, rfl, rfl, _, rfl, st, _, 3, 3, rfl, rfl, upd_same, rfl, ?_⟩
        refine ⟨_, rfl, _, _, rfl, rfl, ⟨by decide, by decide, by decide⟩, _, _, rfl, rfl, _, rfl, st, _, 2, 2, rfl, rfl, upd_same, rfl, ?_⟩
        refine ⟨_, rfl, st, _, _, _, rfl, rfl, .inl (.inl upd_same), rfl, _, rfl, ?_⟩
        refine ite2 (fun h2 => ?_) (fun h2 => ?_)
        · skip
          refine ⟨_, rfl, st, _, 2, 2, rfl, rfl, upd_same, rfl, ?_⟩
          refine ⟨(by show 5 ≤ sizeLine; decide), fun t nt => ?_⟩
          refine ⟨t, _, rfl, .inl (.inl upd_same), for_enumT (K := K) (a := t) (xs := [.int 2147483647, .int 2147483629, .int 2147483587, .int 2147483579, .int 2147483563]) (fun i σ H2 => ∃ kk pp ff l b seed, σ = [some (.ref st), some (.ref c), some (.int nth), some (.int seed), kk, pp, ff] ∧ H2 st = some (.lst [.ref c, .int (nth + 1), .int l, .bl b]) ∧
            H2 t = some (.tup [.int 2147483647, .int 2147483629, .int 2147483587, .int 2147483579, .int 2147483563]) ∧ Keep st H H2) ⟨_, _, _, _, _, _, rfl, (upd_ne (ne_of_none upd_same nt)).trans upd_same, upd_same, ?_⟩ (fun i σ H2 _ ⟨_, _, _, _, _, _, _, _, ht, _⟩ => .inl (.inl ht)) ?_ ?_⟩
          · exact fun b o e n => same_upd nt b o (by rw [upd_ne n, upd_ne n, upd_ne n, upd_ne n]; exact e)
          · rintro i x σ H2 T' hx ⟨kk, pp, ff, l, b, seed, rfl, hS, hT, kp⟩ nT
            obtain ⟨p, rfl, p0, p1, i5⟩ := prime_at hx
            refine ⟨T', _, rfl, .inl (.inl upd_same), rfl, _, _, rfl, _, _, rfl, rfl, ?_⟩
            have hS' : ∀ o, (upd H2 T' o) st = some (.lst [.ref c, .int (nth + 1), .int l, .bl b]) := fun o => by rw [upd_ne (ne_of_none hS nT)]; exact hS
            have f1 : ∀ z : Int, 0 ≤ z.fmod p := fun z => Int.fmod_nonneg_of_pos z p0
            have f2 : ∀ z : Int, z.fmod p < p := fun z => Int.fmod_lt_of_pos z p0
            refine ⟨_, rfl, _, rfl, _, _, rfl, rfl, mulOk_l ⟨by decide, by decide⟩, _, rfl, _, _, rfl, rfl, mulOk_r ⟨by omega, by omega⟩, _, _, rfl, rfl, _, rfl, _, _, rfl, rfl, mulOk_l ⟨by decide, by decide⟩, _, _, rfl, rfl,
              _, rfl, _, _, rfl, rfl, mulOk_l ⟨by decide, by decide⟩, _, _, rfl, rfl, _, _, rfl, rfl, mulOk_r ⟨by omega, by omega⟩, .inl ⟨_, rfl, _, rfl, _, _, rfl, rfl, by omega, ?_⟩⟩
            refine ⟨_, rfl, st, _, _, _, rfl, rfl, .inl (.inl (hS' _)), rfl, _, rfl, _, _, rfl, rfl, mulOk_r ⟨by omega, by omega⟩, _, rfl, _, _, rfl, rfl, ⟨by decide, by decide, ?_⟩, .inl ⟨_, rfl, _, rfl, _, _, rfl, rfl, by omega, _, _, rfl, rfl, _, rfl, st, _, 2, 2, rfl, rfl, hS' _, rfl, ?_⟩⟩
            · have g1 := f1 ((seed + 10007 * (i : Int) * (i : Int) + 101 * (i : Int)) * (48271 + 2 * (i : Int)))
              have g2 := f2 ((seed + 10007 * (i : Int) * (i : Int) + 101 * (i : Int)) * (48271 + 2 * (i : Int)))
              omega
            · refine ⟨_, _, _, _, _, _, rfl, upd_same, ?_, fun b' o e n => ?_⟩
              · rw [upd_ne (ne_of hT hS (by intro z; cases z)), upd_ne (ne_of_none hT nT)]
                exact hT
              · rw [upd_ne n]
                exact same_upd nT b' o (kp b' o e n)
          · rintro σ H2 ⟨kk, pp, ff, l, b, seed, rfl, hS, hT, kp⟩
            exact tail b H2 kp ⟨l, hS⟩
        · exact tail _ _ (fun b o e n => by rw [upd_ne n, upd_ne n, upd_ne n]; exact e) ⟨_, upd_same⟩
    · skip
      -- the place is counted on
      refine ⟨_, rfl, _, _, rfl, rfl, _, rfl, st, _, 1, 1, rfl, rfl, hL, rfl, ?_⟩
      -- is it mixed
      refine ⟨_, rfl, _, rfl, c, _, rfl, .inl (.inl (.inl (hcU _))), _, _, rfl, rfl, _, rfl, ?_⟩
      refine ite2 (fun h1 => ?_) (fun h1 => ?_)
      · refine ⟨_, rfl, st, _, 3, 3, rfl, rfl, upd_same, rfl, ?_⟩
        refine ⟨_, rfl, _, _, rfl, rfl, ⟨by decide, by decide, by decide⟩, _, _, rfl, rfl, _, rfl, st, _, 2, 2, rfl, rfl, upd_same, rfl, ?_⟩
        refine ⟨_, rfl, st, _, _, _, rfl, rfl, .inl (.inl upd_same), rfl, _, rfl, ?_⟩
        refine iteT ?_
        refine ⟨_, rfl, st, _, 2, 2, rfl, rfl, upd_same, rfl, ?_⟩
        refine ⟨(by show 5 ≤ sizeLine; decide), fun t nt => ?_⟩
        refine ⟨t, _, rfl, .inl (.inl upd_same), for_enumT (K := K) (a := t) (xs := [.int 2147483647, .int 2147483629, .int 2147483587, .int 2147483579, .int 2147483563]) (fun i σ H2 => ∃ kk pp ff l b seed, σ = [some (.ref st), some (.ref c), some (.int nth), some (.int seed), kk, pp, ff] ∧ H2 st = some (.lst [.ref c, .int (nth + 1), .int l, .bl b]) ∧
          H2 t = some (.tup [.int 2147483647, .int 2147483629, .int 2147483587, .int 2147483579, .int 2147483563]) ∧ Keep st H H2) ⟨_, _, _, _, _, _, rfl, (upd_ne (ne_of_none upd_same nt)).trans upd_same, upd_same, ?_⟩ (fun i σ H2 _ ⟨_, _, _, _, _, _, _, _, ht, _⟩ => .inl (.inl ht)) ?_ ?_⟩
        · exact fun b o e n => same_upd nt b o (by rw [upd_ne n, upd_ne n, upd_ne n, upd_ne n]; exact e)
        · rintro i x σ H2 T' hx ⟨kk, pp, ff, l, b, seed, rfl, hS, hT, kp⟩ nT
          obtain ⟨p, rfl, p0, p1, i5⟩ := prime_at hx
          refine ⟨T', _, rfl, .inl (.inl upd_same), rfl, _, _, rfl, _, _, rfl, rfl, ?_⟩
          have hS' : ∀ o, (upd H2 T' o) st = some (.lst [.ref c, .int (nth + 1), .int l, .bl b]) := fun o => by rw [upd_ne (ne_of_none hS nT)]; exact hS
          have f1 : ∀ z : Int, 0 ≤ z.fmod p := fun z => Int.fmod_nonneg_of_pos z p0
          have f2 : ∀ z : Int, z.fmod p < p := fun z => Int.fmod_lt_of_pos z p0
          refine ⟨_, rfl, _, rfl, _, _, rfl, rfl, mulOk_l ⟨by decide, by decide⟩, _, rfl, _, _, rfl, rfl, mulOk_r ⟨by omega, by omega⟩, _, _, rfl, rfl, _, rfl, _, _, rfl, rfl, mulOk_l ⟨by decide, by decide⟩, _, _, rfl, rfl,
            _, rfl, _, _, rfl, rfl, mulOk_l ⟨by decide, by decide⟩, _, _, rfl, rfl, _, _, rfl, rfl, mulOk_r ⟨by omega, by omega⟩, .inl ⟨_, rfl, _, rfl, _, _, rfl, rfl, by omega, ?_⟩⟩
          refine ⟨_, rfl, st, _, _, _, rfl, rfl, .inl (.inl (hS' _)), rfl, _, rfl, _, _, rfl, rfl, mulOk_r ⟨by omega, by omega⟩, _, rfl, _, _, rfl, rfl, ⟨by decide, by decide, ?_⟩, .inl ⟨_, rfl, _, rfl, _, _, rfl, rfl, by omega, _, _, rfl, rfl, _, rfl, st, _, 2, 2, rfl, rfl, hS' _, rfl, ?_⟩⟩
          · have g1 := f1 ((seed + 10007 * (i : Int) * (i : Int) + 101 * (i : Int)) * (48271 + 2 * (i : Int)))
            have g2 := f2 ((seed + 10007 * (i : Int) * (i : Int) + 101 * (i : Int)) * (48271 + 2 * (i : Int)))
            omega
          · refine ⟨_, _, _, _, _, _, rfl, upd_same, ?_, fun b' o e n => ?_⟩
            · rw [upd_ne (ne_of hT hS (by intro z; cases z)), upd_ne (ne_of_none hT nT)]
              exact hT
            · rw [upd_ne n]
              exact same_upd nT b' o (kp b' o e n)
        · rintro σ H2 ⟨kk, pp, ff, l, b, seed, rfl, hS, hT, kp⟩
          exact tail b H2 kp ⟨l, hS⟩
      · refine ⟨_, rfl, _, _, rfl, rfl, ⟨by decide, by decide, by decide⟩, _, _, rfl, rfl, _, rfl, st, _, 3, 3, rfl, rfl, upd_same, rfl, ?_⟩
        refine ⟨_, rfl, _, _, rfl, rfl, ⟨by decide, by decide, by decide⟩, _, _, rfl, rfl, _, rfl, st, _, 2, 2, rfl, rfl, upd_same, rfl, ?_⟩
        refine ⟨_, rfl, st, _, _, _, rfl, rfl, .inl (.inl upd_same), rfl, _, rfl, ?_⟩
        refine ite2 (fun h2 => ?_) (fun h2 => ?_)
        · skip
          refine ⟨_, rfl, st, _, 2, 2, rfl, rfl, upd_same, rfl, ?_⟩
          refine ⟨(by show 5 ≤ sizeLine; decide), fun t nt => ?_⟩
          refine ⟨t, _, rfl, .inl (.inl upd_same), for_enumT (K := K) (a := t) (xs := [.int 2147483647, .int 2147483629, .int 2147483587, .int 2147483579, .int 2147483563]) (fun i σ H2 => ∃ kk pp ff l b seed, σ = [some (.ref st), some (.ref c), some (.int nth), some (.int seed), kk, pp, ff] ∧ H2 st = some (.lst [.ref c, .int (nth + 1), .int l, .bl b]) ∧
            H2 t = some (.tup [.int 2147483647, .int 2147483629, .int 2147483587, .int 2147483579, .int 2147483563]) ∧ Keep st H H2) ⟨_, _, _, _, _, _, rfl, (upd_ne (ne_of_none upd_same nt)).trans upd_same, upd_same, ?_⟩ (fun i σ H2 _ ⟨_, _, _, _, _, _, _, _, ht, _⟩ => .inl (.inl ht)) ?_ ?_⟩
          · exact fun b o e n => same_upd nt b o (by rw [upd_ne n, upd_ne n, upd_ne n, upd_ne n]; exact e)
          · rintro i x σ H2 T' hx ⟨kk, pp, ff, l, b, seed, rfl, hS, hT, kp⟩ nT
            obtain ⟨p, rfl, p0, p1, i5⟩ := prime_at hx
            refine ⟨T', _, rfl, .inl (.inl upd_same), rfl, _, _, rfl, _, _, rfl, rfl, ?_⟩
            have hS' : ∀ o, (upd H2 T' o) st = some (.lst [.ref c, .int (nth + 1), .int l, .bl b]) := fun o => by rw [upd_ne (ne_of_none hS nT)]; exact hS
            have f1 : ∀ z : Int, 0 ≤ z.fmod p := fun z => Int.fmod_nonneg_of_pos z p0
            have f2 : ∀ z : Int, z.fmod p < p := fun z => Int.fmod_lt_of_pos z p0
            refine ⟨_, rfl, _, rfl, _, _, rfl, rfl, mulOk_l ⟨by decide, by decide⟩, _, rfl, _, _, rfl, rfl, mulOk_r ⟨by omega, by omega⟩, _, _, rfl, rfl, _, rfl, _, _, rfl, rfl, mulOk_l ⟨by decide, by decide⟩, _, _, rfl, rfl,
              _, rfl, _, _, rfl, rfl, mulOk_l ⟨by decide, by decide⟩, _, _, rfl, rfl, _, _, rfl, rfl, mulOk_r ⟨by omega, by omega⟩, .inl ⟨_, rfl, _, rfl, _, _, rfl, rfl, by omega, ?_⟩⟩
            refine ⟨_, rfl, st, _, _, _, rfl, rfl, .inl (.inl (hS' _)), rfl, _, rfl, _, _, rfl, rfl, mulOk_r ⟨by omega, by omega⟩, _, rfl, _, _, rfl, rfl, ⟨by decide, by decide, ?_⟩, .inl ⟨_, rfl, _, rfl, _, _, rfl, rfl, by omega, _, _, rfl, rfl, _, rfl, st, _, 2, 2, rfl, rfl, hS' _, rfl, ?_⟩⟩
            · have g1 := f1 ((seed + 10007 * (i : Int) * (i : Int) + 101 * (i : Int)) * (48271 + 2 * (i : Int)))
              have g2 := f2 ((seed + 10007 * (i : Int) * (i : Int) + 101 * (i : Int)) * (48271 + 2 * (i : Int)))
              omega
            · refine ⟨_, _, _, _, _, _, rfl, upd_same, ?_, fun b' o e n => ?_⟩
              · rw [upd_ne (ne_of hT hS (by intro z; cases z)), upd_ne (ne_of_none hT nT)]
                exact hT
              · rw [upd_ne n]
                exact same_upd nT b' o (kp b' o e n)
          · rintro σ H2 ⟨kk, pp, ff, l, b, seed, rfl, hS, hT, kp⟩
            exact tail b H2 kp ⟨l, hS⟩
        · exact tail _ _ (fun b o e n => by rw [upd_ne n, upd_ne n, upd_ne n]; exact e) ⟨_, upd_same⟩
def spTake : Sp := fun vs H Q _ => ∃ (st c : Addr) (ns : List Int) (many : Int), vs = [.ref st, .int many] ∧ StAt H st c ns ∧ ns.length ≤ 63 ∧ 0 < many ∧ many.natAbs < 2 ^ 2000 ∧
  ∀ r H', 0 ≤ r → r < many → StAt H' st c ns → Keep st H H' → Q (.int r) H'
theorem ok_law_take (T : Tx K mg) : FnOk P w K mg base CX0 2 T.law_take_a T.law_take_d ["_law_state", "_law_many"] spTake := by
  refine T.law_take_F.ok sc_law_take (fun vs H Q E h => ?_) (fun cdv A outer s H vs Q E hr h => ?_)
  · obtain ⟨st, c, ns, many, rfl, _⟩ := h
    rfl
  · obtain ⟨st, c, ns, many, rfl, hSt, hl, h0, hz, k⟩ := h
    refine ⟨_, (pss_cons (ps_set (i := 2) sc_law_take.nd rfl (Or.inl rfl) pe_int)
  (pss_cons (ps_while PassesOwn.never (PW.pt (pw_and (pt_cmpR op_lt (pv 2) pe_int (nomark _)) (pw_and1 (PW.pt (pw_or (pt_cmpR op_eq (pe_ix ix_list (pv 0) pe_int (fun _ _ => rfl)) pe_int (nomark _)) (pw_or1 (PW.pt (pw_and (pt_val (pe_ix ix_list (pv 0) pe_int (fun _ _ => rfl))) (pw_and1 (pt_cmpR op_lt (pe_ix ix_list (pv 0) pe_int (fun _ _ => rfl)) (pe_op (op_mulG) (pv 1) pe_int) (nomark _)))))))))))
  (pss_cons (ps_expr (pe_call (ok_law_fill T) (hr.mono (by decide)) rfl T.law_fill_m T.law_fill_F.kp T.law_fill_b .nil pass0 (pa_cons (pv 0) pa_nil)))
  (pss_cons (ps_aug (i := 2) sc_law_take.nd rfl (Or.inl rfl) pe_int ip_add)
  (pss_one (ps_if (PW.pt (pw_and (pt_val (pe_ix ix_list (pv 0) pe_int (fun _ _ => rfl))) (pw_and1 (pt_cmpR op_lt (pe_ix ix_list (pv 0) pe_int (fun _ _ => rfl)) (pe_op (op_mulG) (pv 1) pe_int) (nomark _)))))
  (pss_one (ps_asg (pe_op (op_add) (pe_ix ix_list (pv 0) pe_int (fun _ _ => rfl)) (pe_op (op_mulG) (pe_op (op_mulG) (pv 1) pe_int) (pe_op (op_add) pe_int (pe_op (op_modN) (pe_callTy call_int1 (by rfl) T.z_int (by decide +kernel) (pa_cons (pe_ix ix_list (pv 0) pe_int (fun _ _ => rfl)) pa_nil)) pe_int)))) (pg_sub (pv 0) pe_int set_list)))
  pss_nil)))))
  (pss_cons (ps_set (i := 3) sc_law_take.nd rfl (Or.inl rfl) (pe_op (op_modN) (pe_callTy call_int1 (by rfl) T.z_int (by decide +kernel) (pa_cons (pe_ix ix_list (pv 0) pe_int (fun _ _ => rfl)) pa_nil)) (pv 1)))
  (pss_cons (ps_asg (pe_op (op_fdivG) (pe_ix ix_list (pv 0) pe_int (fun _ _ => rfl)) (pv 1)) (pg_sub (pv 0) pe_int set_list))
  (pss_one (ps_ret (pv 3))))))), ?_⟩
    refine while_any (fun m σ H2 => ∃ (l : Int) (d : Option V), σ = [some (.ref st), some (.int many), some (.int l), d] ∧ m = (64 - l).toNat ∧ StAt H2 st c ns ∧ Keep st H H2) ⟨_, 0, none, rfl, rfl, hSt, Keep.refl _ _⟩ ?_ ?_ ?_
    · rintro m σ H2 Q' ⟨l, d, rfl, rfl, ⟨⟨nth, left, mx, hL⟩, hc, hne⟩, kp⟩ hT hF
      refine ⟨_, rfl, _, _, rfl, rfl, _, rfl, ?_⟩
      refine ite2 (fun hlt => ?_) (fun _ => hF)
      have hlt : l < 64 := of_decide_eq_true hlt
      have all : ∀ b, Q' b H2 := fun b => by
        cases b with
        | true => exact hT (by omega)
        | false => exact hF
      refine ⟨_, rfl, st, _, _, _, rfl, rfl, .inl (.inl hL), rfl, rfl, _, rfl, ?_⟩
      refine ite2 (fun _ => all _) (fun _ => ?_)
      refine ⟨_, rfl, st, _, _, _, rfl, rfl, .inl (.inl hL), rfl, _, rfl, ?_⟩
      refine ite2 (fun _ => ?_) (fun _ => all _)
      exact ⟨_, rfl, st, _, _, _, rfl, rfl, .inl (.inl hL), rfl, _, rfl, _, _, rfl, rfl, mulOk_r ⟨by decide, by decide⟩, _, _, rfl, rfl, _, rfl, all _⟩
    · rintro m σ H2 hm ⟨l, d, rfl, rfl, hSt2, kp⟩
      refine ⟨_, rfl, st, c, ns, rfl, hSt2, hl, fun H3 hSt3 kp3 => ?_⟩
      refine ⟨_, rfl, _, _, rfl, rfl, ?_⟩
      obtain ⟨⟨nth, left, mx, hL⟩, hc, hne⟩ := id hSt3
      have fin : ∀ H4, StAt H4 st c ns → Keep st H H4 → ∃ m', m' < (64 - l).toNat ∧ ∃ (l' : Int) (d' : Option V), ([some (.ref st), some (.int many), some (.int (l + 1)), d] : L2.St) = [some (.ref st), some (.int many), some (.int l'), d'] ∧ m' = (64 - l').toNat ∧ StAt H4 st c ns ∧ Keep st H H4 :=
        fun H4 a b => ⟨_, by omega, l + 1, d, rfl, rfl, a, b⟩
      have kp13 := kp.trans kp3
      refine ⟨_, rfl, st, _, _, _, rfl, rfl, .inl (.inl hL), rfl, _, rfl, ?_⟩
      refine ite2 (fun _ => ?_) (fun _ => iteF (fin H3 hSt3 kp13))
      refine ⟨_, rfl, st, _, _, _, rfl, rfl, .inl (.inl hL), rfl, _, rfl, _, _, rfl, rfl, mulOk_r ⟨by decide, by decide⟩, _, _, rfl, rfl, _, rfl, ?_⟩
      refine ite2 (fun _ => ?_) (fun _ => fin H3 hSt3 kp13)
      have g1 := Int.fmod_nonneg_of_pos left (b := 4093) (by decide)
      have g2 := Int.fmod_lt_of_pos left (b := 4093) (by decide)
      refine ⟨_, rfl, st, _, _, _, rfl, rfl, .inl (.inl hL), rfl, _, rfl, _, _, rfl, rfl, mulOk_r ⟨by decide, by decide⟩, _, rfl, st, _, _, _, rfl, rfl, .inl (.inl hL), rfl, .inl ⟨_, rfl, _, _, rfl, rfl, (by show (4093 : Int) ≠ 0; decide), _, _, rfl, rfl, _, _, rfl, rfl, mulOk_r ⟨by omega, by omega⟩,
        _, _, rfl, rfl, _, rfl, st, _, 2, 2, rfl, rfl, hL, rfl, ?_⟩⟩
      exact fin _ hSt3.upd (kp13.trans keep_upd)
    · rintro m σ H2 ⟨l, d, rfl, rfl, hSt2, kp⟩
      obtain ⟨⟨nth, left, mx, hL⟩, hc, hne⟩ := id hSt2
      refine ⟨_, rfl, st, _, _, _, rfl, rfl, .inl (.inl hL), rfl, .inl ⟨_, rfl, _, rfl, _, _, rfl, rfl, by omega, ?_⟩⟩
      refine ⟨_, rfl, st, _, _, _, rfl, rfl, .inl (.inl hL), rfl, _, rfl, _, _, rfl, rfl, gDiv_lt (by omega) hz (by decide) (by decide), _, rfl, st, _, 2, 2, rfl, rfl, hL, rfl, ?_⟩
      exact ⟨_, rfl, k _ _ (Int.fmod_nonneg_of_pos _ h0) (Int.fmod_lt_of_pos _ h0) hSt2.upd (kp.trans keep_upd)⟩
def spOne : Sp := fun vs H Q _ => ∃ (st c t : Addr) (ns : List Int) (xs : List V), vs = [.ref st, .ref t] ∧ StAt H st c ns ∧ ns.length ≤ 63 ∧ H t = some (.lst xs) ∧ t ≠ st ∧ xs ≠ [] ∧ xs.length ≤ 1000 ∧
  ∀ v H', v ∈ xs → StAt H' st c ns → Keep st H H' → Q v H'
theorem ok_law_one (T : Tx K mg) : FnOk P w K mg base CX0 3 T.law_one_a T.law_one_d ["_law_state", "_law_things"] spOne := by
  refine T.law_one_F.ok sc_law_one (fun vs H Q E h => ?_) (fun cdv A outer s H vs Q E hr h => ?_)
  · obtain ⟨st, c, t, ns, xs, rfl, _⟩ := h
    rfl
  · obtain ⟨st, c, t, ns, xs, rfl, hSt, hl, ht, hne, hx, hz, k⟩ := h
    refine ⟨_, (pss_one (ps_ret (pe_ix ix_list (pv 1) (pe_call (ok_law_take T) (hr.mono (by decide)) rfl T.law_take_m T.law_take_F.kp T.law_take_b .nil pass0 (pa_cons (pv 0) (pa_cons (pe_callB (call_len_seq) (by rfl) T.z_len (by decide +kernel) (pa_cons (pv 1) pa_nil)) pa_nil))) (fun _ _ => rfl)))), ?_⟩
    have h0 : 0 < xs.length := List.length_pos_iff.mpr hx
    have p10 : (1000 : Nat) < 2 ^ 2000 := Nat.lt_of_lt_of_le (by decide : 1000 < 2 ^ 10) (Nat.pow_le_pow_right (by decide) (by decide))
    refine ⟨_, rfl, _, rfl, _, rfl, t, xs, rfl, .inl (.inl (.inl ht)), st, c, ns, (xs.length : Int), rfl, hSt, hl, by omega, by omega, fun r H1 r0 r1 s1 k1 => ?_⟩
    obtain ⟨j, rfl⟩ : ∃ j : Nat, r = (j : Int) := ⟨_, (Int.toNat_of_nonneg r0).symm⟩
    have hj : j < xs.length := by omega
    exact ⟨t, xs, j, xs[j], rfl, rfl, .inl (.inl (k1 t _ ht hne)), atI_nat (List.getElem?_eq_getElem hj), k _ H1 (List.getElem_mem hj) s1 k1⟩

end


section
variable {P : Program} {w : World} {K : PySem.W.Frag} {mg : Str → Option Value} {base : Heap}
/-! ### the law's own fractions -/
/-- a pair of ints stands at t -/
def PairAt (H : Hp) (t : Addr) (p : Int × Int) : Prop := H t = some (.tup [.int p.1, .int p.2])
theorem PairAt.same {H H' : Hp} {t : Addr} {p : Int × Int} (h : PairAt H t p) (e : Same H H') : PairAt H' t p := e _ _ h
theorem PairAt.keep {H H' : Hp} {t st c : Addr} {p : Int × Int} {ns : List Int} (h : PairAt H t p) (e : Keep st H H') (hs : StAt H st c ns) : PairAt H' t p :=
  e _ _ h (let ⟨_, _, _, z⟩ := hs.1; ne_of h z (by intro z; cases z))
theorem ExAt.keep {C : Addr} {H H' : Hp} {v : V} {st c : Addr} {p : Int × Int} {ns : List Int} (h : ExAt C H v p) (e : Keep st H H') (hs : StAt H st c ns) : ExAt C H' v p :=
  let ⟨a, dx, r, y⟩ := h; ⟨a, dx, r, e _ _ y (let ⟨_, _, _, z⟩ := hs.1; ne_of y z (by intro z; cases z))⟩
theorem NumAt.keep {C : Addr} {H H' : Hp} {v : V} {st c : Addr} {p : Int × Int} {ns : List Int} (h : NumAt C H v p) (e : Keep st H H') (hs : StAt H st c ns) : NumAt C H' v p := h.elim .inl fun z => .inr (z.keep e hs)
def spGcd : Sp := fun vs H Q _ => ∃ a b : Int, vs = [.int a, .int b] ∧ Q (.int (Int.gcd a b)) H
theorem ok_law_gcd (T : Tx K mg) : FnOk P w K mg base CX0 1 T.law_gcd_a T.law_gcd_d ["_law_a", "_law_b"] spGcd := by
  refine T.law_gcd_F.ok sc_law_gcd (fun vs H Q E h => ?_) (fun cdv A outer s H vs Q E hr h => ?_)
  · obtain ⟨a, b, rfl, _⟩ := h
    rfl
  · obtain ⟨a, b, rfl, k⟩ := h
    refine ⟨_, (pss_cons (ps_while PassesOwn.never (pt_cmpR op_ne (pv 1) pe_int (nomark _))
  (pss_one (ps_par (i := 0) (j := 1) (by rfl) sc_law_gcd.nd rfl rfl (by decide) rfl rfl (pa_cons (pv 1) (pa_cons (pe_op (op_modN) (pv 0) (pv 1)) pa_nil)) (by rfl))))
  (pss_one (ps_ret (pe_ifExp (pt_cmpR op_gt (pv 0) pe_int (nomark _)) (pv 0) (pe_un (un_neg) (pv 0)))))), ?_⟩
    refine ⟨fun m σ H' => ∃ x y : Int, σ = [some (.int x), some (.int y)] ∧ Int.gcd x y = Int.gcd a b ∧ m = y.natAbs ∧ H' = H, ⟨_, a, b, rfl, rfl, rfl, rfl⟩, ?_⟩
    rintro m σ H' ⟨x, y, rfl, hg, rfl, rfl⟩
    refine ⟨_, rfl, rfl, _, rfl, ?_⟩
    by_cases h0 : y = 0
    · subst h0
      refine iteF ?_
      have e : (Int.gcd a b : Int) = (x.natAbs : Int) := by rw [← hg, Int.gcd_zero_right]
      refine ⟨_, rfl, _, _, rfl, rfl, _, rfl, ?_⟩
      rw [e] at k
      refine ite2 (fun hp => ?_) (fun hp => ?_)
      · have hp : (0 : Int) < x := of_decide_eq_true hp
        refine ⟨_, rfl, ?_⟩
        rw [show (x.natAbs : Int) = x by omega] at k
        exact k
      · have hp : ¬ (0 : Int) < x := fun z => hp (decide_eq_true z)
        refine ⟨_, rfl, _, rfl, ?_⟩
        rw [show (x.natAbs : Int) = -x by omega] at k
        exact k
    · rw [show (!decide (V.int y = V.int 0)) = true by simp [h0]]
      refine iteT ?_
      refine ⟨_, fun σ' H' z => z, ?_⟩
      refine ⟨_, rfl, _, rfl, _, rfl, _, _, rfl, rfl, h0, _, _, rfl, ?_⟩
      exact ⟨_, fmod_lt h0, y, x.fmod y, rfl, (gcd_step x y).trans hg, rfl, rfl⟩
def spFrac : Sp := fun vs H Q _ => ∃ a b : Int, vs = [.int a, .int b] ∧ b ≠ 0 ∧ b.natAbs < 2 ^ 8000 ∧ ∀ t H', Same H H' → PairAt H' t (red a b) → Q (.ref t) H'
theorem ok_law_frac (T : Tx K mg) : FnOk P w K mg base CX0 2 T.law_frac_a T.law_frac_d ["_law_over", "_law_under"] spFrac := by
  refine T.law_frac_F.ok sc_law_frac (fun vs H Q E h => ?_) (fun cdv A outer s H vs Q E hr h => ?_)
  · obtain ⟨a, b, rfl, _⟩ := h
    rfl
  · obtain ⟨a, b, rfl, h0, hz, k⟩ := h
    refine ⟨_, (pss_cons (ps_set (i := 2) sc_law_frac.nd rfl (Or.inl rfl) (pe_call (ok_law_gcd T) (hr.mono (by decide)) rfl T.law_gcd_m T.law_gcd_F.kp T.law_gcd_b .nil pass0 (pa_cons (pv 0) (pa_cons (pv 1) pa_nil))))
  (pss_cons (ps_set (i := 2) sc_law_frac.nd rfl (Or.inl rfl) (pe_ifExp (pt_cmpR op_lt (pv 1) pe_int (nomark _)) (pe_un (un_neg) (pv 2)) (pv 2)))
  (pss_one (ps_ret (pe_tup (pa_cons (pe_op (op_fdivG) (pv 0) (pv 2)) (pa_cons (pe_op (op_fdivG) (pv 1) (pv 2)) pa_nil))))))), ?_⟩
    refine ⟨_, rfl, _, rfl, a, b, rfl, ?_⟩
    have gd : ∀ i, GDiv i (red_w a b) := fun i => gDiv_lt (red_w_ne h0) (red_w_sz h0 hz) (by decide) (by decide)
    refine ⟨_, rfl, _, _, rfl, rfl, _, rfl, ?_⟩
    refine ite2 (fun hn => ?_) (fun hn => ?_)
    · have hn : b < 0 := of_decide_eq_true hn
      have e : -(Int.gcd a b : Int) = red_w a b := by unfold red_w; rw [if_pos hn]
      refine ⟨_, rfl, _, rfl, ?_⟩
      refine ⟨_, rfl, _, rfl, _, _, rfl, rfl, e ▸ gd _, _, rfl, _, rfl, _, _, rfl, rfl, e ▸ gd _, (by show 2 ≤ sizeLine; decide), fun t nt => ?_⟩
      refine k t _ (same_upd nt) ?_
      show (upd _ _ _) _ = _
      rw [upd_same]
      show some (HO.tup [V.int (a.fdiv (-(Int.gcd a b : Int))), V.int (b.fdiv (-(Int.gcd a b : Int)))]) = _
      rw [e]
      rfl
    · have hn : ¬ b < 0 := fun z => hn (decide_eq_true z)
      have e : (Int.gcd a b : Int) = red_w a b := by unfold red_w; rw [if_neg hn]
      refine ⟨_, rfl, ?_⟩
      refine ⟨_, rfl, _, rfl, _, _, rfl, rfl, e ▸ gd _, _, rfl, _, rfl, _, _, rfl, rfl, e ▸ gd _, (by show 2 ≤ sizeLine; decide), fun t nt => ?_⟩
      refine k t _ (same_upd nt) ?_
      show (upd _ _ _) _ = _
      rw [upd_same]
      show some (HO.tup [V.int (a.fdiv (Int.gcd a b : Int)), V.int (b.fdiv (Int.gcd a b : Int))]) = _
      rw [e]
      rfl
/-- two pairs: the reduced one of f -/
def spPairs (f : Int × Int → Int × Int → Int × Int) : Sp := fun vs H Q _ => ∃ t1 t2 a b, vs = [.ref t1, .ref t2] ∧ PairAt H t1 a ∧ PairAt H t2 b ∧ a.1.natAbs < 2 ^ 1000 ∧ a.2.natAbs < 2 ^ 1000 ∧ b.1.natAbs < 2 ^ 1000 ∧ b.2.natAbs < 2 ^ 1000 ∧ (f a b).2 ≠ 0 ∧
  ∀ t H', Same H H' → PairAt H' t (red (f a b).1 (f a b).2) → Q (.ref t) H'
theorem spPairs_len {f : Int × Int → Int × Int → Int × Int} {vs : List V} {H : Hp} {Q : VK} {E : XK} (h : spPairs f vs H Q E) : vs.length = 2 := by
  obtain ⟨v, u, a, b, rfl, _⟩ := h
  rfl
theorem ok_law_add (T : Tx K mg) : FnOk P w K mg base CX0 3 T.law_add_a T.law_add_d ["_law_a", "_law_b"] (spPairs fAdd) := by
  refine T.law_add_F.ok sc_law_add (fun vs H Q E h => spPairs_len h) (fun cdv A outer s H vs Q E hr h => ?_)
  obtain ⟨t1, t2, a, b, rfl, h1, h2, z1, z2, z3, z4, h0, k⟩ := h
  refine ⟨_, (pss_one (ps_ret (pe_call (ok_law_frac T) (hr.mono (by decide)) rfl T.law_frac_m T.law_frac_F.kp T.law_frac_b .nil pass0 (pa_cons (pe_op (op_add) (pe_op (op_mulG) (pe_ix ix_tup (pv 0) pe_int (fun _ _ => rfl)) (pe_ix ix_tup (pv 1) pe_int (fun _ _ => rfl))) (pe_op (op_mulG) (pe_ix ix_tup (pv 1) pe_int (fun _ _ => rfl)) (pe_ix ix_tup (pv 0) pe_int (fun _ _ => rfl)))) (pa_cons (pe_op (op_mulG) (pe_ix ix_tup (pv 0) pe_int (fun _ _ => rfl)) (pe_ix ix_tup (pv 1) pe_int (fun _ _ => rfl))) pa_nil))))), ?_⟩
  refine ⟨_, rfl, t1, _, _, _, rfl, rfl, .inl (.inl h1), rfl, _, rfl, t2, _, _, _, rfl, rfl, .inl (.inl h2), rfl, _, _, rfl, rfl, ok1000 z1 z4, _, rfl, t2, _, _, _, rfl, rfl, .inl (.inl h2), rfl, _, rfl, t1, _, _, _, rfl, rfl, .inl (.inl h1), rfl, _, _, rfl, rfl, ok1000 z3 z2, _, _, rfl, rfl, _, rfl, t1, _, _, _, rfl, rfl, .inl (.inl h1), rfl, _, rfl, t2, _, _, _, rfl, rfl, .inl (.inl h2), rfl, _, _, rfl, rfl, ok1000 z2 z4, _, _, rfl, h0, sz_up (sz_mul z2 z4) (by decide), k⟩
/-- sizes that drawn fractions keep -/
def Dn (p : Int × Int) : Prop := 0 < p.2 ∧ p.1.natAbs < 2 ^ 130 ∧ p.2.natAbs < 2 ^ 50
theorem Dn.nm {p : Int × Int} (h : Dn p) : Nm p := ⟨h.1, sz_up h.2.1 (by decide), sz_up h.2.2 (by decide)⟩
def spAsNumber (C : Addr) : Sp := fun vs H Q _ => ∃ (st c t : Addr) (ns : List Int) (p : Int × Int), vs = [.ref st, .ref t] ∧ StAt H st c ns ∧ ns.length ≤ 63 ∧ PairAt H t p ∧ Rd p ∧ Nm p ∧ ∀ v H', StAt H' st c ns → Keep st H H' → NumAt C H' v p → Q v H'
theorem p_small : (3 : Int).natAbs < 2 ^ 2000 := Nat.lt_of_lt_of_le (by decide : 3 < 2 ^ 10) (Nat.pow_le_pow_right (by decide) (by decide))
theorem ok_law_as_number (T : Tx K mg) : FnOk P w K mg base CX0 5 T.law_as_number_a T.law_as_number_d ["_law_state", "_law_a"] (spAsNumber T.Exact_a) := by
  refine T.law_as_number_F.ok sc_law_as_number (fun vs H Q E h => ?_) (fun cdv A outer s H vs Q E hr h => ?_)
  · obtain ⟨st, c, t, ns, p, rfl, _⟩ := h
    rfl
  · obtain ⟨st, c, t2, ns, p, rfl, hSt, hl, h2, rd, nm, k⟩ := h
    refine ⟨_, (pss_cons (ps_if (PW.pt (pw_and (pt_cmpR op_eq (pe_ix ix_tup (pv 1) pe_int (fun _ _ => rfl)) pe_int (nomark _)) (pw_and1 (pt_cmpR op_gt (pe_call (ok_law_take T) (hr.mono (by decide)) rfl T.law_take_m T.law_take_F.kp T.law_take_b .nil pass0 (pa_cons (pv 0) (pa_cons pe_int pa_nil))) pe_int (nomark _)))))
  (pss_one (ps_ret (pe_ix ix_tup (pv 1) pe_int (fun _ _ => rfl))))
  pss_nil)
  (pss_cons (ps_set (i := 2) sc_law_as_number.nd rfl (Or.inl rfl) (pe_op (op_add) pe_int (pe_call (ok_law_take T) (hr.mono (by decide)) rfl T.law_take_m T.law_take_F.kp T.law_take_b .nil pass0 (pa_cons (pv 0) (pa_cons pe_int pa_nil)))))
  (pss_one (ps_ret (pe_make T.Exact_mk (ok_Exact_init T) (hr.mono (by decide)) rfl T.Exact_m T.Exact_init_b .nil pass0 (pa_cons (pe_op (op_mulG) (pe_ix ix_tup (pv 1) pe_int (fun _ _ => rfl)) (pv 2)) (pa_cons (pe_op (op_mulG) (pe_ix ix_tup (pv 1) pe_int (fun _ _ => rfl)) (pv 2)) pa_nil))))))), ?_⟩
    -- the second way, from any heap that is behind
    have go : ∀ H1, StAt H1 st c ns → Keep st H H1 → tSeq (tAsg (tOp (rI0 fun i j => .int (i + j)) (tC (.int 1)) (tCall spTake [] E0 (tCons (tVar 0) (tCons (tC (.int 3)) tNil)))) (gName 2))
        (tRet (tMake T.Exact_a (spExInit T.Exact_a) [] E0 (tCons (tOp (rI IntMulOk fun i j => .int (i * j)) (tOp (rIxT K) (tVar 1) (tC (.int 0))) (tVar 2)) (tCons (tOp (rI IntMulOk fun i j => .int (i * j)) (tOp (rIxT K) (tVar 1) (tC (.int 1))) (tVar 2)) tNil))))
        { nx := fun _ H' => Q .non H', rt := Q } [some (.ref st), some (.ref t2), none] H1 := by
      intro H1 s1 k1
      refine ⟨_, rfl, st, c, ns, 3, rfl, s1, hl, by decide, p_small, fun r H2 r0 r1 s2 k2 => ⟨_, _, rfl, rfl, ?_⟩⟩
      have h2 := (h2.keep k1 hSt).keep k2 s1
      have f0 : (1 : Int) + r ≠ 0 := by omega
      have fz : ((1 : Int) + r).natAbs < 2 ^ 1000 := Nat.lt_of_lt_of_le (by omega : ((1 : Int) + r).natAbs < 2 ^ 2) (Nat.pow_le_pow_right (by decide) (by decide))
      refine ⟨_, rfl, t2, _, _, _, rfl, rfl, .inl (.inl h2), rfl, _, rfl, _, _, rfl, rfl, ok1000 nm.2.1 fz, _, rfl, t2, _, _, _, rfl, rfl, .inl (.inl h2), rfl, _, rfl, _, _, rfl, rfl, ok1000 nm.2.2 fz, ?_⟩
      refine mk_ex (Int.mul_ne_zero (Int.ne_of_gt nm.1) f0) (sz_up (sz_mul nm.2.2 fz) (by decide)) fun v H3 s3 h3 => ?_
      rw [red_scale rd f0] at h3
      exact k v H3 (s2.same s3) ((k1.trans k2).trans (Same.keep s3)) (.inr h3)
    refine ⟨_, rfl, t2, _, _, _, rfl, rfl, .inl (.inl h2), rfl, rfl, _, rfl, ?_⟩
    by_cases e1 : p.2 = 1
    · rw [show decide (V.int p.2 = V.int 1) = true by simp [e1]]
      refine iteT ?_
      refine ⟨_, rfl, st, c, ns, 3, rfl, hSt, hl, by decide, p_small, fun r H2 r0 r1 s2 k2 => ⟨_, _, rfl, rfl, _, rfl, ?_⟩⟩
      have h2 := h2.keep k2 hSt
      refine ite2 (fun _ => ?_) (fun _ => go H2 s2 k2)
      exact ⟨_, rfl, t2, _, _, _, rfl, rfl, .inl (.inl h2), rfl, k _ H2 s2 k2 (.inl ⟨rfl, e1⟩)⟩
    · rw [show decide (V.int p.2 = V.int 1) = false by simp [e1]]
      exact iteF (iteF (go H hSt (Keep.refl _ _)))

end


section
variable {P : Program} {w : World} {K : PySem.W.Frag} {mg : Str → Option Value} {base : Heap}
/-! ### drawn fractions; an Exact as a pair -/
theorem pow38 : (10 : Int) ^ Int.toNat 38 = 100000000000000000000000000000000000000 := by decide +kernel
theorem pow12 : (10 : Int) ^ Int.toNat 12 = 1000000000000 := by decide +kernel
theorem big_lt {x : Int} {m : Nat} (h : x.natAbs < 2 ^ 200) (hm : 200 ≤ m := by decide) : x.natAbs < 2 ^ m := sz_up h hm
def spSomeFrac : Sp := fun vs H Q _ => ∃ (st c : Addr) (ns : List Int), vs = [.ref st] ∧ StAt H st c ns ∧ ns.length ≤ 63 ∧ ∀ t p H', StAt H' st c ns → Keep st H H' → PairAt H' t p → Rd p → Dn p → Q (.ref t) H'
theorem tops_at {v : V} (h : v ∈ ([.int 4, .int 12, .int 1000, .int ((10 : Int) ^ Int.toNat 12), .int ((10 : Int) ^ Int.toNat 38)] : List V)) : ∃ n : Int, v = .int n ∧ 0 < n ∧ n.natAbs < 2 ^ 128 := by
  rw [pow12, pow38] at h
  simp only [List.mem_cons, List.not_mem_nil, or_false] at h
  rcases h with h | h | h | h | h <;> exact ⟨_, h, by decide, by decide⟩
theorem bots_at {v : V} (h : v ∈ ([.int 1, .int 2, .int 6, .int 1000, .int ((10 : Int) ^ Int.toNat 12)] : List V)) : ∃ n : Int, v = .int n ∧ 0 < n ∧ n.natAbs < 2 ^ 41 := by
  rw [pow12] at h
  simp only [List.mem_cons, List.not_mem_nil, or_false] at h
  rcases h with h | h | h | h | h <;> exact ⟨_, h, by decide, by decide⟩
theorem ok_law_some_frac (T : Tx K mg) : FnOk P w K mg base CX0 4 T.law_some_frac_a T.law_some_frac_d ["_law_state"] spSomeFrac := by
  refine T.law_some_frac_F.ok sc_law_some_frac (fun vs H Q E h => ?_) (fun cdv A outer s H vs Q E hr h => ?_)
  · obtain ⟨st, c, ns, rfl, _⟩ := h
    rfl
  · obtain ⟨st, c, ns, rfl, hSt, hl, k⟩ := h
    refine ⟨_, (pss_cons (ps_set (i := 1) sc_law_some_frac.nd rfl (Or.inl rfl) (pe_call (ok_law_one T) (hr.mono (by decide)) rfl T.law_one_m T.law_one_F.kp T.law_one_b .nil pass0 (pa_cons (pv 0) (pa_cons (pe_lst (pa_cons pe_int (pa_cons pe_int (pa_cons pe_int (pa_cons (pe_op (op_pow) pe_int pe_int) (pa_cons (pe_op (op_pow) pe_int pe_int) pa_nil)))))) pa_nil))))
  (pss_one (ps_ret (pe_call (ok_law_frac T) (hr.mono (by decide)) rfl T.law_frac_m T.law_frac_F.kp T.law_frac_b .nil pass0 (pa_cons (pe_op (op_sub) (pe_call (ok_law_take T) (hr.mono (by decide)) rfl T.law_take_m T.law_take_F.kp T.law_take_b .nil pass0 (pa_cons (pv 0) (pa_cons (pe_op (op_mulG) pe_int (pv 1)) pa_nil))) (pv 1)) (pa_cons (pe_op (op_add) pe_int (pe_call (ok_law_take T) (hr.mono (by decide)) rfl T.law_take_m T.law_take_F.kp T.law_take_b .nil pass0 (pa_cons (pv 0) (pa_cons (pe_call (ok_law_one T) (hr.mono (by decide)) rfl T.law_one_m T.law_one_F.kp T.law_one_b .nil pass0 (pa_cons (pv 0) (pa_cons (pe_lst (pa_cons pe_int (pa_cons pe_int (pa_cons pe_int (pa_cons pe_int (pa_cons (pe_op (op_pow) pe_int pe_int) pa_nil)))))) pa_nil))) pa_nil)))) pa_nil)))))), ?_⟩
    have hp : CPow 10 12 := ⟨by decide, by decide, by decide⟩
    have hp2 : CPow 10 38 := ⟨by decide, by decide, by decide⟩
    refine ⟨_, rfl, _, _, rfl, rfl, hp, _, _, rfl, rfl, hp2, (by show 5 ≤ sizeLine; decide), fun l nl => ?_⟩
    obtain ⟨_, _, _, hL⟩ := id hSt.1
    refine ⟨st, c, l, ns, _, rfl, hSt.same (same_upd nl), hl, upd_same, (ne_of_none hL nl).symm, List.cons_ne_nil _ _, by show 5 ≤ 1000; decide, fun v H1 hv s1 k1 => ?_⟩
    obtain ⟨top, rfl, p0, pz⟩ := tops_at hv
    have k1 : Keep st H H1 := Keep.trans (Same.keep (same_upd nl)) k1
    have z2 : (2 * top).natAbs < 2 ^ 129 := by omega
    refine ⟨_, rfl, _, rfl, _, _, rfl, rfl, mulOk_l ⟨by decide, by decide⟩, st, c, ns, 2 * top, rfl, s1, hl, by omega, sz_up z2 (by decide), fun r H2 r0 r1 s2 k2 => ?_⟩
    refine ⟨_, rfl, _, _, rfl, rfl, _, rfl, _, rfl, _, _, rfl, rfl, hp, (by show 5 ≤ sizeLine; decide), fun l2 nl2 => ?_⟩
    obtain ⟨_, _, _, hL2⟩ := id s2.1
    refine ⟨st, c, l2, ns, _, rfl, s2.same (same_upd nl2), hl, upd_same, (ne_of_none hL2 nl2).symm, List.cons_ne_nil _ _, by show 5 ≤ 1000; decide, fun v H3 hv s3 k3 => ?_⟩
    obtain ⟨bot, rfl, b0, bz⟩ := bots_at hv
    have k3 : Keep st H2 H3 := Keep.trans (Same.keep (same_upd nl2)) k3
    refine ⟨st, c, ns, bot, rfl, s3, hl, b0, sz_up bz (by decide), fun r' H4 r0' r1' s4 k4 => ?_⟩
    have e0 : (1 : Int) + r' ≠ 0 := by omega
    have ez : ((1 : Int) + r').natAbs < 2 ^ 42 := by omega
    refine ⟨_, _, rfl, rfl, r - top, 1 + r', rfl, e0, sz_up ez (by decide), fun t H5 s5 h5 => ?_⟩
    have az : (r - top).natAbs < 2 ^ 129 := by omega
    have rs := red_sz e0 az ez
    have rr := red_rd (a := r - top) e0
    exact k t _ H5 (s4.same s5) ((((k1.trans k2).trans k3).trans k4).trans (Same.keep s5)) h5 rr ⟨rr.1, sz_up rs.1 (by decide), sz_up rs.2 (by decide)⟩

end


/-! ### pairs as data; what the operators give, told by both kinds of operands -/
def dp (p : Int × Int) : PyData := .tuple [.int p.1, .int p.2]
theorem dpPair {K : PySem.W.Frag} {H : Hp} {t : Addr} {p : Int × Int} (h : PairAt H t p) : Dp K H (.ref t) (dp p) := .tup (.inl (.inl h)) (.cons (.int _) (.cons (.int _) .nil))
theorem dp_shaped (p : Int × Int) : SeqAt.shaped (dp p) = true := rfl
theorem eqv_self {d : PyData} (h : SeqAt.shaped d = true) : PyData.eqv d d = true := SeqAt.eqv_refl d (SeqAt.canLay_of_shaped h)
theorem sqT_same {K : PySem.W.Frag} {H H' : Hp} {a : Addr} {xs : List V} (e : Same H H') (h : SqT K H a xs) : SqT K H' a xs := by
  rcases h with (h | ⟨o, h⟩) | h
  · exact .inl (.inl (e _ _ h))
  · exact .inl (.inr ⟨o, e _ _ h⟩)
  · exact .inr h
mutual
theorem dp_same {K : PySem.W.Frag} {H H' : Hp} (e : Same H H') : ∀ {v : V} {d : PyData}, Dp K H v d → Dp K H' v d
  | _, _, .non => .non
  | _, _, .bl b => .bl b
  | _, _, .int i => .int i
  | _, _, .str s => .str s
  | _, _, .lst h d => .lst (e.seq h) (dpAll_same e d)
  | _, _, .tup h d => .tup (sqT_same e h) (dpAll_same e d)
theorem dpAll_same {K : PySem.W.Frag} {H H' : Hp} (e : Same H H') : ∀ {vs : List V} {ds : List PyData}, DpAll K H vs ds → DpAll K H' vs ds
  | _, _, .nil => .nil
  | _, _, .cons h t => .cons (dp_same e h) (dpAll_same e t)
end
theorem dpAll_snoc {K : PySem.W.Frag} {H : Hp} : ∀ {vs : List V} {ds : List PyData} {v : V} {d : PyData}, DpAll K H vs ds → Dp K H v d → DpAll K H (vs ++ [v]) (ds ++ [d])
  | _, _, _, _, .nil, h => .cons h .nil
  | _, _, _, _, .cons a t, h => .cons a (dpAll_snoc t h)
theorem dpAll_len {K : PySem.W.Frag} {H : Hp} : ∀ {vs : List V} {ds : List PyData}, DpAll K H vs ds → vs.length = ds.length
  | _, _, .nil => rfl
  | _, _, .cons _ t => congrArg (· + 1) (dpAll_len t)

/-! ### comparisons of Exacts -/
section
variable {P : Program} {w : World} {K : PySem.W.Frag} {mg : Str → Option Value} {base : Heap}
def spIsNumber (K : PySem.W.Frag) (C : Addr) : Sp := fun vs H Q _ => ∃ v, vs = [v] ∧ ((∃ p, NumAt C H v p) ∧ Q (.bl true) H ∨ NoNum K C H v ∧ Q (.bl false) H)
theorem ok_is_number (T : Tx K mg) : FnOk P w K mg base CX0 2 T.is_number_a T.is_number_d ["thing"] (spIsNumber K T.Exact_a) := by
  refine T.is_number_F.ok sc_is_number (fun vs H Q E h => ?_) (fun cdv A outer s H vs Q E hr h => ?_)
  · obtain ⟨v, rfl, _⟩ := h
    rfl
  · obtain ⟨v, rfl, h⟩ := h
    refine ⟨_, (pss_one (ps_ret (pe_or (pe_call (ok_is_whole T) (hr.mono (by decide)) rfl T.is_whole_m T.is_whole_F.kp T.is_whole_b .nil pass0 (pa_cons (pv 0) pa_nil)) (pe_one (pe_callB call_isi (by rfl) T.z_isinstance (by decide +kernel) (pa_cons (pv 0) (pa_cons (pe_glob (v := .ref T.Exact_a) rfl T.Exact_m rfl) pa_nil))))))), ?_⟩
    rcases h with ⟨⟨p, hp⟩, k⟩ | ⟨nn, k⟩
    · rcases hp.cases with ⟨rfl, _⟩ | ⟨x, dx, rfl, hx⟩
      · refine ⟨_, rfl, _, rfl, .inl ⟨⟨_, rfl⟩, true, rfl, ?_⟩⟩
        exact iteT k
      · refine ⟨_, rfl, _, rfl, .inr (.inl ⟨⟨p, x, dx, rfl, hx⟩, false, rfl, ?_⟩)⟩
        refine iteF ?_
        exact ⟨_, rfl, _, _, _, _, true, rfl, .own _, .base (.ins hx T.Exact_cl T.Exact_i1 T.Exact_i2 T.Exact_i3 T.Exact_i4), T.Exact_k0, k⟩
    · refine ⟨_, rfl, _, rfl, .inr (.inr ⟨nn, false, rfl, ?_⟩)⟩
      refine iteF ?_
      obtain ⟨t, b, ty, _, _, kC⟩ := nn
      exact ⟨_, rfl, _, _, _, _, false, rfl, .own _, ty, kC, k⟩
def spExEq (K : PySem.W.Frag) (C : Addr) : Sp := fun vs H Q _ => ∃ v u a, vs = [v, u] ∧ ExAt C H v a ∧ ((∃ b, NumAt C H u b ∧ ∀ H', Same H H' → Q (.bl (decide (a = b))) H') ∨ NoNum K C H u ∧ Q (.bl false) H)
theorem dp_eqv (a b : Int × Int) : PyData.eqv (dp a) (dp b) = decide (b = a) := by
  show (a.1 == b.1 && (a.2 == b.2 && true)) = decide (b = a)
  obtain ⟨a1, a2⟩ := a
  obtain ⟨b1, b2⟩ := b
  show (a1 == b1 && (a2 == b2 && true)) = decide ((b1, b2) = (a1, a2))
  rw [Bool.and_true]
  by_cases h1 : a1 = b1
  · by_cases h2 : a2 = b2
    · rw [decide_eq_true (Prod.ext h1.symm h2.symm), beq_iff_eq.mpr h1, beq_iff_eq.mpr h2]
      rfl
    · rw [decide_eq_false (fun q => h2 (Prod.mk.inj q).2.symm), beq_eq_false_iff_ne.mpr h2, Bool.and_false]
  · rw [decide_eq_false (fun q => h1 (Prod.mk.inj q).1.symm), beq_eq_false_iff_ne.mpr h1, Bool.false_and]
theorem ok_Exact_eq (T : Tx K mg) : FnOk P w K mg base CX0 6 T.Exact_eq_a T.Exact_eq_d ["self", "other"] (spExEq K T.Exact_a) := by
  refine T.Exact_eq_F.ok sc_Exact_eq (fun vs H Q E h => ?_) (fun cdv A outer s H vs Q E hr h => ?_)
  · obtain ⟨v, u, a, rfl, _⟩ := h
    rfl
  · obtain ⟨v, u, a, rfl, hv, h⟩ := h
    refine ⟨_, (pss_one (ps_ret (pe_and (pe_call (ok_is_number T) (hr.mono (by decide)) rfl T.is_number_m T.is_number_F.kp T.is_number_b .nil pass0 (pa_cons (pv 1) pa_nil)) (pe_one (pe_cmpR (op_eqD hr.units) (pe_call (ok_parts T) (hr.mono (by decide)) rfl T.parts_m T.parts_F.kp T.parts_b .nil pass0 (pa_cons (pv 1) pa_nil)) (pe_tup (pa_cons (pe_fld (pv 0) rfl) (pa_cons (pe_fld (pv 0) rfl) pa_nil))) (nomark _)))))), ?_⟩
    rcases h with ⟨b, hu, k⟩ | ⟨nn, k⟩
    · refine ⟨_, rfl, _, rfl, .inl ⟨⟨b, hu⟩, true, rfl, ?_⟩⟩
      refine iteT ?_
      refine ⟨_, rfl, u, b, rfl, hu, fun t H1 s1 ht => ?_⟩
      obtain ⟨x, dx, rfl, hx⟩ := hv.same s1
      refine ⟨_, rfl, x, _, dx, _, _, rfl, hx, T.Exact_cl, T.Exact_n_over, fl_over, _, rfl, x, _, dx, _, _, rfl, hx, T.Exact_cl, T.Exact_n_under, fl_under, (by show 2 ≤ sizeLine; decide), fun t2 nt2 => ?_⟩
      have s2 := same_upd (o := .tup [.int a.1, .int a.2]) nt2
      have h1 : PairAt H1 t b := ht
      refine ⟨dp b, dp a, dpPair (h1.same s2), dpPair (p := a) upd_same, rfl, rfl, ?_⟩
      rw [dp_eqv]
      exact k _ (s1.trans s2)
    · refine ⟨_, rfl, _, rfl, .inr ⟨nn, false, rfl, ?_⟩⟩
      exact iteF k
/-- an order of numbers -/
def spCmp (C : Addr) (f : Int × Int → Int × Int → Bool) : Sp := fun vs H Q _ => ∃ v u a b, vs = [v, u] ∧ ExAt C H v a ∧ NumAt C H u b ∧ Nm a ∧ Nm b ∧ ∀ H', Same H H' → Q (.bl (f a b)) H'
def bLt (a b : Int × Int) : Bool := decide (a.1 * b.2 < b.1 * a.2)
def bLe (a b : Int × Int) : Bool := decide (a.1 * b.2 ≤ b.1 * a.2)
def bGt (a b : Int × Int) : Bool := decide (b.1 * a.2 < a.1 * b.2)
def bGe (a b : Int × Int) : Bool := decide (b.1 * a.2 ≤ a.1 * b.2)
theorem ok_Exact_lt (T : Tx K mg) : FnOk P w K mg base CX0 4 T.Exact_lt_a T.Exact_lt_d ["self", "other"] (spCmp T.Exact_a bLt) := by
  refine T.Exact_lt_F.ok sc_Exact_lt (fun vs H Q E h => ?_) (fun cdv A outer s H vs Q E hr h => ?_)
  · obtain ⟨v, u, a, b, rfl, _⟩ := h
    rfl
  · obtain ⟨v, u, a, b, rfl, hv, hu, na, nb, k⟩ := h
    refine ⟨_, (pss_cons (ps_asg (pe_call (ok_parts T) (hr.mono (by decide)) rfl T.parts_m T.parts_F.kp T.parts_b .nil pass0 (pa_cons (pv 1) pa_nil)) (pg_tup (by rfl) (pgs_cons (pg_name (i := 2) sc_Exact_lt.nd rfl (Or.inl rfl)) (pgs_cons (pg_name (i := 3) sc_Exact_lt.nd rfl (Or.inl rfl)) pgs_nil))))
  (pss_one (ps_ret (pe_cmpR op_lt (pe_op (op_mulG) (pe_fld (pv 0) rfl) (pv 3)) (pe_op (op_mulG) (pv 2) (pe_fld (pv 0) rfl)) (nomark _))))), ?_⟩
    refine ⟨_, rfl, u, b, rfl, hu, fun t H1 s1 ht => ⟨t, _, rfl, .inl (.inl ht), rfl, _, _, rfl, _, _, rfl, rfl, ?_⟩⟩
    obtain ⟨x, dx, rfl, hx⟩ := hv.same s1
    refine ⟨_, rfl, x, _, dx, _, _, rfl, hx, T.Exact_cl, T.Exact_n_over, fl_over, _, rfl, _, _, rfl, rfl, ok1000 na.2.1 nb.2.2, _, rfl, _, rfl, x, _, dx, _, _, rfl, hx, T.Exact_cl, T.Exact_n_under, fl_under, _, _, rfl, rfl, ok1000 nb.2.1 na.2.2, _, _, rfl, rfl, k _ s1⟩
theorem ok_Exact_le (T : Tx K mg) : FnOk P w K mg base CX0 4 T.Exact_le_a T.Exact_le_d ["self", "other"] (spCmp T.Exact_a bLe) := by
  refine T.Exact_le_F.ok sc_Exact_le (fun vs H Q E h => ?_) (fun cdv A outer s H vs Q E hr h => ?_)
  · obtain ⟨v, u, a, b, rfl, _⟩ := h
    rfl
  · obtain ⟨v, u, a, b, rfl, hv, hu, na, nb, k⟩ := h
    refine ⟨_, (pss_cons (ps_asg (pe_call (ok_parts T) (hr.mono (by decide)) rfl T.parts_m T.parts_F.kp T.parts_b .nil pass0 (pa_cons (pv 1) pa_nil)) (pg_tup (by rfl) (pgs_cons (pg_name (i := 2) sc_Exact_le.nd rfl (Or.inl rfl)) (pgs_cons (pg_name (i := 3) sc_Exact_le.nd rfl (Or.inl rfl)) pgs_nil))))
  (pss_one (ps_ret (pe_cmpR op_le (pe_op (op_mulG) (pe_fld (pv 0) rfl) (pv 3)) (pe_op (op_mulG) (pv 2) (pe_fld (pv 0) rfl)) (nomark _))))), ?_⟩
    refine ⟨_, rfl, u, b, rfl, hu, fun t H1 s1 ht => ⟨t, _, rfl, .inl (.inl ht), rfl, _, _, rfl, _, _, rfl, rfl, ?_⟩⟩
    obtain ⟨x, dx, rfl, hx⟩ := hv.same s1
    refine ⟨_, rfl, x, _, dx, _, _, rfl, hx, T.Exact_cl, T.Exact_n_over, fl_over, _, rfl, _, _, rfl, rfl, ok1000 na.2.1 nb.2.2, _, rfl, _, rfl, x, _, dx, _, _, rfl, hx, T.Exact_cl, T.Exact_n_under, fl_under, _, _, rfl, rfl, ok1000 nb.2.1 na.2.2, _, _, rfl, rfl, k _ s1⟩
theorem ok_Exact_gt (T : Tx K mg) : FnOk P w K mg base CX0 4 T.Exact_gt_a T.Exact_gt_d ["self", "other"] (spCmp T.Exact_a bGt) := by
  refine T.Exact_gt_F.ok sc_Exact_gt (fun vs H Q E h => ?_) (fun cdv A outer s H vs Q E hr h => ?_)
  · obtain ⟨v, u, a, b, rfl, _⟩ := h
    rfl
  · obtain ⟨v, u, a, b, rfl, hv, hu, na, nb, k⟩ := h
    refine ⟨_, (pss_cons (ps_asg (pe_call (ok_parts T) (hr.mono (by decide)) rfl T.parts_m T.parts_F.kp T.parts_b .nil pass0 (pa_cons (pv 1) pa_nil)) (pg_tup (by rfl) (pgs_cons (pg_name (i := 2) sc_Exact_gt.nd rfl (Or.inl rfl)) (pgs_cons (pg_name (i := 3) sc_Exact_gt.nd rfl (Or.inl rfl)) pgs_nil))))
  (pss_one (ps_ret (pe_cmpR op_gt (pe_op (op_mulG) (pe_fld (pv 0) rfl) (pv 3)) (pe_op (op_mulG) (pv 2) (pe_fld (pv 0) rfl)) (nomark _))))), ?_⟩
    refine ⟨_, rfl, u, b, rfl, hu, fun t H1 s1 ht => ⟨t, _, rfl, .inl (.inl ht), rfl, _, _, rfl, _, _, rfl, rfl, ?_⟩⟩
    obtain ⟨x, dx, rfl, hx⟩ := hv.same s1
    refine ⟨_, rfl, x, _, dx, _, _, rfl, hx, T.Exact_cl, T.Exact_n_over, fl_over, _, rfl, _, _, rfl, rfl, ok1000 na.2.1 nb.2.2, _, rfl, _, rfl, x, _, dx, _, _, rfl, hx, T.Exact_cl, T.Exact_n_under, fl_under, _, _, rfl, rfl, ok1000 nb.2.1 na.2.2, _, _, rfl, rfl, k _ s1⟩
theorem ok_Exact_ge (T : Tx K mg) : FnOk P w K mg base CX0 4 T.Exact_ge_a T.Exact_ge_d ["self", "other"] (spCmp T.Exact_a bGe) := by
  refine T.Exact_ge_F.ok sc_Exact_ge (fun vs H Q E h => ?_) (fun cdv A outer s H vs Q E hr h => ?_)
  · obtain ⟨v, u, a, b, rfl, _⟩ := h
    rfl
  · obtain ⟨v, u, a, b, rfl, hv, hu, na, nb, k⟩ := h
    refine ⟨_, (pss_cons (ps_asg (pe_call (ok_parts T) (hr.mono (by decide)) rfl T.parts_m T.parts_F.kp T.parts_b .nil pass0 (pa_cons (pv 1) pa_nil)) (pg_tup (by rfl) (pgs_cons (pg_name (i := 2) sc_Exact_ge.nd rfl (Or.inl rfl)) (pgs_cons (pg_name (i := 3) sc_Exact_ge.nd rfl (Or.inl rfl)) pgs_nil))))
  (pss_one (ps_ret (pe_cmpR op_ge (pe_op (op_mulG) (pe_fld (pv 0) rfl) (pv 3)) (pe_op (op_mulG) (pv 2) (pe_fld (pv 0) rfl)) (nomark _))))), ?_⟩
    refine ⟨_, rfl, u, b, rfl, hu, fun t H1 s1 ht => ⟨t, _, rfl, .inl (.inl ht), rfl, _, _, rfl, _, _, rfl, rfl, ?_⟩⟩
    obtain ⟨x, dx, rfl, hx⟩ := hv.same s1
    refine ⟨_, rfl, x, _, dx, _, _, rfl, hx, T.Exact_cl, T.Exact_n_over, fl_over, _, rfl, _, _, rfl, rfl, ok1000 na.2.1 nb.2.2, _, rfl, _, rfl, x, _, dx, _, _, rfl, hx, T.Exact_cl, T.Exact_n_under, fl_under, _, _, rfl, rfl, ok1000 nb.2.1 na.2.2, _, _, rfl, rfl, k _ s1⟩
/-- the law's own order -/
def spLawLess : Sp := fun vs H Q _ => ∃ t1 t2 a b, vs = [.ref t1, .ref t2] ∧ PairAt H t1 a ∧ PairAt H t2 b ∧ a.1.natAbs < 2 ^ 1000 ∧ a.2.natAbs < 2 ^ 1000 ∧ b.1.natAbs < 2 ^ 1000 ∧ b.2.natAbs < 2 ^ 1000 ∧ Q (.bl (bLt a b)) H
theorem ok_law_less (T : Tx K mg) : FnOk P w K mg base CX0 1 T.law_less_a T.law_less_d ["_law_a", "_law_b"] spLawLess := by
  refine T.law_less_F.ok sc_law_less (fun vs H Q E h => ?_) (fun cdv A outer s H vs Q E hr h => ?_)
  · obtain ⟨t1, t2, a, b, rfl, _⟩ := h
    rfl
  · obtain ⟨t1, t2, a, b, rfl, h1, h2, z1, z2, z3, z4, k⟩ := h
    refine ⟨_, (pss_one (ps_ret (pe_cmpR op_lt (pe_op (op_mulG) (pe_ix ix_tup (pv 0) pe_int (fun _ _ => rfl)) (pe_ix ix_tup (pv 1) pe_int (fun _ _ => rfl))) (pe_op (op_mulG) (pe_ix ix_tup (pv 1) pe_int (fun _ _ => rfl)) (pe_ix ix_tup (pv 0) pe_int (fun _ _ => rfl))) (nomark _)))), ?_⟩
    refine ⟨_, rfl, t1, _, _, _, rfl, rfl, .inl (.inl h1), rfl, _, rfl, t2, _, _, _, rfl, rfl, .inl (.inl h2), rfl, _, _, rfl, rfl, ok1000 z1 z4, _, rfl, t2, _, _, _, rfl, rfl, .inl (.inl h2), rfl, _, rfl, t1, _, _, _, rfl, rfl, .inl (.inl h1), rfl, _, _, rfl, rfl, ok1000 z3 z2, _, _, rfl, rfl, k⟩
end



/-! ### what is told, held against what is due -/
/-- data: what may be told -/
inductive Dat where
  | non | bl (b : Bool) | int (i : Int) | str (s : Str) | ex (p : Int × Int) | lst (xs : List Dat) | tup (xs : List Dat)
mutual
inductive DtAt (C : Addr) (H : Hp) : V → Dat → Prop
  | non : DtAt C H .non .non
  | bl (b : Bool) : DtAt C H (.bl b) (.bl b)
  | int (i : Int) : DtAt C H (.int i) (.int i)
  | str (s : Str) : DtAt C H (.str s) (.str s)
  | ex {v : V} {p : Int × Int} (h : ExAt C H v p) : DtAt C H v (.ex p)
  | lst {a : Addr} {xs : List V} {ds : List Dat} (h : H a = some (.lst xs)) (z : xs.length ≤ 1000) (d : DtAll C H xs ds) : DtAt C H (.ref a) (.lst ds)
  | tup {a : Addr} {xs : List V} {ds : List Dat} (h : H a = some (.tup xs)) (z : xs.length ≤ 1000) (d : DtAll C H xs ds) : DtAt C H (.ref a) (.tup ds)
inductive DtAll (C : Addr) (H : Hp) : List V → List Dat → Prop
  | nil : DtAll C H [] []
  | cons {v : V} {vs : List V} {d : Dat} {ds : List Dat} (h : DtAt C H v d) (t : DtAll C H vs ds) : DtAll C H (v :: vs) (d :: ds)
end
mutual
theorem DtAt.same {C : Addr} {H H' : Hp} (e : Same H H') : ∀ {v : V} {d : Dat}, DtAt C H v d → DtAt C H' v d
  | _, _, .non => .non
  | _, _, .bl b => .bl b
  | _, _, .int i => .int i
  | _, _, .str s => .str s
  | _, _, .ex h => .ex (h.same e)
  | _, _, .lst h z d => .lst (e _ _ h) z (DtAll.same e d)
  | _, _, .tup h z d => .tup (e _ _ h) z (DtAll.same e d)
theorem DtAll.same {C : Addr} {H H' : Hp} (e : Same H H') : ∀ {vs : List V} {ds : List Dat}, DtAll C H vs ds → DtAll C H' vs ds
  | _, _, .nil => .nil
  | _, _, .cons h t => .cons (DtAt.same e h) (DtAll.same e t)
end
theorem DtAll.len {C : Addr} {H : Hp} : ∀ {vs : List V} {ds : List Dat}, DtAll C H vs ds → vs.length = ds.length
  | _, _, .nil => rfl
  | _, _, .cons _ t => congrArg (· + 1) t.len
theorem DtAll.at {C : Addr} {H : Hp} : ∀ {vs : List V} {ds : List Dat} {i : Nat} {v : V}, DtAll C H vs ds → vs[i]? = some v → ∃ d, ds[i]? = some d ∧ DtAt C H v d
  | _, _, 0, _, .cons h _, e => ⟨_, rfl, (Option.some.inj e) ▸ h⟩
  | _, _, i + 1, _, .cons _ t, e => t.at (i := i) e
  | _, _, _, _, .nil, e => by simp at e
/-- no deeper than n -/
def Dat.dep : Nat → Dat → Prop
  | 0, .lst _ => False
  | 0, .tup _ => False
  | n + 1, .lst ds => ∀ d ∈ ds, Dat.dep n d
  | n + 1, .tup ds => ∀ d ∈ ds, Dat.dep n d
  | _, _ => True
def Dat.isL : Dat → Bool
  | .lst _ => true
  | _ => false
def Dat.isT : Dat → Bool
  | .tup _ => true
  | _ => false
def Dat.isE : Dat → Bool
  | .ex _ => true
  | _ => false
def Dat.isI : Dat → Bool
  | .int _ => true
  | .bl _ => true
  | _ => false
def Dat.isB : Dat → Bool
  | .bl _ => true
  | _ => false
/-- its type, for isinstance -/
def Dat.ty (C : Addr) : Dat → Value
  | .non => .type "NoneType"
  | .bl _ => .type "bool"
  | .int _ => .type "int"
  | .str _ => .type "str"
  | .ex _ => .ref C
  | .lst _ => .type "list"
  | .tup _ => .type "tuple"
section
variable {K : PySem.W.Frag} {mg : Str → Option Value} (T : Tx K mg) {H : Hp} {v : V} {d : Dat}
theorem DtAt.tx (h : DtAt T.Exact_a H v d) : TyX K H v (d.ty T.Exact_a) := by
  cases h with
  | non => exact .base .non
  | bl b => exact .base (.bl b)
  | int i => exact .base (.int i)
  | str s => exact .base (.str s)
  | ex h =>
    obtain ⟨x, dx, rfl, hx⟩ := h
    exact .base (.ins hx T.Exact_cl T.Exact_i1 T.Exact_i2 T.Exact_i3 T.Exact_i4)
  | lst h _ _ => exact .base (.lst h)
  | tup h _ _ => exact .base (.tup h)
theorem kitL (d : Dat) : PySem.W.kitOne K (d.ty T.Exact_a) (.type "list") = some d.isL := by
  cases d <;> first | exact T.Exact_ko_list | exact kit_ty (r := true) (by decide +kernel) | exact kit_ty (r := false) (by decide +kernel)
theorem kitT (d : Dat) : PySem.W.kitOne K (d.ty T.Exact_a) (.type "tuple") = some d.isT := by
  cases d <;> first | exact T.Exact_ko_tuple | exact kit_ty (r := true) (by decide +kernel) | exact kit_ty (r := false) (by decide +kernel)
theorem kitI (d : Dat) : PySem.W.kitOne K (d.ty T.Exact_a) (.type "int") = some d.isI := by
  cases d <;> first | exact T.Exact_ko_int | exact kit_ty (r := true) (by decide +kernel) | exact kit_ty (r := false) (by decide +kernel)
theorem kitB' (d : Dat) : PySem.W.kitOne K (d.ty T.Exact_a) (.type "bool") = some d.isB := by
  cases d <;> first | exact T.Exact_ko_bool | exact kit_ty (r := true) (by decide +kernel) | exact kit_ty (r := false) (by decide +kernel)
theorem kitE (d : Dat) : PySem.W.kitOne K (d.ty T.Exact_a) (.ref T.Exact_a) = some d.isE := by
  cases d <;> first | exact T.Exact_k0 | exact T.Exact_kt_int | exact T.Exact_kt_bool | exact T.Exact_kt_str | exact T.Exact_kt_list | exact T.Exact_kt_tuple | exact T.Exact_kt_NoneType
theorem kitLT (d : Dat) : PySem.W.kitAny K (d.ty T.Exact_a) [.type "list", .type "tuple"] = some (d.isL || d.isT) := by
  refine kitAny_cons (kitL T d) (fun e => ?_) (fun e => by rw [e]; rfl)
  refine kitAny_cons (kitT T d) (fun e' => ?_) (fun e' => by rw [e', Bool.or_true])
  rw [e, e']
  exact kitAny_nil
theorem kitBILT (d : Dat) : PySem.W.kitAny K (d.ty T.Exact_a) [.type "bool", .type "int", .type "list", .type "tuple"] = some (d.isB || d.isI || d.isL || d.isT) := by
  refine kitAny_cons (kitB' T d) (fun e => ?_) (fun e => by rw [e]; rfl)
  refine kitAny_cons (kitI T d) (fun e2 => ?_) (fun e2 => by rw [e2, Bool.or_true]; rfl)
  rw [kitLT T d, e, e2]
  rfl
end
theorem fn_false {P : Program} {w : World} {K : PySem.W.Frag} {mg : Str → Option Value} {base : Heap} {CX : CXT} {k : Nat} {f : Addr} {fd : FuncData} {ps : List Str} : FnOk P w K mg base CX k f fd ps (fun _ _ _ _ => False) :=
  ⟨fun _ _ _ _ h => h.elim, fun _ _ _ _ _ _ _ _ _ _ _ _ _ h => h.elim⟩
/-- no list, no tuple, no Exact: the same thing twice -/
def spSameLeaf (C : Addr) : Sp := fun vs H Q _ => ∃ v u d, vs = [v, u] ∧ DtAt C H v d ∧ DtAt C H u d ∧ d.isL = false ∧ d.isT = false ∧ d.isE = false ∧ ∀ H', Same H H' → Q (.bl true) H'
section
variable {P : Program} {w : World} {K : PySem.W.Frag} {mg : Str → Option Value} {base : Heap}
theorem leaf_eq {C : Addr} {H : Hp} {v u : V} {d : Dat} (h1 : DtAt C H v d) (h2 : DtAt C H u d) (a : d.isL = false) (b : d.isT = false) (c : d.isE = false) : v = u ∧ scal v u = true := by
  cases h1 with
  | non => cases h2; exact ⟨rfl, rfl⟩
  | bl x => cases h2; exact ⟨rfl, rfl⟩
  | int x => cases h2; exact ⟨rfl, rfl⟩
  | str x => cases h2; exact ⟨rfl, rfl⟩
  | ex h => cases c
  | lst _ _ _ => cases a
  | tup _ _ _ => cases b
theorem ok_law_same (T : Tx K mg) : FnOk P w K mg base CX0 1 T.law_same_a T.law_same_d ["_law_found", "_law_due"] (spSameLeaf T.Exact_a) := by
  refine T.law_same_F.ok sc_law_same (fun vs H Q E h => ?_) (fun cdv A outer s H vs Q E hr h => ?_)
  · obtain ⟨v, u, d, rfl, _⟩ := h
    rfl
  · obtain ⟨v, u, d, rfl, hv, hu, a, b, c, k⟩ := h
    have REC : FnOk P w K mg base CX0 0 T.law_same_a T.law_same_d ["_law_found", "_law_due"] (fun _ _ _ _ => False) := fn_false
    have hrR := hr.mono (Nat.zero_le _)
    refine ⟨_, (pss_cons (ps_if (pt_val (pe_callB call_isiT (by rfl) T.z_isinstance (by decide +kernel) (pa_cons (pv 1) (pa_cons (pe_tup (pa_cons (pe_bltn (v := .ty "list") (by rfl) T.z_list (by decide +kernel) rfl) (pa_cons (pe_bltn (v := .ty "tuple") (by rfl) T.z_tuple (by decide +kernel) rfl) pa_nil))) pa_nil))))
  (pss_cons (ps_if (PW.pt (pw_or (pt_cmpR op_ne (pe_callB call_isi (by rfl) T.z_isinstance (by decide +kernel) (pa_cons (pv 0) (pa_cons (pe_bltn (v := .ty "list") (by rfl) T.z_list (by decide +kernel) rfl) pa_nil))) (pe_callB call_isi (by rfl) T.z_isinstance (by decide +kernel) (pa_cons (pv 1) (pa_cons (pe_bltn (v := .ty "list") (by rfl) T.z_list (by decide +kernel) rfl) pa_nil))) (nomark _)) (pw_or1 (pt_cmpR op_ne (pe_callB call_isi (by rfl) T.z_isinstance (by decide +kernel) (pa_cons (pv 0) (pa_cons (pe_bltn (v := .ty "tuple") (by rfl) T.z_tuple (by decide +kernel) rfl) pa_nil))) (pe_callB call_isi (by rfl) T.z_isinstance (by decide +kernel) (pa_cons (pv 1) (pa_cons (pe_bltn (v := .ty "tuple") (by rfl) T.z_tuple (by decide +kernel) rfl) pa_nil))) (nomark _)))))
  (pss_one (ps_ret pe_bl))
  pss_nil)
  (pss_one (ps_ret (pe_and (pe_cmpR op_eq (pe_callB (call_len_seq) (by rfl) T.z_len (by decide +kernel) (pa_cons (pv 0) pa_nil)) (pe_callB (call_len_seq) (by rfl) T.z_len (by decide +kernel) (pa_cons (pv 1) pa_nil)) (nomark _)) (pe_one (pe_callB (cr_all rfl) (by rfl) T.z_all (by decide +kernel) (pa_cons (pe_lc (g := gTup K 2 (gCons (gName 2) (gCons (gName 3) gNil))) (tt := tYes) (own := [("_law_a", 2), ("_law_b", 3)]) rfl sc_law_same.nd (RZ.pi_zipA (by rfl) T.z_zip (pa_cons (pv 0) (pa_cons (pv 1) pa_nil))) (blkOk_by (own := [("_law_a", 2), ("_law_b", 3)]) (N := ["_law_found", "_law_due", "_law_a", "_law_b"]) (sc := defScope s_law_same) (by decide +kernel))
   (fun _ _ _ _ _ => pg_tup (by rfl) (pgs_cons (pg_name (i := 2) sc_law_same.nd rfl (Or.inl rfl)) (pgs_cons (pg_name (i := 3) sc_law_same.nd rfl (Or.inl rfl)) pgs_nil))) (fun _ _ _ _ _ => pts_nil) (fun _ _ _ _ _ => (pe_call REC hrR rfl T.law_same_m T.law_same_F.kp T.law_same_b .nil pass0 (pa_cons (pv 2) (pa_cons (pv 3) pa_nil))))) pa_nil)))))))
  pss_nil)
  (pss_cons (ps_if (pt_val (pe_callB call_isi (by rfl) T.z_isinstance (by decide +kernel) (pa_cons (pv 1) (pa_cons (pe_bltn (v := .ty "int") (by rfl) T.z_int (by decide +kernel) rfl) pa_nil))))
  (pss_one (ps_ret (pe_and (pe_callB call_isi (by rfl) T.z_isinstance (by decide +kernel) (pa_cons (pv 0) (pa_cons (pe_bltn (v := .ty "int") (by rfl) T.z_int (by decide +kernel) rfl) pa_nil))) (pe_and (pe_cmpR op_eq (pe_callB call_isi (by rfl) T.z_isinstance (by decide +kernel) (pa_cons (pv 0) (pa_cons (pe_bltn (v := .ty "bool") (by rfl) T.z_bool (by decide +kernel) rfl) pa_nil))) (pe_callB call_isi (by rfl) T.z_isinstance (by decide +kernel) (pa_cons (pv 1) (pa_cons (pe_bltn (v := .ty "bool") (by rfl) T.z_bool (by decide +kernel) rfl) pa_nil))) (nomark _)) (pe_one (pe_cmpR op_eq (pv 0) (pv 1) (nomark _)))))))
  pss_nil)
  (pss_one (ps_ret (pe_and (pe_cmpR op_isBl (pe_callB call_isiT (by rfl) T.z_isinstance (by decide +kernel) (pa_cons (pv 0) (pa_cons (pe_tup (pa_cons (pe_bltn (v := .ty "bool") (by rfl) T.z_bool (by decide +kernel) rfl) (pa_cons (pe_bltn (v := .ty "int") (by rfl) T.z_int (by decide +kernel) rfl) (pa_cons (pe_bltn (v := .ty "list") (by rfl) T.z_list (by decide +kernel) rfl) (pa_cons (pe_bltn (v := .ty "tuple") (by rfl) T.z_tuple (by decide +kernel) rfl) pa_nil))))) pa_nil))) pe_bl (nomark _)) (pe_one (pe_cmpR op_eq (pv 0) (pv 1) (nomark _)))))))), ?_⟩
    refine ⟨_, rfl, (by show 2 ≤ sizeLine; decide), fun t nt => ?_⟩
    have s1 := same_upd (o := .tup [.ty "list", .ty "tuple"]) nt
    have hu1 := hu.same s1
    refine ⟨_, _, _, _, _, _, rfl, upd_same, .cons (.ty "list") (.cons (.ty "tuple") .nil), hu1.tx T, kitLT T d, _, rfl, ?_⟩
    rw [a, b]
    refine iteF ?_
    refine ⟨_, rfl, _, _, _, _, _, rfl, .ty "int", hu1.tx T, kitI T d, _, rfl, ?_⟩
    have hv1 := hv.same s1
    obtain ⟨e1, e2⟩ := leaf_eq hv hu a b c
    cases hi : d.isI with
    | true =>
      refine iteT ?_
      refine ⟨_, rfl, _, _, _, _, _, rfl, .ty "int", hv1.tx T, kitI T d, _, rfl, ?_⟩
      rw [hi]
      refine iteT ?_
      refine ⟨_, rfl, _, _, _, _, _, rfl, .ty "bool", hv1.tx T, kitB' T d, _, rfl, _, _, _, _, _, rfl, .ty "bool", hu1.tx T, kitB' T d, rfl, _, rfl, ?_⟩
      rw [decide_eq_true rfl]
      refine iteT ?_
      refine ⟨_, rfl, _, rfl, e2, ?_⟩
      rw [decide_eq_true e1]
      exact k _ s1
    | false =>
      refine iteF ?_
      refine ⟨_, rfl, (by show 4 ≤ sizeLine; decide), fun t' nt' => ?_⟩
      have s2 := same_upd (o := .tup [.ty "bool", .ty "int", .ty "list", .ty "tuple"]) nt'
      refine ⟨_, _, _, _, _, _, rfl, upd_same, .cons (.ty "bool") (.cons (.ty "int") (.cons (.ty "list") (.cons (.ty "tuple") .nil))), (hv1.same s2).tx T, kitBILT T d, ?_⟩
      have hb : d.isB = false := by cases d <;> first | rfl | cases hi
      rw [a, b, hi, hb]
      refine ⟨_, _, rfl, rfl, _, rfl, ?_⟩
      rw [decide_eq_true (show (false || false || false || false) = false from rfl)]
      refine iteT ?_
      refine ⟨_, rfl, _, rfl, e2, ?_⟩
      rw [decide_eq_true e1]
      exact k _ (s1.trans s2)
/-- two things told alike, n deep at most -/
def spTold (C : Addr) (n : Nat) : Sp := fun vs H Q _ => ∃ v u d, vs = [v, u] ∧ DtAt C H v d ∧ DtAt C H u d ∧ d.dep n ∧ ∀ H', Same H H' → Q (.bl true) H'
def spToldR (C : Addr) : Nat → Sp
  | 0 => fun _ _ _ _ => False
  | n + 1 => spTold C n
theorem all_true : ∀ n : Nat, (List.replicate n true).all id = true
  | 0 => rfl
  | n + 1 => by rw [List.replicate_succ]; exact all_true n
theorem bls_snoc (n : Nat) : (List.replicate n true).map V.bl ++ [V.bl true] = (List.replicate (n + 1) true).map V.bl := by
  rw [List.replicate_succ', List.map_append]
  rfl
end



/-! ### the same lists of plain things, any depth -/
def Dat.flat : Nat → Dat → Prop
  | _, .ex _ => False
  | _, .tup _ => False
  | 0, .lst _ => False
  | n + 1, .lst ds => ∀ d ∈ ds, Dat.flat n d
  | _, _ => True
def spSameN (C : Addr) (n : Nat) : Sp := fun vs H Q _ => ∃ v u d, vs = [v, u] ∧ DtAt C H v d ∧ DtAt C H u d ∧ d.flat n ∧ ∀ H', Same H H' → Q (.bl true) H'
def spSameR (C : Addr) : Nat → Sp
  | 0 => fun _ _ _ _ => False
  | n + 1 => spSameN C n
theorem flat_leaf {d : Dat} {n : Nat} (h : d.flat n) : d.isT = false ∧ d.isE = false := by
  cases d <;> cases n <;> first | exact h.elim | exact ⟨rfl, rfl⟩
section
variable {P : Program} {w : World} {K : PySem.W.Frag} {mg : Str → Option Value} {base : Heap}
theorem ok_law_sameN (T : Tx K mg) : ∀ n : Nat, FnOk P w K mg base CX0 (1 + n) T.law_same_a T.law_same_d ["_law_found", "_law_due"] (spSameN T.Exact_a n) := by
  intro n
  have REC : FnOk P w K mg base CX0 (0 + n) T.law_same_a T.law_same_d ["_law_found", "_law_due"] (spSameR T.Exact_a n) := by
    cases n with
    | zero => exact fn_false
    | succ n => exact (ok_law_sameN T n).mono (by omega)
  refine (T.law_same_F.ok (k := 0 + n) sc_law_same (fun vs H Q E h => ?_) (fun cdv A outer s H vs Q E hr h => ?_)).mono (by omega)
  · obtain ⟨v, u, d, rfl, _⟩ := h
    rfl
  · obtain ⟨v, u, d, rfl, hv, hu, hd, k⟩ := h
    have hrR := hr
    replace hr := hr.mono (Nat.le_add_right _ _)
    refine ⟨_, (pss_cons (ps_if (pt_val (pe_callB call_isiT (by rfl) T.z_isinstance (by decide +kernel) (pa_cons (pv 1) (pa_cons (pe_tup (pa_cons (pe_bltn (v := .ty "list") (by rfl) T.z_list (by decide +kernel) rfl) (pa_cons (pe_bltn (v := .ty "tuple") (by rfl) T.z_tuple (by decide +kernel) rfl) pa_nil))) pa_nil))))
  (pss_cons (ps_if (PW.pt (pw_or (pt_cmpR op_ne (pe_callB call_isi (by rfl) T.z_isinstance (by decide +kernel) (pa_cons (pv 0) (pa_cons (pe_bltn (v := .ty "list") (by rfl) T.z_list (by decide +kernel) rfl) pa_nil))) (pe_callB call_isi (by rfl) T.z_isinstance (by decide +kernel) (pa_cons (pv 1) (pa_cons (pe_bltn (v := .ty "list") (by rfl) T.z_list (by decide +kernel) rfl) pa_nil))) (nomark _)) (pw_or1 (pt_cmpR op_ne (pe_callB call_isi (by rfl) T.z_isinstance (by decide +kernel) (pa_cons (pv 0) (pa_cons (pe_bltn (v := .ty "tuple") (by rfl) T.z_tuple (by decide +kernel) rfl) pa_nil))) (pe_callB call_isi (by rfl) T.z_isinstance (by decide +kernel) (pa_cons (pv 1) (pa_cons (pe_bltn (v := .ty "tuple") (by rfl) T.z_tuple (by decide +kernel) rfl) pa_nil))) (nomark _)))))
  (pss_one (ps_ret pe_bl))
  pss_nil)
  (pss_one (ps_ret (pe_and (pe_cmpR op_eq (pe_callB (call_len_seq) (by rfl) T.z_len (by decide +kernel) (pa_cons (pv 0) pa_nil)) (pe_callB (call_len_seq) (by rfl) T.z_len (by decide +kernel) (pa_cons (pv 1) pa_nil)) (nomark _)) (pe_one (pe_callB (cr_all rfl) (by rfl) T.z_all (by decide +kernel) (pa_cons (pe_lc (g := gTup K 2 (gCons (gName 2) (gCons (gName 3) gNil))) (tt := tYes) (own := [("_law_a", 2), ("_law_b", 3)]) rfl sc_law_same.nd (RZ.pi_zipA (by rfl) T.z_zip (pa_cons (pv 0) (pa_cons (pv 1) pa_nil))) (blkOk_by (own := [("_law_a", 2), ("_law_b", 3)]) (N := ["_law_found", "_law_due", "_law_a", "_law_b"]) (sc := defScope s_law_same) (by decide +kernel))
   (fun _ _ _ _ _ => pg_tup (by rfl) (pgs_cons (pg_name (i := 2) sc_law_same.nd rfl (Or.inl rfl)) (pgs_cons (pg_name (i := 3) sc_law_same.nd rfl (Or.inl rfl)) pgs_nil))) (fun _ _ _ _ _ => pts_nil) (fun _ _ _ _ _ => (pe_call REC hrR rfl T.law_same_m T.law_same_F.kp T.law_same_b .nil pass0 (pa_cons (pv 2) (pa_cons (pv 3) pa_nil))))) pa_nil)))))))
  pss_nil)
  (pss_cons (ps_if (pt_val (pe_callB call_isi (by rfl) T.z_isinstance (by decide +kernel) (pa_cons (pv 1) (pa_cons (pe_bltn (v := .ty "int") (by rfl) T.z_int (by decide +kernel) rfl) pa_nil))))
  (pss_one (ps_ret (pe_and (pe_callB call_isi (by rfl) T.z_isinstance (by decide +kernel) (pa_cons (pv 0) (pa_cons (pe_bltn (v := .ty "int") (by rfl) T.z_int (by decide +kernel) rfl) pa_nil))) (pe_and (pe_cmpR op_eq (pe_callB call_isi (by rfl) T.z_isinstance (by decide +kernel) (pa_cons (pv 0) (pa_cons (pe_bltn (v := .ty "bool") (by rfl) T.z_bool (by decide +kernel) rfl) pa_nil))) (pe_callB call_isi (by rfl) T.z_isinstance (by decide +kernel) (pa_cons (pv 1) (pa_cons (pe_bltn (v := .ty "bool") (by rfl) T.z_bool (by decide +kernel) rfl) pa_nil))) (nomark _)) (pe_one (pe_cmpR op_eq (pv 0) (pv 1) (nomark _)))))))
  pss_nil)
  (pss_one (ps_ret (pe_and (pe_cmpR op_isBl (pe_callB call_isiT (by rfl) T.z_isinstance (by decide +kernel) (pa_cons (pv 0) (pa_cons (pe_tup (pa_cons (pe_bltn (v := .ty "bool") (by rfl) T.z_bool (by decide +kernel) rfl) (pa_cons (pe_bltn (v := .ty "int") (by rfl) T.z_int (by decide +kernel) rfl) (pa_cons (pe_bltn (v := .ty "list") (by rfl) T.z_list (by decide +kernel) rfl) (pa_cons (pe_bltn (v := .ty "tuple") (by rfl) T.z_tuple (by decide +kernel) rfl) pa_nil))))) pa_nil))) pe_bl (nomark _)) (pe_one (pe_cmpR op_eq (pv 0) (pv 1) (nomark _)))))))), ?_⟩
    refine ⟨_, rfl, (by show 2 ≤ sizeLine; decide), fun t nt => ?_⟩
    have s1 := same_upd (o := .tup [.ty "list", .ty "tuple"]) nt
    have hu1 := hu.same s1
    have hv1 := hv.same s1
    refine ⟨_, _, _, _, _, _, rfl, upd_same, .cons (.ty "list") (.cons (.ty "tuple") .nil), hu1.tx T, kitLT T d, _, rfl, ?_⟩
    generalize upd H t (HO.tup [V.ty "list", V.ty "tuple"]) = H1 at s1 hu1 hv1 ⊢
    by_cases hLst : d.isL = true
    · cases hv with
      | @lst a xs ds ha zx dv =>
        cases hu with
        | @lst b ys _ hb zy du =>
          refine iteT ?_
          refine ⟨_, rfl, _, _, _, _, _, rfl, .ty "list", hv1.tx T, kitL T _, _, rfl, _, _, _, _, _, rfl, .ty "list", hu1.tx T, kitL T _, rfl, _, rfl, ?_⟩
          rw [decide_eq_true rfl]
          refine iteF ?_
          refine ⟨_, rfl, _, _, _, _, _, rfl, .ty "tuple", hv1.tx T, kitT T _, _, rfl, _, _, _, _, _, rfl, .ty "tuple", hu1.tx T, kitT T _, rfl, _, rfl, ?_⟩
          rw [decide_eq_true rfl]
          refine iteF ?_
          have el : xs.length = ys.length := dv.len.trans du.len.symm
          have ha1 := s1 _ _ ha
          have hb1 := s1 _ _ hb
          refine ⟨_, rfl, a, xs, rfl, .inl (.inl (.inl ha1)), _, rfl, b, ys, rfl, .inl (.inl (.inl hb1)), rfl, _, rfl, ?_⟩
          rw [decide_eq_true (congrArg (fun n : Nat => V.int (n : Int)) el)]
          refine iteT ?_
          refine ⟨_, rfl, _, rfl, a, b, xs, ys, rfl, .inl ⟨.inl (.inl ha1), .inl (.inl hb1), fun D nD => lc_it (walk_zip (K := K) (a := a) (b := b) (xs := xs) (ys := ys) rfl) (fun i H2 => Same H H2 ∧ Same H1 H2 ∧ H2 D = some (.lst ((List.replicate i true).map V.bl)))
            ⟨s1.trans (same_upd nD), same_upd nD, upd_same⟩ (fun i H2 _ e => ⟨.inl (.inl (e.2.1 _ _ ha1)), .inl (.inl (e.2.1 _ _ hb1))⟩) ?_ ?_⟩⟩
          · rintro i x H2 H3 hi ⟨e1, e2, eD⟩ ⟨Tp, x1, y1, rfl, nT, rfl, hx1, hy1⟩
            refine ⟨Tp, _, rfl, .inl (.inl upd_same), rfl, _, _, rfl, _, _, rfl, rfl, rfl, yes_of ?_⟩
            obtain ⟨dd, hdd, r1⟩ := dv.at hx1
            obtain ⟨de, hde, r2⟩ := du.at hy1
            rw [hdd] at hde
            cases hde
            have e3 := e1.trans (same_upd (o := .tup [x1, y1]) nT)
            refine ⟨_, rfl, _, rfl, ?_⟩
            cases n with
            | zero => exact hd.elim
            | succ n =>
              refine ⟨_, _, dd, rfl, r1.same e3, r2.same e3, hd dd (List.mem_of_getElem? hdd), fun H4 e4 => ⟨_, e4 D _ (by rw [upd_ne (ne_of_none eD nT)]; exact eD), ?_, ?_⟩⟩
              · rw [List.length_map, List.length_replicate]
                exact small1000 (by omega)
              · have nDH : H D = none := s1.free nD
                exact ⟨fun c o e => by rw [upd_ne (ne_of_none e nDH)]; exact e4 _ _ (e3 _ _ e), fun c o e => by rw [upd_ne (ne_of_none e nD)]; exact e4 _ _ (same_upd nT _ _ (e2 _ _ e)), by rw [upd_same, bls_snoc]⟩
          · rintro H2 ⟨e1, e2, eD⟩
            refine ⟨D, _, rfl, .inl (.inl eD), ?_⟩
            rw [all_true]
            exact k _ e1
      | _ => cases hLst
    · have a : d.isL = false := by
        cases e : d.isL with
        | false => rfl
        | true => exact absurd e hLst
      obtain ⟨b, c⟩ := flat_leaf hd
      rw [a, b]
      refine iteF ?_
      refine ⟨_, rfl, _, _, _, _, _, rfl, .ty "int", hu1.tx T, kitI T d, _, rfl, ?_⟩
      obtain ⟨e1, e2⟩ := leaf_eq hv hu a b c
      cases hi : d.isI with
      | true =>
        refine iteT ?_
        refine ⟨_, rfl, _, _, _, _, _, rfl, .ty "int", hv1.tx T, kitI T d, _, rfl, ?_⟩
        rw [hi]
        refine iteT ?_
        refine ⟨_, rfl, _, _, _, _, _, rfl, .ty "bool", hv1.tx T, kitB' T d, _, rfl, _, _, _, _, _, rfl, .ty "bool", hu1.tx T, kitB' T d, rfl, _, rfl, ?_⟩
        rw [decide_eq_true rfl]
        refine iteT ?_
        refine ⟨_, rfl, _, rfl, e2, ?_⟩
        rw [decide_eq_true e1]
        exact k _ s1
      | false =>
        refine iteF ?_
        refine ⟨_, rfl, (by show 4 ≤ sizeLine; decide), fun t' nt' => ?_⟩
        have s2 := same_upd (o := .tup [.ty "bool", .ty "int", .ty "list", .ty "tuple"]) nt'
        refine ⟨_, _, _, _, _, _, rfl, upd_same, .cons (.ty "bool") (.cons (.ty "int") (.cons (.ty "list") (.cons (.ty "tuple") .nil))), (hv1.same s2).tx T, kitBILT T d, ?_⟩
        have hb : d.isB = false := by cases d <;> first | rfl | cases hi
        rw [a, b, hi, hb]
        refine ⟨_, _, rfl, rfl, _, rfl, ?_⟩
        rw [decide_eq_true (show (false || false || false || false) = false from rfl)]
        refine iteT ?_
        refine ⟨_, rfl, _, rfl, e2, ?_⟩
        rw [decide_eq_true e1]
        exact k _ (s1.trans s2)
end



section
variable {P : Program} {w : World} {K : PySem.W.Frag} {mg : Str → Option Value} {base : Heap}
def spLaw (K : PySem.W.Frag) : Sp := fun vs H Q _ => ∃ (a : Addr) (ns : List Int), vs = [.ref a] ∧ SqL K H a (ns.map V.int) ∧ ns.length ≤ 63 ∧ ∀ H', Q (.bl true) H'
theorem seq_rest {t u : TS} {D : Ends} {σ : St} {H : Hp} (J : St → Hp → Prop) (rest : ∀ σ' H', J σ' H' → u D σ' H') (main : ∀ D' : Ends, (∀ σ' H', J σ' H' → D'.nx σ' H') → t D' σ H) : tSeq t u D σ H := main _ rest
theorem nf_ty {K : PySem.W.Frag} {C : Addr} {t : String} (h : PySem.W.subIn K (.type t) (.ref C) = some false) : PySem.W.notFirst K C (.type t) = true := by
  unfold PySem.W.notFirst
  rw [h]
  exact Bool.or_true _
theorem nf_own {K : PySem.W.Frag} {C : Addr} : PySem.W.notFirst K C (.ref C) = true := by
  unfold PySem.W.notFirst
  rw [beq_self_eq_true]
  exact Bool.true_or _
theorem rd_uniq {p q : Int × Int} (hp : Rd p) (hq : Rd q) (e : p.1 * q.2 = q.1 * p.2) : p = q := by
  have a := red_scale hp (Int.ne_of_gt hq.1)
  have b := red_scale hq (Int.ne_of_gt hp.1)
  rw [e, Int.mul_comm p.2 q.2] at a
  exact a.symm.trans b
theorem ord_le {p q : Int × Int} (hp : Rd p) (hq : Rd q) : bLe p q = (bLt p q || decide (p = q)) := by
  unfold bLe bLt
  by_cases e : p = q
  · subst e
    simp
  · have ne : p.1 * q.2 ≠ q.1 * p.2 := fun z => e (rd_uniq hp hq z)
    rw [decide_eq_false e, Bool.or_false]
    exact decide_eq_decide.mpr ⟨fun h => by omega, fun h => by omega⟩
theorem ord_gt {p q : Int × Int} (hp : Rd p) (hq : Rd q) : bGt p q = (!bLt p q && !decide (p = q)) := by
  unfold bGt bLt
  by_cases e : p = q
  · subst e
    simp
  · have ne : p.1 * q.2 ≠ q.1 * p.2 := fun z => e (rd_uniq hp hq z)
    rw [decide_eq_false e, Bool.not_false, Bool.and_true, ← decide_not]
    exact decide_eq_decide.mpr ⟨fun h => by omega, fun h => by omega⟩
theorem ord_ge {p q : Int × Int} (hp : Rd p) (hq : Rd q) : bGe p q = ((!bLt p q && !decide (p = q)) || decide (p = q)) := by
  rw [← ord_gt hp hq]
  unfold bGe bGt
  by_cases e : p = q
  · subst e
    simp
  · have ne : p.1 * q.2 ≠ q.1 * p.2 := fun z => e (rd_uniq hp hq z)
    rw [decide_eq_false e, Bool.or_false]
    exact decide_eq_decide.mpr ⟨fun h => by omega, fun h => by omega⟩
section
variable {T : Tx K mg} {H : Hp} {x y : V} {a b : Int × Int} {Q : VK} {E : XK} {c : Bool}
theorem num_ty (T : Tx K mg) (hy : NumAt T.Exact_a H y b) : ∃ t, TyX K H y t ∧ PySem.W.notFirst K T.Exact_a t = true := by
  rcases hy.cases with ⟨rfl, _⟩ | ⟨q, dy, rfl, hq⟩
  · exact ⟨_, .base (.int _), nf_ty T.Exact_up_int⟩
  · exact ⟨_, .base (.ins hq T.Exact_cl T.Exact_i1 T.Exact_i2 T.Exact_i3 T.Exact_i4), nf_own⟩
theorem rc_xy {f : Int × Int → Int × Int → Bool} (hx : ExAt T.Exact_a H x a) (hy : NumAt T.Exact_a H y b) (na : Nm a) (nb : Nm b) (e : f a b = c) (k : ∀ H', Same H H' → Q (.bl c) H') : rGyC K T.Exact_a (spCmp T.Exact_a f) E x y H Q := by
  subst e
  obtain ⟨p, dx, rfl, hp⟩ := id hx
  obtain ⟨t, ty, nf⟩ := num_ty T hy
  exact ⟨p, dx, _, t, rfl, hp, ty, nf, _, _, a, b, rfl, hx, hy, na, nb, k⟩
theorem rc_yx {X : Cx} {op : CmpOp} {f g : Int × Int → Int × Int → Bool} (tn : ∀ i, Turns X T.Exact_a op (.int i) H) (hx : ExAt T.Exact_a H x a) (hy : NumAt T.Exact_a H y b) (na : Nm a) (nb : Nm b) (e1 : f b a = c) (e2 : g a b = c) (k : ∀ H', Same H H' → Q (.bl c) H') :
    rGyC K T.Exact_a (spCmp T.Exact_a f) E y x H Q ∨ rGyCR X op T.Exact_a (spCmp T.Exact_a g) E y x H Q := by
  rcases hy.cases with ⟨rfl, h1⟩ | ⟨q, dy, rfl, hq⟩
  · obtain ⟨p, dx, rfl, hp⟩ := id hx
    exact .inr ⟨p, dx, _, rfl, hp, tn _, _, _, a, b, rfl, hx, hy, na, nb, by rw [e2]; exact k⟩
  · exact .inl (rc_xy ⟨q, dy, rfl, hq⟩ (.inr hx) nb na e1 k)
theorem rc_eq (hx : ExAt T.Exact_a H x a) (hy : NumAt T.Exact_a H y b) (e : decide (a = b) = c) (k : ∀ H', Same H H' → Q (.bl c) H') : rGyC K T.Exact_a (spExEq K T.Exact_a) E x y H Q := by
  subst e
  obtain ⟨p, dx, rfl, hp⟩ := id hx
  obtain ⟨t, ty, nf⟩ := num_ty T hy
  exact ⟨p, dx, _, t, rfl, hp, ty, nf, _, _, a, rfl, hx, .inl ⟨b, hy, k⟩⟩
theorem rc_qe {X : Cx} (tn : ∀ i, Turns X T.Exact_a .Eq (.int i) H) (hx : ExAt T.Exact_a H x a) (hy : NumAt T.Exact_a H y b) (e : decide (a = b) = c) (k : ∀ H', Same H H' → Q (.bl c) H') :
    rGyC K T.Exact_a (spExEq K T.Exact_a) E y x H Q ∨ rGyCR X .Eq T.Exact_a (spExEq K T.Exact_a) E y x H Q := by
  rcases hy.cases with ⟨rfl, h1⟩ | ⟨q, dy, rfl, hq⟩
  · obtain ⟨p, dx, rfl, hp⟩ := id hx
    exact .inr ⟨p, dx, _, rfl, hp, tn _, _, _, a, rfl, hx, .inl ⟨b, hy, by rw [e]; exact k⟩⟩
  · exact .inl (rc_eq ⟨q, dy, rfl, hq⟩ (.inr hx) (by rw [← e]; exact decide_eq_decide.mpr eq_comm) k)
theorem rc_ne (hx : ExAt T.Exact_a H x a) (hy : NumAt T.Exact_a H y b) (k : ∀ H', Same H H' → Q (.bl (!decide (a = b))) H') : rGyNe K T.Exact_a (spExEq K T.Exact_a) E x y H Q := by
  obtain ⟨p, dx, rfl, hp⟩ := id hx
  obtain ⟨t, ty, nf⟩ := num_ty T hy
  exact ⟨p, dx, _, t, rfl, hp, ty, nf, _, _, a, rfl, hx, .inl ⟨b, hy, fun H' e => ⟨_, rfl, k H' e⟩⟩⟩
theorem odd_ones (T : Tx K mg) {l1 d1 t1 : Addr} {xs1 xs3 : List V} (h1 : H l1 = some (.lst xs1)) (h2 : H d1 = some (.dK [])) (h3 : H t1 = some (.tup xs3)) {z : Str} (hy : y ∈ ([.non, .bl true, .str z, .ref l1, .ref d1, .ref t1, .bl false] : List V)) :
    ∃ t, TyX K H y t ∧ PySem.W.notFirst K T.Exact_a t = true ∧ NoNum K T.Exact_a H y ∧ ∀ X : Cx, X.K = K → Turns X T.Exact_a .Eq y H := by
  simp only [List.mem_cons, List.not_mem_nil, or_false] at hy
  rcases hy with rfl | rfl | rfl | rfl | rfl | rfl | rfl
  · exact ⟨_, .base .non, nf_ty T.Exact_up_NoneType, ⟨_, false, .base .non, kit_ty (by decide +kernel), nofun, T.Exact_kt_NoneType⟩, fun X hX => turns_neq (hX.symm ▸ T.Exact_dn_NoneType)⟩
  · exact ⟨_, .base (.bl _), nf_ty T.Exact_up_bool, ⟨_, true, .base (.bl _), kit_ty (by decide +kernel), fun _ => kit_ty (by decide +kernel), T.Exact_kt_bool⟩, fun X hX => turns_beq (hX.symm ▸ T.Exact_dn_bool)⟩
  · exact ⟨_, .base (.str _), nf_ty T.Exact_up_str, ⟨_, false, .base (.str _), kit_ty (by decide +kernel), nofun, T.Exact_kt_str⟩, fun X hX => turns_seq (hX.symm ▸ T.Exact_dn_str)⟩
  · exact ⟨_, .base (.lst h1), nf_ty T.Exact_up_list, ⟨_, false, .base (.lst h1), kit_ty (by decide +kernel), nofun, T.Exact_kt_list⟩, fun X hX => turns_list h1 (hX.symm ▸ T.Exact_dn_list)⟩
  · exact ⟨_, .base (.dK h2), nf_ty T.Exact_up_dict, ⟨_, false, .base (.dK h2), kit_ty (by decide +kernel), nofun, T.Exact_kt_dict⟩, fun X hX => turns_dK h2 (hX.symm ▸ T.Exact_dn_dict)⟩
  · exact ⟨_, .base (.tup h3), nf_ty T.Exact_up_tuple, ⟨_, false, .base (.tup h3), kit_ty (by decide +kernel), nofun, T.Exact_kt_tuple⟩, fun X hX => turns_tup h3 (hX.symm ▸ T.Exact_dn_tuple)⟩
  · exact ⟨_, .base (.bl _), nf_ty T.Exact_up_bool, ⟨_, true, .base (.bl _), kit_ty (by decide +kernel), fun _ => kit_ty (by decide +kernel), T.Exact_kt_bool⟩, fun X hX => turns_beq (hX.symm ▸ T.Exact_dn_bool)⟩
end
theorem and_nn {Q : VK} {H : Hp} {σ : St} {b c : Bool} {i j : Nat} (h1 : ∀ R : VK, R (.bl b) H → tVar i σ H R) (h2 : ∀ R : VK, R (.bl c) H → tVar j σ H R) (q : Q (.bl (!b && !c)) H) : tAndV (tNotV (tVar i)) (tNotV (tVar j)) σ H Q := by
  unfold tAndV
  unfold tNotV
  refine h1 _ ⟨b, rfl, !b, rfl, ?_⟩
  cases b with
  | true => exact iteF q
  | false => exact iteT (h2 _ ⟨c, rfl, q⟩)
theorem or_V {Q : VK} {H : Hp} {σ : St} {b c : Bool} {i j : Nat} (h1 : ∀ R : VK, R (.bl b) H → tVar i σ H R) (h2 : ∀ R : VK, R (.bl c) H → tVar j σ H R) (q : Q (.bl (b || c)) H) : tOrV (tVar i) (tVar j) σ H Q := by
  unfold tOrV
  refine h1 _ ⟨b, rfl, ?_⟩
  cases b with
  | true => exact iteT q
  | false => exact iteF (h2 _ q)
theorem asg_nn {u : TS} {g : TG} {D : Ends} {H : Hp} {σ : St} {b c : Bool} {i j : Nat} (h1 : ∀ R : VK, R (.bl b) H → tVar i σ H R) (h2 : ∀ R : VK, R (.bl c) H → tVar j σ H R) (q : g (.bl (!b && !c)) σ H fun σ' H' => u D σ' H') :
    tSeq (tAsg (tAndV (tNotV (tVar i)) (tNotV (tVar j))) g) u D σ H := and_nn h1 h2 q
theorem cons_or {u : TA} {Q : List V → Hp → Prop} {H : Hp} {σ : St} {b c : Bool} {i j : Nat} (h1 : ∀ R : VK, R (.bl b) H → tVar i σ H R) (h2 : ∀ R : VK, R (.bl c) H → tVar j σ H R) (q : u σ H fun xs H2 => Q (.bl (b || c) :: xs) H2) :
    tCons (tOrV (tVar i) (tVar j)) u σ H Q := or_V h1 h2 q
theorem pow9 : (10 : Int) ^ Int.toNat 9 = 1000000000 := by decide +kernel
theorem pow20 : (10 : Int) ^ Int.toNat 20 = 100000000000000000000 := by decide +kernel
theorem ok_law (T : Tx K mg) : FnOk P w K mg base CX0 12 T.law_a T.law_d ["_law_script"] (spLaw K) := by
  refine T.law_F.ok sc_law (fun vs H Q E h => ?_) (fun cdv A outer s H vs Q E hr h => ?_)
  · obtain ⟨a, ns, rfl, _⟩ := h
    rfl
  · obtain ⟨a0, ns, rfl, hS, hl, k⟩ := h
    refine ⟨_, (pss_cons (ps_set (i := 1) sc_law.nd rfl (Or.inl rfl) (pe_call (ok_law_fresh T) (hr.mono (by decide)) rfl T.law_fresh_m T.law_fresh_F.kp T.law_fresh_b .nil pass0 (pa_cons (pv 0) pa_nil)))
  (pss_cons (ps_for PassesOwn.never rfl (pi_range1 rfl T.z_range (pa_cons pe_int pa_nil)) (pg_name (i := 2) sc_law.nd rfl (Or.inl rfl))
  (pss_cons (ps_set (i := 3) sc_law.nd rfl (Or.inl rfl) (pe_call (ok_law_some_frac T) (hr.mono (by decide)) rfl T.law_some_frac_m T.law_some_frac_F.kp T.law_some_frac_b .nil pass0 (pa_cons (pv 1) pa_nil)))
  (pss_cons (ps_set (i := 4) sc_law.nd rfl (Or.inl rfl) (pe_call (ok_law_one T) (hr.mono (by decide)) rfl T.law_one_m T.law_one_F.kp T.law_one_b .nil pass0 (pa_cons (pv 1) (pa_cons (pe_lst (pa_cons (pe_tup (pa_cons pe_int (pa_cons pe_int pa_nil))) (pa_cons (pe_tup (pa_cons pe_int (pa_cons (pe_op (op_pow) pe_int pe_int) pa_nil))) (pa_cons (pe_tup (pa_cons (pe_un (un_neg) pe_int) (pa_cons (pe_op (op_pow) pe_int pe_int) pa_nil))) (pa_cons (pe_tup (pa_cons pe_int (pa_cons pe_int pa_nil))) (pa_cons (pe_call (ok_law_some_frac T) (hr.mono (by decide)) rfl T.law_some_frac_m T.law_some_frac_F.kp T.law_some_frac_b .nil pass0 (pa_cons (pv 1) pa_nil)) pa_nil)))))) pa_nil))))
  (pss_cons (ps_set (i := 5) sc_law.nd rfl (Or.inl rfl) (pe_call (ok_law_add T) (hr.mono (by decide)) rfl T.law_add_m T.law_add_F.kp T.law_add_b .nil pass0 (pa_cons (pv 3) (pa_cons (pv 4) pa_nil))))
  (pss_cons (ps_if (PW.pt (pw_or (pt_cmpR op_gt (pe_ix ix_tup (pv 5) pe_int (fun _ _ => rfl)) (pe_op (op_pow) pe_int pe_int) (nomark _)) (pw_or (pt_cmpR op_gt (pe_ix ix_tup (pv 5) pe_int (fun _ _ => rfl)) (pe_op (op_pow) pe_int pe_int) (nomark _)) (pw_or1 (pt_cmpR op_lt (pe_ix ix_tup (pv 5) pe_int (fun _ _ => rfl)) (pe_un (un_neg) (pe_op (op_pow) pe_int pe_int)) (nomark _))))))
  (pss_one (ps_set (i := 5) sc_law.nd rfl (Or.inl rfl) (pe_call (ok_law_some_frac T) (hr.mono (by decide)) rfl T.law_some_frac_m T.law_some_frac_F.kp T.law_some_frac_b .nil pass0 (pa_cons (pv 1) pa_nil))))
  pss_nil)
  (pss_cons (ps_par (i := 6) (j := 7) (by rfl) sc_law.nd rfl rfl (by decide) rfl rfl (pa_cons (pe_make T.Exact_mk (ok_Exact_init T) (hr.mono (by decide)) rfl T.Exact_m T.Exact_init_b .nil pass0 (pa_cons (pe_ix ix_tup (pv 3) pe_int (fun _ _ => rfl)) (pa_cons (pe_ix ix_tup (pv 3) pe_int (fun _ _ => rfl)) pa_nil))) (pa_cons (pe_call (ok_law_as_number T) (hr.mono (by decide)) rfl T.law_as_number_m T.law_as_number_F.kp T.law_as_number_b .nil pass0 (pa_cons (pv 1) (pa_cons (pv 5) pa_nil))) pa_nil)) (by rfl))
  (pss_cons (ps_par (i := 8) (j := 9) (by rfl) sc_law.nd rfl rfl (by decide) rfl rfl (pa_cons (pe_call (ok_law_less T) (hr.mono (by decide)) rfl T.law_less_m T.law_less_F.kp T.law_less_b .nil pass0 (pa_cons (pv 3) (pa_cons (pv 5) pa_nil))) (pa_cons (pe_cmpR (op_eqD hr.units) (pv 3) (pv 5) (nomark _)) pa_nil)) (by rfl))
  (pss_cons (ps_set (i := 10) sc_law.nd rfl (Or.inl rfl) (pe_lst (pa_cons (pe_cmpR (op_gyC (op := .Lt) (fun _ _ => rfl) T.Exact_lt_M.at_ T.Exact_lt_M.fn (ok_Exact_lt T) (hr.mono (by decide)) T.Exact_lt_b pass0) (pv 6) (pv 7) (nomark _)) (pa_cons (pe_cmpR (op_gyC (op := .LtE) (fun _ _ => rfl) T.Exact_le_M.at_ T.Exact_le_M.fn (ok_Exact_le T) (hr.mono (by decide)) T.Exact_le_b pass0) (pv 6) (pv 7) (nomark _)) (pa_cons (pe_cmpR (op_gyC (op := .Gt) (fun _ _ => rfl) T.Exact_gt_M.at_ T.Exact_gt_M.fn (ok_Exact_gt T) (hr.mono (by decide)) T.Exact_gt_b pass0) (pv 6) (pv 7) (nomark _)) (pa_cons (pe_cmpR (op_gyC (op := .GtE) (fun _ _ => rfl) T.Exact_ge_M.at_ T.Exact_ge_M.fn (ok_Exact_ge T) (hr.mono (by decide)) T.Exact_ge_b pass0) (pv 6) (pv 7) (nomark _)) (pa_cons (pe_cmpR (op_gyC (op := .Eq) (fun _ _ => rfl) T.Exact_eq_M.at_ T.Exact_eq_M.fn (ok_Exact_eq T) (hr.mono (by decide)) T.Exact_eq_b pass0) (pv 6) (pv 7) (nomark _)) (pa_cons (pe_cmpR ((op_gyC (op := .Lt) (fun _ _ => rfl) T.Exact_lt_M.at_ T.Exact_lt_M.fn (ok_Exact_lt T) (hr.mono (by decide)) T.Exact_lt_b pass0).or (op_gyCR (op := .Lt) (fun _ _ => rfl) T.Exact_gt_M.at_ T.Exact_gt_M.fn (ok_Exact_gt T) (hr.mono (by decide)) T.Exact_gt_b pass0)) (pv 7) (pv 6) (nomark _)) (pa_cons (pe_cmpR ((op_gyC (op := .LtE) (fun _ _ => rfl) T.Exact_le_M.at_ T.Exact_le_M.fn (ok_Exact_le T) (hr.mono (by decide)) T.Exact_le_b pass0).or (op_gyCR (op := .LtE) (fun _ _ => rfl) T.Exact_ge_M.at_ T.Exact_ge_M.fn (ok_Exact_ge T) (hr.mono (by decide)) T.Exact_ge_b pass0)) (pv 7) (pv 6) (nomark _)) (pa_cons (pe_cmpR ((op_gyC (op := .Gt) (fun _ _ => rfl) T.Exact_gt_M.at_ T.Exact_gt_M.fn (ok_Exact_gt T) (hr.mono (by decide)) T.Exact_gt_b pass0).or (op_gyCR (op := .Gt) (fun _ _ => rfl) T.Exact_lt_M.at_ T.Exact_lt_M.fn (ok_Exact_lt T) (hr.mono (by decide)) T.Exact_lt_b pass0)) (pv 7) (pv 6) (nomark _)) (pa_cons (pe_cmpR ((op_gyC (op := .GtE) (fun _ _ => rfl) T.Exact_ge_M.at_ T.Exact_ge_M.fn (ok_Exact_ge T) (hr.mono (by decide)) T.Exact_ge_b pass0).or (op_gyCR (op := .GtE) (fun _ _ => rfl) T.Exact_le_M.at_ T.Exact_le_M.fn (ok_Exact_le T) (hr.mono (by decide)) T.Exact_le_b pass0)) (pv 7) (pv 6) (nomark _)) (pa_cons (pe_cmpR ((op_gyC (op := .Eq) (fun _ _ => rfl) T.Exact_eq_M.at_ T.Exact_eq_M.fn (ok_Exact_eq T) (hr.mono (by decide)) T.Exact_eq_b pass0).or (op_gyCR (op := .Eq) (fun _ _ => rfl) T.Exact_eq_M.at_ T.Exact_eq_M.fn (ok_Exact_eq T) (hr.mono (by decide)) T.Exact_eq_b pass0)) (pv 7) (pv 6) (nomark _)) (pa_cons (pe_cmpR (op_gyNe T.Exact_ne T.Exact_eq_M.at_ T.Exact_eq_M.fn T.Exact_i4 (ok_Exact_eq T) (hr.mono (by decide)) T.Exact_eq_b pass0) (pv 6) (pv 7) (nomark _)) pa_nil)))))))))))))
  (pss_cons (ps_set (i := 11) sc_law.nd rfl (Or.inl rfl) (pe_and (pe_not (pv 8)) (pe_one (pe_not (pv 9)))))
  (pss_cons (ps_set (i := 12) sc_law.nd rfl (Or.inl rfl) (pe_lst (pa_cons (pv 8) (pa_cons (pe_or (pv 8) (pe_one (pv 9))) (pa_cons (pv 11) (pa_cons (pe_or (pv 11) (pe_one (pv 9))) (pa_cons (pv 9) (pa_cons (pv 11) (pa_cons (pe_or (pv 11) (pe_one (pv 9))) (pa_cons (pv 8) (pa_cons (pe_or (pv 8) (pe_one (pv 9))) (pa_cons (pv 9) (pa_cons (pe_not (pv 9)) pa_nil)))))))))))))
  (pss_cons (ps_if (pt_not (pt_val (pe_call (ok_law_sameN T 1) (hr.mono (by decide)) rfl T.law_same_m T.law_same_F.kp T.law_same_b .nil pass0 (pa_cons (pv 10) (pa_cons (pv 12) pa_nil)))))
  (pss_one (ps_ret pe_bl))
  pss_nil)
  (pss_cons (ps_set (i := 13) sc_law.nd rfl (Or.inl rfl) (pe_lst (pa_cons pe_non (pa_cons pe_bl (pa_cons pe_str (pa_cons (pe_lst (pa_cons (pe_ix ix_tup (pv 3) pe_int (fun _ _ => rfl)) pa_nil)) (pa_cons pe_dnewK (pa_cons (pe_tup (pa_cons (pe_ix ix_tup (pv 3) pe_int (fun _ _ => rfl)) (pa_cons (pe_ix ix_tup (pv 3) pe_int (fun _ _ => rfl)) pa_nil))) (pa_cons pe_bl pa_nil)))))))))
  (pss_one (ps_for PassesOwn.never rfl (pi_list (pv 13)) (pg_name (i := 14) sc_law.nd rfl (Or.inl rfl))
  (pss_one (ps_if (PW.pt (pw_or (pt_cmpR (op_gyC (op := .Eq) (fun _ _ => rfl) T.Exact_eq_M.at_ T.Exact_eq_M.fn (ok_Exact_eq T) (hr.mono (by decide)) T.Exact_eq_b pass0) (pv 6) (pv 14) (nomark _)) (pw_or (pt_not (pt_cmpR (op_gyNe T.Exact_ne T.Exact_eq_M.at_ T.Exact_eq_M.fn T.Exact_i4 (ok_Exact_eq T) (hr.mono (by decide)) T.Exact_eq_b pass0) (pv 6) (pv 14) (nomark _))) (pw_or1 (pt_cmpR (op_gyCR (op := .Eq) (fun _ _ => rfl) T.Exact_eq_M.at_ T.Exact_eq_M.fn (ok_Exact_eq T) (hr.mono (by decide)) T.Exact_eq_b pass0) (pv 14) (pv 6) (nomark _))))))
  (pss_one (ps_ret pe_bl))
  pss_nil))))))))))))))))
  (pss_one (ps_ret (pe_cmpR (op_gyC (op := .Eq) (fun _ _ => rfl) T.Exact_eq_M.at_ T.Exact_eq_M.fn (ok_Exact_eq T) (hr.mono (by decide)) T.Exact_eq_b pass0) (pe_make T.Exact_mk (ok_Exact_init T) (hr.mono (by decide)) rfl T.Exact_m T.Exact_init_bd2 (dvs := [.int 1]) T.Exact_init_v2 pass0 (pa_cons pe_int pa_nil)) pe_int (nomark _)))))), ?_⟩
    refine ⟨_, rfl, a0, ns, rfl, hS, hl, fun st c H0 s0 hSt0 => ?_⟩
    refine ⟨8, rfl, by decide, by decide, for_range (n := 8) (fun i σ H1 => (∃ v2 v3 v4 v5 v6 v7 v8 v9 v10 v11 v12 v13 v14, σ = [some (.ref a0), some (.ref st), v2, v3, v4, v5, v6, v7, v8, v9, v10, v11, v12, v13, v14]) ∧ StAt H1 st c ns)
      ⟨⟨none, none, none, none, none, none, none, none, none, none, none, none, none, rfl⟩, hSt0⟩ ?_ ?_⟩
    · rintro i σ H1 hi ⟨⟨v2, v3, v4, v5, v6, v7, v8, v9, v10, v11, v12, v13, v14, rfl⟩, hSt⟩
      -- a
      refine ⟨_, rfl, st, c, ns, rfl, hSt, hl, fun ta pa H2 s2 k2 ha ra da => ?_⟩
      have na := da.nm
      have hp9 : CPow 10 9 := ⟨by decide, by decide, by decide⟩
      have hp20 : CPow 10 20 := ⟨by decide, by decide, by decide⟩
      have hp38 : CPow 10 38 := ⟨by decide, by decide, by decide⟩
      -- far
      refine ⟨_, rfl, (by show 2 ≤ sizeLine; decide), fun t1 n1 => ?_⟩
      have g1 : Same H2 (upd H2 t1 (.tup [.int 0, .int 1])) := same_upd n1
      have h1 : (upd H2 t1 (.tup [.int 0, .int 1])) t1 = some (.tup [.int 0, .int 1]) := upd_same
      generalize upd H2 t1 (.tup [.int 0, .int 1]) = G1 at g1 h1 ⊢
      refine ⟨_, _, rfl, rfl, hp9, (by show 2 ≤ sizeLine; decide), fun t2 n2 => ?_⟩
      dsimp only
      rw [pow9]
      have g2 : Same G1 (upd G1 t2 (.tup [.int 1, .int 1000000000])) := same_upd n2
      have h2 : (upd G1 t2 (.tup [.int 1, .int 1000000000])) t2 = some (.tup [.int 1, .int 1000000000]) := upd_same
      generalize upd G1 t2 (.tup [.int 1, .int 1000000000]) = G2 at g2 h2 ⊢
      refine ⟨_, rfl, _, _, rfl, rfl, hp9, (by show 2 ≤ sizeLine; decide), fun t3 n3 => ?_⟩
      dsimp only
      rw [pow9]
      have g3 : Same G2 (upd G2 t3 (.tup [.int (-1), .int 1000000000])) := same_upd n3
      have h3 : (upd G2 t3 (.tup [.int (-1), .int 1000000000])) t3 = some (.tup [.int (-1), .int 1000000000]) := upd_same
      generalize upd G2 t3 (.tup [.int (-1), .int 1000000000]) = G3 at g3 h3 ⊢
      refine ⟨(by show 2 ≤ sizeLine; decide), fun t4 n4 => ?_⟩
      have g4 : Same G3 (upd G3 t4 (.tup [.int 1, .int 1])) := same_upd n4
      have h4 : (upd G3 t4 (.tup [.int 1, .int 1])) t4 = some (.tup [.int 1, .int 1]) := upd_same
      generalize upd G3 t4 (.tup [.int 1, .int 1]) = G4 at g4 h4 ⊢
      have g14 := ((g1.trans g2).trans g3).trans g4
      refine ⟨_, rfl, st, c, ns, rfl, s2.same g14, hl, fun t5 p5 H3 s3 k3 h5 r5 d5 => ⟨(by show 5 ≤ sizeLine; decide), fun l nl => ?_⟩⟩
      have q4 := (show PairAt G4 t4 (1, 1) from h4).keep k3 (s2.same g14)
      have q3 := ((show PairAt G3 t3 (-1, 1000000000) from h3).same g4).keep k3 (s2.same g14)
      have q2 := ((show PairAt G2 t2 (1, 1000000000) from h2).same (g3.trans g4)).keep k3 (s2.same g14)
      have q1 := ((show PairAt G1 t1 (0, 1) from h1).same ((g2.trans g3).trans g4)).keep k3 (s2.same g14)
      have ha := ((ha.same g14).keep k3 (s2.same g14))
      obtain ⟨_, _, _, hL⟩ := id s3.1
      have gL := same_upd (o := .lst [.ref t1, .ref t2, .ref t3, .ref t4, .ref t5]) nl
      refine ⟨st, c, l, ns, _, rfl, s3.same gL, hl, upd_same, (ne_of_none hL nl).symm, List.cons_ne_nil _ _, by show 5 ≤ 1000; decide, fun v H4 hv s4 k4 => ?_⟩
      have fars : ∃ (tf : Addr) (pf : Int × Int), v = .ref tf ∧ PairAt H4 tf pf ∧ Rd pf ∧ Dn pf := by
        have up : ∀ t p, PairAt H3 t p → PairAt H4 t p := fun t p z => (z.same gL).keep k4 (s3.same gL)
        simp only [List.mem_cons, List.not_mem_nil, or_false] at hv
        rcases hv with rfl | rfl | rfl | rfl | rfl
        · exact ⟨t1, _, rfl, up _ _ q1, ⟨by decide, by decide⟩, ⟨by decide, by decide, by decide⟩⟩
        · exact ⟨t2, _, rfl, up _ _ q2, ⟨by decide, by decide⟩, ⟨by decide, by decide, by decide⟩⟩
        · exact ⟨t3, _, rfl, up _ _ q3, ⟨by decide, by decide⟩, ⟨by decide, by decide, by decide⟩⟩
        · exact ⟨t4, _, rfl, up _ _ q4, ⟨by decide, by decide⟩, ⟨by decide, by decide, by decide⟩⟩
        · exact ⟨t5, _, rfl, up _ _ h5, r5, d5⟩
      obtain ⟨tf, pf, rfl, hf, rf, df⟩ := fars
      have ha := (ha.same gL).keep k4 (s3.same gL)
      have nf := df.nm
      -- b
      have nz : (fAdd pa pf).2 ≠ 0 := Int.ne_of_gt (Int.mul_pos na.1 nf.1)
      refine ⟨_, rfl, _, rfl, ta, tf, pa, pf, rfl, ha, hf, na.2.1, na.2.2, nf.2.1, nf.2.2, nz, fun t6 H5 g5 h6 => ?_⟩
      have s5 := s4.same g5
      have ha := ha.same g5
      have nb0 : Nm (red (fAdd pa pf).1 (fAdd pa pf).2) := by
        have z1 := sz_mul da.2.1 df.2.2
        have z2 := sz_mul df.2.1 da.2.2
        have z3 := sz_mul da.2.2 df.2.2
        have e0 : (pa.1 * pf.2 + pf.1 * pa.2).natAbs < 2 ^ 181 := by omega
        have rs := red_sz nz e0 z3
        exact ⟨(red_rd nz).1, sz_up rs.1 (by decide), sz_up rs.2 (by decide)⟩
      have rb0 : Rd (red (fAdd pa pf).1 (fAdd pa pf).2) := red_rd nz
      generalize red (fAdd pa pf).1 (fAdd pa pf).2 = p6 at h6 nb0 rb0
      dsimp only [gName]
      show tSeq (tIfS _ _ _) _ _ _ _
      refine seq_rest (fun σ HB => ∃ (tb : Addr) (pb : Int × Int), σ = [some (.ref a0), some (.ref st), some (.int (0 + (i : Nat))), some (.ref ta), some (.ref tf), some (.ref tb), v6, v7, v8, v9, v10, v11, v12, v13, v14] ∧ StAt HB st c ns ∧ PairAt HB ta pa ∧ PairAt HB tb pb ∧ Rd pb ∧ Nm pb) ?_ ?_
      · rintro σ HB ⟨tb, pb, rfl, sB, ha, hb, rb, nb⟩
        have ha0 := ha
        -- x, y
        refine ⟨_, rfl, ta, _, _, _, rfl, rfl, .inl (.inl ha), rfl, _, rfl, ta, _, _, _, rfl, rfl, .inl (.inl ha), rfl, ?_⟩
        refine fun x dx nx nd _ => mk_ex1 nx nd (Int.ne_of_gt na.1) (sz_up na.2.2 (by decide)) fun H6 s6 hx => ?_
        rw [red_self ra] at hx
        generalize V.ref x = x at hx ⊢
        refine ⟨_, rfl, _, rfl, st, c, tb, ns, pb, rfl, sB.same s6, hl, hb.same s6, rb, nb, fun y H7 s7 k7 hy => ⟨_, _, rfl, ?_⟩⟩
        have hx := hx.keep k7 (sB.same s6)
        have ha := (ha.same s6).keep k7 (sB.same s6)
        have hb := (hb.same s6).keep k7 (sB.same s6)
        -- less, same
        have hL0 : bLt pa pb = bLt pa pb := rfl
        refine ⟨_, rfl, _, rfl, ta, tb, pa, pb, rfl, ha, hb, na.2.1, na.2.2, nb.2.1, nb.2.2, _, rfl, _, rfl, dp pa, dp pb, dpPair ha, dpPair hb, rfl, rfl, _, _, rfl, ?_⟩
        rw [show PyData.eqv (dp pa) (dp pb) = decide (pa = pb) from (dp_eqv pa pb).trans (decide_eq_decide.mpr eq_comm)]
        have eLe := ord_le ra rb
        have eGt := ord_gt ra rb
        have eGe := ord_ge ra rb
        have eNe : (!decide (pa = pb)) = !decide (pa = pb) := rfl
        have eY1 : bLt pb pa = bGt pa pb := rfl
        have eY2 : bLe pb pa = bGe pa pb := rfl
        have eY3 : bGt pb pa = bLt pa pb := rfl
        have eY4 : bGe pb pa = bLe pa pb := rfl
        -- found
        refine ⟨_, rfl, _, rfl, rc_xy hx hy na nb rfl fun F1 g1 => ?_⟩
        have hx := hx.same g1
        have hy := hy.same g1
        have ha := ha.same g1
        have s7 := s7.same g1
        refine ⟨_, rfl, _, rfl, rc_xy hx hy na nb eLe fun F2 g2 => ?_⟩
        have hx := hx.same g2
        have hy := hy.same g2
        have ha := ha.same g2
        have s7 := s7.same g2
        refine ⟨_, rfl, _, rfl, rc_xy hx hy na nb eGt fun F3 g3 => ?_⟩
        have hx := hx.same g3
        have hy := hy.same g3
        have ha := ha.same g3
        have s7 := s7.same g3
        refine ⟨_, rfl, _, rfl, rc_xy hx hy na nb eGe fun F4 g4 => ?_⟩
        have hx := hx.same g4
        have hy := hy.same g4
        have ha := ha.same g4
        have s7 := s7.same g4
        refine ⟨_, rfl, _, rfl, rc_eq hx hy rfl fun F5 g5 => ?_⟩
        have hx := hx.same g5
        have hy := hy.same g5
        have ha := ha.same g5
        have s7 := s7.same g5
        refine ⟨_, rfl, _, rfl, rc_yx (fun i => turns_lt T.Exact_dn_int) hx hy na nb (eY1.trans eGt) eGt fun F6 g6 => ?_⟩
        have hx := hx.same g6
        have hy := hy.same g6
        have ha := ha.same g6
        have s7 := s7.same g6
        refine ⟨_, rfl, _, rfl, rc_yx (fun i => turns_le T.Exact_dn_int) hx hy na nb (eY2.trans eGe) eGe fun F7 g7 => ?_⟩
        have hx := hx.same g7
        have hy := hy.same g7
        have ha := ha.same g7
        have s7 := s7.same g7
        refine ⟨_, rfl, _, rfl, rc_yx (fun i => turns_gt T.Exact_dn_int) hx hy na nb eY3 rfl fun F8 g8 => ?_⟩
        have hx := hx.same g8
        have hy := hy.same g8
        have ha := ha.same g8
        have s7 := s7.same g8
        refine ⟨_, rfl, _, rfl, rc_yx (fun i => turns_ge T.Exact_dn_int) hx hy na nb (eY4.trans eLe) eLe fun F9 g9 => ?_⟩
        have hx := hx.same g9
        have hy := hy.same g9
        have ha := ha.same g9
        have s7 := s7.same g9
        refine ⟨_, rfl, _, rfl, rc_qe (fun i => turns_eq T.Exact_dn_int) hx hy rfl fun F10 g10 => ?_⟩
        have hx := hx.same g10
        have hy := hy.same g10
        have ha := ha.same g10
        have s7 := s7.same g10
        refine ⟨_, rfl, _, rfl, rc_ne hx hy fun F11 g11 => ?_⟩
        have hx := hx.same g11
        have hy := hy.same g11
        have ha := ha.same g11
        have s7 := s7.same g11
        refine ⟨(by show 11 ≤ sizeLine; decide), fun lf nlf => ?_⟩
        clear eLe eGt eGe eNe eY1 eY2 eY3 eY4
        generalize bLt pa pb = L
        generalize decide (pa = pb) = S
        have gF : Same F11 (upd F11 lf (.lst [.bl L, .bl (L || S), .bl (!L && !S), .bl ((!L && !S) || S), .bl S, .bl (!L && !S), .bl ((!L && !S) || S), .bl L, .bl (L || S), .bl S, .bl (!S)])) := same_upd nlf
        have hF : (upd F11 lf (.lst [.bl L, .bl (L || S), .bl (!L && !S), .bl ((!L && !S) || S), .bl S, .bl (!L && !S), .bl ((!L && !S) || S), .bl L, .bl (L || S), .bl S, .bl (!S)])) lf = some (.lst [.bl L, .bl (L || S), .bl (!L && !S), .bl ((!L && !S) || S), .bl S, .bl (!L && !S), .bl ((!L && !S) || S), .bl L, .bl (L || S), .bl S, .bl (!S)]) := upd_same
        generalize upd F11 lf (.lst [.bl L, .bl (L || S), .bl (!L && !S), .bl ((!L && !S) || S), .bl S, .bl (!L && !S), .bl ((!L && !S) || S), .bl L, .bl (L || S), .bl S, .bl (!S)]) = FF at gF hF ⊢
        dsimp only [gName]
        show tSeq (tAsg (tAndV _ _) _) _ _ _ _
        refine asg_nn (b := L) (c := S) (fun R z => ⟨_, rfl, z⟩) (fun R z => ⟨_, rfl, z⟩) ?_
        refine ⟨_, rfl, cons_or (b := L) (c := S) (fun R z => ⟨_, rfl, z⟩) (fun R z => ⟨_, rfl, z⟩) ⟨_, rfl, cons_or (b := !L && !S) (c := S) (fun R z => ⟨_, rfl, z⟩) (fun R z => ⟨_, rfl, z⟩) ⟨_, rfl, _, rfl, cons_or (b := !L && !S) (c := S) (fun R z => ⟨_, rfl, z⟩) (fun R z => ⟨_, rfl, z⟩) ⟨_, rfl, cons_or (b := L) (c := S) (fun R z => ⟨_, rfl, z⟩) (fun R z => ⟨_, rfl, z⟩) ⟨_, rfl, _, rfl, _, rfl, (by show 11 ≤ sizeLine; decide), fun ld nld => ?_⟩⟩⟩⟩⟩
        have gD : Same FF (upd FF ld (.lst [.bl L, .bl (L || S), .bl (!L && !S), .bl ((!L && !S) || S), .bl S, .bl (!L && !S), .bl ((!L && !S) || S), .bl L, .bl (L || S), .bl S, .bl (!S)])) := same_upd nld
        have hD : (upd FF ld (.lst [.bl L, .bl (L || S), .bl (!L && !S), .bl ((!L && !S) || S), .bl S, .bl (!L && !S), .bl ((!L && !S) || S), .bl L, .bl (L || S), .bl S, .bl (!S)])) ld = some (.lst [.bl L, .bl (L || S), .bl (!L && !S), .bl ((!L && !S) || S), .bl S, .bl (!L && !S), .bl ((!L && !S) || S), .bl L, .bl (L || S), .bl S, .bl (!S)]) := upd_same
        generalize upd FF ld (.lst [.bl L, .bl (L || S), .bl (!L && !S), .bl ((!L && !S) || S), .bl S, .bl (!L && !S), .bl ((!L && !S) || S), .bl L, .bl (L || S), .bl S, .bl (!S)]) = FD at gD hD ⊢
        refine ⟨_, rfl, _, rfl, .ref lf, .ref ld, .lst [.bl L, .bl (L || S), .bl (!L && !S), .bl ((!L && !S) || S), .bl S, .bl (!L && !S), .bl ((!L && !S) || S), .bl L, .bl (L || S), .bl S, .bl (!S)], rfl, .lst (gD _ _ hF) (by show 11 ≤ 1000; decide) (.cons (.bl _) (.cons (.bl _) (.cons (.bl _) (.cons (.bl _) (.cons (.bl _) (.cons (.bl _) (.cons (.bl _) (.cons (.bl _) (.cons (.bl _) (.cons (.bl _) (.cons (.bl _) .nil))))))))))), .lst hD (by show 11 ≤ 1000; decide) (.cons (.bl _) (.cons (.bl _) (.cons (.bl _) (.cons (.bl _) (.cons (.bl _) (.cons (.bl _) (.cons (.bl _) (.cons (.bl _) (.cons (.bl _) (.cons (.bl _) (.cons (.bl _) .nil))))))))))), ?_, fun FS gS => ⟨_, rfl, iteF ?_⟩⟩
        · intro d hd
          simp only [List.mem_cons, List.not_mem_nil, or_false] at hd
          rcases hd with rfl | rfl | rfl | rfl | rfl | rfl | rfl | rfl | rfl | rfl | rfl <;> trivial
        have gX := (gF.trans gD).trans gS
        have hx := hx.same gX
        have ha := ha.same gX
        have s7 := s7.same gX
        -- others
        refine ⟨_, rfl, ta, _, _, _, rfl, rfl, .inl (.inl ha), rfl, (by show 1 ≤ sizeLine; decide), fun l1 nl1 => ?_⟩
        have o1 : Same FS (upd FS l1 (.lst [.int pa.1])) := same_upd nl1
        have q1 : (upd FS l1 (.lst [.int pa.1])) l1 = some (.lst [.int pa.1]) := upd_same
        generalize upd FS l1 (.lst [.int pa.1]) = O1 at o1 q1 ⊢
        refine fun d1 nd1 => ?_
        have o2 : Same O1 (upd O1 d1 (.dK [])) := same_upd nd1
        have q2 : (upd O1 d1 (.dK [])) d1 = some (.dK []) := upd_same
        generalize upd O1 d1 (.dK []) = O2 at o2 q2 ⊢
        have ha := (ha.same o1).same o2
        refine ⟨_, rfl, ta, _, _, _, rfl, rfl, .inl (.inl ha), rfl, _, rfl, ta, _, _, _, rfl, rfl, .inl (.inl ha), rfl, (by show 2 ≤ sizeLine; decide), fun t9 nt9 => ?_⟩
        have o3 : Same O2 (upd O2 t9 (.tup [.int pa.1, .int pa.2])) := same_upd nt9
        have q3 : (upd O2 t9 (.tup [.int pa.1, .int pa.2])) t9 = some (.tup [.int pa.1, .int pa.2]) := upd_same
        generalize upd O2 t9 (.tup [.int pa.1, .int pa.2]) = O3 at o3 q3 ⊢
        refine ⟨(by show 7 ≤ sizeLine; decide), fun lq nlq => ?_⟩
        have o4 : Same O3 (upd O3 lq (.lst [.non, .bl true, .str "3", .ref l1, .ref d1, .ref t9, .bl false])) := same_upd nlq
        have q4 : (upd O3 lq (.lst [.non, .bl true, .str "3", .ref l1, .ref d1, .ref t9, .bl false])) lq = some (.lst [.non, .bl true, .str "3", .ref l1, .ref d1, .ref t9, .bl false]) := upd_same
        generalize upd O3 lq (.lst [.non, .bl true, .str "3", .ref l1, .ref d1, .ref t9, .bl false]) = O4 at o4 q4 ⊢
        have oX := ((o1.trans o2).trans o3).trans o4
        obtain ⟨p, dx', rfl, hp⟩ := id (hx.same oX)
        have s9 := s7.same oX
        have w1 := ((o2.trans o3).trans o4) _ _ q1
        have w2 := (o3.trans o4) _ _ q2
        have w3 := o4 _ _ q3
        refine ⟨_, rfl, lq, rfl, ⟨_, .inl (.inl q4)⟩, for_list (K := K) (a := lq) (xs := [.non, .bl true, .str "3", .ref l1, .ref d1, .ref t9, .bl false]) (fun i' σ H2 => (∃ u14, σ = [some (.ref a0), some (.ref st), some (.int (0 + (i : Nat))), some (.ref ta), some (.ref tf), some (.ref tb), some (.ref p), some y, some (.bl L), some (.bl S), some (.ref lf), some (.bl (!L && !S)), some (.ref ld), some (.ref lq), u14]) ∧ H2 = O4)
          ⟨⟨v14, rfl⟩, rfl⟩ (fun i' σ H2 _ e => by rw [e.2]; exact .inl (.inl q4)) ?_ ?_⟩
        · rintro i' z σ H2 hz ⟨⟨u14, rfl⟩, rfl⟩
          obtain ⟨tz, ty, nf, nn, tn⟩ := odd_ones T w1 w2 w3 (List.mem_of_getElem? hz)
          have hx : ExAt T.Exact_a H2 (.ref p) pa := ⟨p, dx', rfl, hp⟩
          refine ⟨_, rfl, _, rfl, ⟨p, dx', _, tz, rfl, hp, ty, nf, _, _, pa, rfl, hx, .inr ⟨nn, _, rfl, ?_⟩⟩⟩
          refine iteF ?_
          refine ⟨_, rfl, _, rfl, ⟨p, dx', _, tz, rfl, hp, ty, nf, _, _, pa, rfl, hx, .inr ⟨nn, _, rfl, _, rfl, ?_⟩⟩⟩
          refine iteF ?_
          refine ⟨_, rfl, _, rfl, ⟨p, dx', _, rfl, hp, tn _ rfl, _, _, pa, rfl, hx, .inr ⟨nn, _, rfl, ?_⟩⟩⟩
          exact iteF ⟨⟨_, rfl⟩, rfl⟩
        · rintro σ H2 ⟨⟨u14, rfl⟩, rfl⟩
          exact ⟨⟨_, _, _, _, _, _, _, _, _, _, _, _, _, rfl⟩, s9⟩
      · intro D' hD
        have stay : D'.nx [some (.ref a0), some (.ref st), some (.int (0 + (i : Nat))), some (.ref ta), some (.ref tf), some (.ref t6), v6, v7, v8, v9, v10, v11, v12, v13, v14] H5 := hD _ _ ⟨t6, p6, rfl, s5, ha, h6, rb0, nb0⟩
        have other : tAsg (tCall spSomeFrac [] E0 (tCons (tVar 1) tNil)) (gName 5) D' [some (.ref a0), some (.ref st), some (.int (0 + (i : Nat))), some (.ref ta), some (.ref tf), some (.ref t6), v6, v7, v8, v9, v10, v11, v12, v13, v14] H5 :=
          ⟨_, rfl, st, c, ns, rfl, s5, hl, fun tb pb H6 s6 k6 hb rb db => hD _ _ ⟨tb, pb, rfl, s6, ha.keep k6 s5, hb, rb, db.nm⟩⟩
        refine ⟨_, rfl, t6, _, _, _, rfl, rfl, .inl (.inl h6), rfl, _, _, rfl, rfl, hp20, _, _, rfl, rfl, _, rfl, ?_⟩
        refine ite2 (fun _ => iteT other) (fun _ => ?_)
        refine ⟨_, rfl, t6, _, _, _, rfl, rfl, .inl (.inl h6), rfl, _, _, rfl, rfl, hp38, _, _, rfl, rfl, _, rfl, ?_⟩
        refine ite2 (fun _ => iteT other) (fun _ => ?_)
        refine ⟨_, rfl, t6, _, _, _, rfl, rfl, .inl (.inl h6), rfl, _, _, rfl, rfl, hp38, _, rfl, _, _, rfl, rfl, _, rfl, ?_⟩
        exact ite2 (fun _ => other) (fun _ => stay)
    · rintro σ H1 ⟨⟨v2, v3, v4, v5, v6, v7, v8, v9, v10, v11, v12, v13, v14, rfl⟩, hSt⟩
      refine fun x dx nx nd _ => mk_ex1 (A := 1) (B := 1) nx nd (by decide) (Nat.lt_of_lt_of_le (by decide : (1 : Int).natAbs < 2 ^ 2) (Nat.pow_le_pow_right (by decide) (by decide))) fun H2 s2 he => ?_
      obtain ⟨x', dx', e, hx⟩ := id he
      cases e
      refine ⟨x, dx', _, _, rfl, hx, .base (.int 1), nf_ty T.Exact_up_int, _, _, _, rfl, he, .inl ⟨(1, 1), .inl ⟨rfl, rfl⟩, fun H3 s3 => ?_⟩⟩
      exact k H3

end


theorem all_mk {l : PySem.W.OpenLaw} {w : World} {K : PySem.W.Frag} {h : Heap} {mg : Str → Option Value} {fa : Addr} (X : K.In h) (G : h.Ns mainGlobals mg) (hfa : mg "law" = some (.ref fa))
    {Exact_a is_whole_a Exact_init_a Exact_eq_a Exact_lt_a Exact_le_a Exact_gt_a Exact_ge_a divisor_a is_number_a parts_a law_fresh_a law_fill_a law_take_a law_one_a law_same_a law_gcd_a law_frac_a law_add_a law_less_a law_as_number_a law_some_frac_a law_a : Addr}
    {od_is_whole an_is_whole od_Exact_init an_Exact_init od_Exact_eq an_Exact_eq od_Exact_lt an_Exact_lt od_Exact_le an_Exact_le od_Exact_gt an_Exact_gt od_Exact_ge an_Exact_ge od_divisor an_divisor od_is_number an_is_number od_parts an_parts od_law_fresh an_law_fresh od_law_fill an_law_fill od_law_take an_law_take od_law_one an_law_one od_law_same an_law_same od_law_gcd an_law_gcd od_law_frac an_law_frac od_law_add an_law_add od_law_less an_law_less od_law_as_number an_law_as_number od_law_some_frac an_law_some_frac od_law an_law : Option Addr}
    {sl_is_whole sl_Exact_init sl_Exact_eq sl_Exact_lt sl_Exact_le sl_Exact_gt sl_Exact_ge sl_divisor sl_is_number sl_parts sl_law_fresh sl_law_fill sl_law_take sl_law_one sl_law_same sl_law_gcd sl_law_frac sl_law_add sl_law_less sl_law_as_number sl_law_some_frac sl_law : Array (Option Value)}
    {oc_is_whole kV_is_whole dc_is_whole pm_is_whole cd_is_whole ct_is_whole oc_Exact_init kV_Exact_init dc_Exact_init pm_Exact_init cd_Exact_init ct_Exact_init oc_Exact_eq kV_Exact_eq dc_Exact_eq pm_Exact_eq cd_Exact_eq ct_Exact_eq oc_Exact_lt kV_Exact_lt dc_Exact_lt pm_Exact_lt cd_Exact_lt ct_Exact_lt oc_Exact_le kV_Exact_le dc_Exact_le pm_Exact_le cd_Exact_le ct_Exact_le oc_Exact_gt kV_Exact_gt dc_Exact_gt pm_Exact_gt cd_Exact_gt ct_Exact_gt oc_Exact_ge kV_Exact_ge dc_Exact_ge pm_Exact_ge cd_Exact_ge ct_Exact_ge oc_divisor kV_divisor dc_divisor pm_divisor cd_divisor ct_divisor oc_is_number kV_is_number dc_is_number pm_is_number cd_is_number ct_is_number oc_parts kV_parts dc_parts pm_parts cd_parts ct_parts oc_law_fresh kV_law_fresh dc_law_fresh pm_law_fresh cd_law_fresh ct_law_fresh oc_law_fill kV_law_fill dc_law_fill pm_law_fill cd_law_fill ct_law_fill oc_law_take kV_law_take dc_law_take pm_law_take cd_law_take ct_law_take oc_law_one kV_law_one dc_law_one pm_law_one cd_law_one ct_law_one oc_law_same kV_law_same dc_law_same pm_law_same cd_law_same ct_law_same oc_law_gcd kV_law_gcd dc_law_gcd pm_law_gcd cd_law_gcd ct_law_gcd oc_law_frac kV_law_frac dc_law_frac pm_law_frac cd_law_frac ct_law_frac oc_law_add kV_law_add dc_law_add pm_law_add cd_law_add ct_law_add oc_law_less kV_law_less dc_law_less pm_law_less cd_law_less ct_law_less oc_law_as_number kV_law_as_number dc_law_as_number pm_law_as_number cd_law_as_number ct_law_as_number oc_law_some_frac kV_law_some_frac dc_law_some_frac pm_law_some_frac cd_law_some_frac ct_law_some_frac oc_law kV_law dc_law pm_law cd_law ct_law : Value}
    {dT_Exact_init : Addr} {tc_Exact_init : Value} {td_Exact_init : Option Addr} {tn_Exact_init : Nat} {ts_Exact_init : Array (Option Value)} {tt_Exact_init_0 : Tok}
    (g_Exact : PySem.W.nsIn K mainGlobals "Exact" = some (some (.ref Exact_a)))
    (pg_Exact : PySem.W.plainGet K Exact_a Str.empty = true)
    (hd_Exact : PySem.W.hasDictIn K Exact_a = true)
    (po_Exact : PySem.W.plainOver K Exact_a = true)
    (sa_Exact : PySem.W.findIn K (.ref Exact_a) "__setattr__" = some (some (.builtin "object.__setattr__")))
    (n_Exact_over : PySem.W.findIn K (.ref Exact_a) "over" = some none)
    (n_Exact_under : PySem.W.findIn K (.ref Exact_a) "under" = some none)
    (i1_Exact : PySem.W.findIn K (.ref Exact_a) "__class__" = some (some (.builtin "object.__class__")))
    (i2_Exact : PySem.W.specialIn K (.builtin "object.__class__") "__get__" = some (some (.builtin "getset_descriptor.__get__")))
    (i3_Exact : PySem.W.takesIn K (.builtin "object.__class__") = some true)
    (i4_Exact : PySem.W.mroIn K Exact_a (.type "object") = some true)
    (ne_Exact : PySem.W.findIn K (.ref Exact_a) "__ne__" = some (some (.builtin "object.__ne__")))
    (ic_Exact : PySem.W.isClsIn K Exact_a = true)
    (ty_Exact : PySem.W.typeIn K (.ref Exact_a) = some (.type "type"))
    (u_int_Exact : PySem.W.subIn K (.type "int") (.ref Exact_a) = some false)
    (d_int_Exact : PySem.W.subIn K (.ref Exact_a) (.type "int") = some false)
    (up_int_Exact : PySem.W.subIn K (.type "int") (.ref Exact_a) = some false)
    (dn_int_Exact : PySem.W.subIn K (.ref Exact_a) (.type "int") = some false)
    (u_bool_Exact : PySem.W.subIn K (.type "bool") (.ref Exact_a) = some false)
    (d_bool_Exact : PySem.W.subIn K (.ref Exact_a) (.type "bool") = some false)
    (up_bool_Exact : PySem.W.subIn K (.type "bool") (.ref Exact_a) = some false)
    (dn_bool_Exact : PySem.W.subIn K (.ref Exact_a) (.type "bool") = some false)
    (u_str_Exact : PySem.W.subIn K (.type "str") (.ref Exact_a) = some false)
    (up_str_Exact : PySem.W.subIn K (.type "str") (.ref Exact_a) = some false)
    (dn_str_Exact : PySem.W.subIn K (.ref Exact_a) (.type "str") = some false)
    (u_list_Exact : PySem.W.subIn K (.type "list") (.ref Exact_a) = some false)
    (d_list_Exact : PySem.W.subIn K (.ref Exact_a) (.type "list") = some false)
    (up_list_Exact : PySem.W.subIn K (.type "list") (.ref Exact_a) = some false)
    (dn_list_Exact : PySem.W.subIn K (.ref Exact_a) (.type "list") = some false)
    (u_tuple_Exact : PySem.W.subIn K (.type "tuple") (.ref Exact_a) = some false)
    (d_tuple_Exact : PySem.W.subIn K (.ref Exact_a) (.type "tuple") = some false)
    (up_tuple_Exact : PySem.W.subIn K (.type "tuple") (.ref Exact_a) = some false)
    (dn_tuple_Exact : PySem.W.subIn K (.ref Exact_a) (.type "tuple") = some false)
    (u_dict_Exact : PySem.W.subIn K (.type "dict") (.ref Exact_a) = some false)
    (up_dict_Exact : PySem.W.subIn K (.type "dict") (.ref Exact_a) = some false)
    (dn_dict_Exact : PySem.W.subIn K (.ref Exact_a) (.type "dict") = some false)
    (u_NoneType_Exact : PySem.W.subIn K (.type "NoneType") (.ref Exact_a) = some false)
    (up_NoneType_Exact : PySem.W.subIn K (.type "NoneType") (.ref Exact_a) = some false)
    (dn_NoneType_Exact : PySem.W.subIn K (.ref Exact_a) (.type "NoneType") = some false)
    (g_is_whole : PySem.W.nsIn K mainGlobals "is_whole" = some (some (.ref is_whole_a)))
    (l_is_whole : K.lookup is_whole_a = some ⟨oc_is_whole, od_is_whole, .func (PySem.W.fnOf "is_whole" "is_whole" (defArgs s_is_whole) (defBody s_is_whole) (defScope s_is_whole) .none kV_is_whole dc_is_whole pm_is_whole an_is_whole cd_is_whole ct_is_whole), sl_is_whole⟩)
    (c_is_whole : PySem.W.codeIn K cd_is_whole "is_whole" = true)
    (k_is_whole : PySem.W.keepIn K (.ref is_whole_a) = true)
    (g_Exact_init : PySem.W.findIn K (.ref Exact_a) "__init__" = some (some (.ref Exact_init_a)))
    (i_Exact_init : PySem.W.isFn K (.ref Exact_init_a) = true)
    (l_Exact_init : K.lookup Exact_init_a = some ⟨oc_Exact_init, od_Exact_init, .func (PySem.W.fnOf "__init__" "Exact.__init__" (defArgs s_Exact_init) (defBody s_Exact_init) (defScope s_Exact_init) (.ref dT_Exact_init) kV_Exact_init dc_Exact_init pm_Exact_init an_Exact_init cd_Exact_init ct_Exact_init), sl_Exact_init⟩)
    (c_Exact_init : PySem.W.codeIn K cd_Exact_init "Exact.__init__" = true)
    (k_Exact_init : PySem.W.keepIn K (.ref Exact_init_a) = true)
    (t_Exact_init : K.lookup dT_Exact_init = some ⟨tc_Exact_init, td_Exact_init, .seq (List.toArray [Value.int 1 tt_Exact_init_0]) tn_Exact_init, ts_Exact_init⟩)
    (mk_Exact : PySem.W.makesIn K Exact_a = true)
    (kc_Exact : PySem.W.keepIn K (.ref Exact_a) = true)
    (g_Exact_eq : PySem.W.findIn K (.ref Exact_a) "__eq__" = some (some (.ref Exact_eq_a)))
    (i_Exact_eq : PySem.W.isFn K (.ref Exact_eq_a) = true)
    (l_Exact_eq : K.lookup Exact_eq_a = some ⟨oc_Exact_eq, od_Exact_eq, .func (PySem.W.fnOf "__eq__" "Exact.__eq__" (defArgs s_Exact_eq) (defBody s_Exact_eq) (defScope s_Exact_eq) .none kV_Exact_eq dc_Exact_eq pm_Exact_eq an_Exact_eq cd_Exact_eq ct_Exact_eq), sl_Exact_eq⟩)
    (c_Exact_eq : PySem.W.codeIn K cd_Exact_eq "Exact.__eq__" = true)
    (k_Exact_eq : PySem.W.keepIn K (.ref Exact_eq_a) = true)
    (g_Exact_lt : PySem.W.findIn K (.ref Exact_a) "__lt__" = some (some (.ref Exact_lt_a)))
    (i_Exact_lt : PySem.W.isFn K (.ref Exact_lt_a) = true)
    (l_Exact_lt : K.lookup Exact_lt_a = some ⟨oc_Exact_lt, od_Exact_lt, .func (PySem.W.fnOf "__lt__" "Exact.__lt__" (defArgs s_Exact_lt) (defBody s_Exact_lt) (defScope s_Exact_lt) .none kV_Exact_lt dc_Exact_lt pm_Exact_lt an_Exact_lt cd_Exact_lt ct_Exact_lt), sl_Exact_lt⟩)
    (c_Exact_lt : PySem.W.codeIn K cd_Exact_lt "Exact.__lt__" = true)
    (k_Exact_lt : PySem.W.keepIn K (.ref Exact_lt_a) = true)
    (g_Exact_le : PySem.W.findIn K (.ref Exact_a) "__le__" = some (some (.ref Exact_le_a)))
    (i_Exact_le : PySem.W.isFn K (.ref Exact_le_a) = true)
    (l_Exact_le : K.lookup Exact_le_a = some ⟨oc_Exact_le, od_Exact_le, .func (PySem.W.fnOf "__le__" "Exact.__le__" (defArgs s_Exact_le) (defBody s_Exact_le) (defScope s_Exact_le) .none kV_Exact_le dc_Exact_le pm_Exact_le an_Exact_le cd_Exact_le ct_Exact_le), sl_Exact_le⟩)
    (c_Exact_le : PySem.W.codeIn K cd_Exact_le "Exact.__le__" = true)
    (k_Exact_le : PySem.W.keepIn K (.ref Exact_le_a) = true)
    (g_Exact_gt : PySem.W.findIn K (.ref Exact_a) "__gt__" = some (some (.ref Exact_gt_a)))
    (i_Exact_gt : PySem.W.isFn K (.ref Exact_gt_a) = true)
    (l_Exact_gt : K.lookup Exact_gt_a = some ⟨oc_Exact_gt, od_Exact_gt, .func (PySem.W.fnOf "__gt__" "Exact.__gt__" (defArgs s_Exact_gt) (defBody s_Exact_gt) (defScope s_Exact_gt) .none kV_Exact_gt dc_Exact_gt pm_Exact_gt an_Exact_gt cd_Exact_gt ct_Exact_gt), sl_Exact_gt⟩)
    (c_Exact_gt : PySem.W.codeIn K cd_Exact_gt "Exact.__gt__" = true)
    (k_Exact_gt : PySem.W.keepIn K (.ref Exact_gt_a) = true)
    (g_Exact_ge : PySem.W.findIn K (.ref Exact_a) "__ge__" = some (some (.ref Exact_ge_a)))
    (i_Exact_ge : PySem.W.isFn K (.ref Exact_ge_a) = true)
    (l_Exact_ge : K.lookup Exact_ge_a = some ⟨oc_Exact_ge, od_Exact_ge, .func (PySem.W.fnOf "__ge__" "Exact.__ge__" (defArgs s_Exact_ge) (defBody s_Exact_ge) (defScope s_Exact_ge) .none kV_Exact_ge dc_Exact_ge pm_Exact_ge an_Exact_ge cd_Exact_ge ct_Exact_ge), sl_Exact_ge⟩)
    (c_Exact_ge : PySem.W.codeIn K cd_Exact_ge "Exact.__ge__" = true)
    (k_Exact_ge : PySem.W.keepIn K (.ref Exact_ge_a) = true)
    (g_divisor : PySem.W.nsIn K mainGlobals "divisor" = some (some (.ref divisor_a)))
    (l_divisor : K.lookup divisor_a = some ⟨oc_divisor, od_divisor, .func (PySem.W.fnOf "divisor" "divisor" (defArgs s_divisor) (defBody s_divisor) (defScope s_divisor) .none kV_divisor dc_divisor pm_divisor an_divisor cd_divisor ct_divisor), sl_divisor⟩)
    (c_divisor : PySem.W.codeIn K cd_divisor "divisor" = true)
    (k_divisor : PySem.W.keepIn K (.ref divisor_a) = true)
    (g_is_number : PySem.W.nsIn K mainGlobals "is_number" = some (some (.ref is_number_a)))
    (l_is_number : K.lookup is_number_a = some ⟨oc_is_number, od_is_number, .func (PySem.W.fnOf "is_number" "is_number" (defArgs s_is_number) (defBody s_is_number) (defScope s_is_number) .none kV_is_number dc_is_number pm_is_number an_is_number cd_is_number ct_is_number), sl_is_number⟩)
    (c_is_number : PySem.W.codeIn K cd_is_number "is_number" = true)
    (k_is_number : PySem.W.keepIn K (.ref is_number_a) = true)
    (g_parts : PySem.W.nsIn K mainGlobals "parts" = some (some (.ref parts_a)))
    (l_parts : K.lookup parts_a = some ⟨oc_parts, od_parts, .func (PySem.W.fnOf "parts" "parts" (defArgs s_parts) (defBody s_parts) (defScope s_parts) .none kV_parts dc_parts pm_parts an_parts cd_parts ct_parts), sl_parts⟩)
    (c_parts : PySem.W.codeIn K cd_parts "parts" = true)
    (k_parts : PySem.W.keepIn K (.ref parts_a) = true)
    (g_law_fresh : PySem.W.nsIn K mainGlobals "_law_fresh" = some (some (.ref law_fresh_a)))
    (l_law_fresh : K.lookup law_fresh_a = some ⟨oc_law_fresh, od_law_fresh, .func (PySem.W.fnOf "_law_fresh" "_law_fresh" (defArgs s_law_fresh) (defBody s_law_fresh) (defScope s_law_fresh) .none kV_law_fresh dc_law_fresh pm_law_fresh an_law_fresh cd_law_fresh ct_law_fresh), sl_law_fresh⟩)
    (c_law_fresh : PySem.W.codeIn K cd_law_fresh "_law_fresh" = true)
    (k_law_fresh : PySem.W.keepIn K (.ref law_fresh_a) = true)
    (g_law_fill : PySem.W.nsIn K mainGlobals "_law_fill" = some (some (.ref law_fill_a)))
    (l_law_fill : K.lookup law_fill_a = some ⟨oc_law_fill, od_law_fill, .func (PySem.W.fnOf "_law_fill" "_law_fill" (defArgs s_law_fill) (defBody s_law_fill) (defScope s_law_fill) .none kV_law_fill dc_law_fill pm_law_fill an_law_fill cd_law_fill ct_law_fill), sl_law_fill⟩)
    (c_law_fill : PySem.W.codeIn K cd_law_fill "_law_fill" = true)
    (k_law_fill : PySem.W.keepIn K (.ref law_fill_a) = true)
    (g_law_take : PySem.W.nsIn K mainGlobals "_law_take" = some (some (.ref law_take_a)))
    (l_law_take : K.lookup law_take_a = some ⟨oc_law_take, od_law_take, .func (PySem.W.fnOf "_law_take" "_law_take" (defArgs s_law_take) (defBody s_law_take) (defScope s_law_take) .none kV_law_take dc_law_take pm_law_take an_law_take cd_law_take ct_law_take), sl_law_take⟩)
    (c_law_take : PySem.W.codeIn K cd_law_take "_law_take" = true)
    (k_law_take : PySem.W.keepIn K (.ref law_take_a) = true)
    (g_law_one : PySem.W.nsIn K mainGlobals "_law_one" = some (some (.ref law_one_a)))
    (l_law_one : K.lookup law_one_a = some ⟨oc_law_one, od_law_one, .func (PySem.W.fnOf "_law_one" "_law_one" (defArgs s_law_one) (defBody s_law_one) (defScope s_law_one) .none kV_law_one dc_law_one pm_law_one an_law_one cd_law_one ct_law_one), sl_law_one⟩)
    (c_law_one : PySem.W.codeIn K cd_law_one "_law_one" = true)
    (k_law_one : PySem.W.keepIn K (.ref law_one_a) = true)
    (g_law_same : PySem.W.nsIn K mainGlobals "_law_same" = some (some (.ref law_same_a)))
    (l_law_same : K.lookup law_same_a = some ⟨oc_law_same, od_law_same, .func (PySem.W.fnOf "_law_same" "_law_same" (defArgs s_law_same) (defBody s_law_same) (defScope s_law_same) .none kV_law_same dc_law_same pm_law_same an_law_same cd_law_same ct_law_same), sl_law_same⟩)
    (c_law_same : PySem.W.codeIn K cd_law_same "_law_same" = true)
    (k_law_same : PySem.W.keepIn K (.ref law_same_a) = true)
    (g_law_gcd : PySem.W.nsIn K mainGlobals "_law_gcd" = some (some (.ref law_gcd_a)))
    (l_law_gcd : K.lookup law_gcd_a = some ⟨oc_law_gcd, od_law_gcd, .func (PySem.W.fnOf "_law_gcd" "_law_gcd" (defArgs s_law_gcd) (defBody s_law_gcd) (defScope s_law_gcd) .none kV_law_gcd dc_law_gcd pm_law_gcd an_law_gcd cd_law_gcd ct_law_gcd), sl_law_gcd⟩)
    (c_law_gcd : PySem.W.codeIn K cd_law_gcd "_law_gcd" = true)
    (k_law_gcd : PySem.W.keepIn K (.ref law_gcd_a) = true)
    (g_law_frac : PySem.W.nsIn K mainGlobals "_law_frac" = some (some (.ref law_frac_a)))
    (l_law_frac : K.lookup law_frac_a = some ⟨oc_law_frac, od_law_frac, .func (PySem.W.fnOf "_law_frac" "_law_frac" (defArgs s_law_frac) (defBody s_law_frac) (defScope s_law_frac) .none kV_law_frac dc_law_frac pm_law_frac an_law_frac cd_law_frac ct_law_frac), sl_law_frac⟩)
    (c_law_frac : PySem.W.codeIn K cd_law_frac "_law_frac" = true)
    (k_law_frac : PySem.W.keepIn K (.ref law_frac_a) = true)
    (g_law_add : PySem.W.nsIn K mainGlobals "_law_add" = some (some (.ref law_add_a)))
    (l_law_add : K.lookup law_add_a = some ⟨oc_law_add, od_law_add, .func (PySem.W.fnOf "_law_add" "_law_add" (defArgs s_law_add) (defBody s_law_add) (defScope s_law_add) .none kV_law_add dc_law_add pm_law_add an_law_add cd_law_add ct_law_add), sl_law_add⟩)
    (c_law_add : PySem.W.codeIn K cd_law_add "_law_add" = true)
    (k_law_add : PySem.W.keepIn K (.ref law_add_a) = true)
    (g_law_less : PySem.W.nsIn K mainGlobals "_law_less" = some (some (.ref law_less_a)))
    (l_law_less : K.lookup law_less_a = some ⟨oc_law_less, od_law_less, .func (PySem.W.fnOf "_law_less" "_law_less" (defArgs s_law_less) (defBody s_law_less) (defScope s_law_less) .none kV_law_less dc_law_less pm_law_less an_law_less cd_law_less ct_law_less), sl_law_less⟩)
    (c_law_less : PySem.W.codeIn K cd_law_less "_law_less" = true)
    (k_law_less : PySem.W.keepIn K (.ref law_less_a) = true)
    (g_law_as_number : PySem.W.nsIn K mainGlobals "_law_as_number" = some (some (.ref law_as_number_a)))
    (l_law_as_number : K.lookup law_as_number_a = some ⟨oc_law_as_number, od_law_as_number, .func (PySem.W.fnOf "_law_as_number" "_law_as_number" (defArgs s_law_as_number) (defBody s_law_as_number) (defScope s_law_as_number) .none kV_law_as_number dc_law_as_number pm_law_as_number an_law_as_number cd_law_as_number ct_law_as_number), sl_law_as_number⟩)
    (c_law_as_number : PySem.W.codeIn K cd_law_as_number "_law_as_number" = true)
    (k_law_as_number : PySem.W.keepIn K (.ref law_as_number_a) = true)
    (g_law_some_frac : PySem.W.nsIn K mainGlobals "_law_some_frac" = some (some (.ref law_some_frac_a)))
    (l_law_some_frac : K.lookup law_some_frac_a = some ⟨oc_law_some_frac, od_law_some_frac, .func (PySem.W.fnOf "_law_some_frac" "_law_some_frac" (defArgs s_law_some_frac) (defBody s_law_some_frac) (defScope s_law_some_frac) .none kV_law_some_frac dc_law_some_frac pm_law_some_frac an_law_some_frac cd_law_some_frac ct_law_some_frac), sl_law_some_frac⟩)
    (c_law_some_frac : PySem.W.codeIn K cd_law_some_frac "_law_some_frac" = true)
    (k_law_some_frac : PySem.W.keepIn K (.ref law_some_frac_a) = true)
    (g_law : PySem.W.nsIn K mainGlobals "law" = some (some (.ref law_a)))
    (l_law : K.lookup law_a = some ⟨oc_law, od_law, .func (PySem.W.fnOf "law" "law" (defArgs s_law) (defBody s_law) (defScope s_law) .none kV_law dc_law pm_law an_law cd_law ct_law), sl_law⟩)
    (c_law : PySem.W.codeIn K cd_law "law" = true)
    (k_law : PySem.W.keepIn K (.ref law_a) = true)
    (hz_abs : PySem.W.nsIn K mainGlobals "abs" = some none)
    (hz_all : PySem.W.nsIn K mainGlobals "all" = some none)
    (hz_bool : PySem.W.nsIn K mainGlobals "bool" = some none)
    (hz_enumerate : PySem.W.nsIn K mainGlobals "enumerate" = some none)
    (hz_int : PySem.W.nsIn K mainGlobals "int" = some none)
    (hz_isinstance : PySem.W.nsIn K mainGlobals "isinstance" = some none)
    (hz_len : PySem.W.nsIn K mainGlobals "len" = some none)
    (hz_list : PySem.W.nsIn K mainGlobals "list" = some none)
    (hz_range : PySem.W.nsIn K mainGlobals "range" = some none)
    (hz_tuple : PySem.W.nsIn K mainGlobals "tuple" = some none)
    (hz_zip : PySem.W.nsIn K mainGlobals "zip" = some none)
    : ∃ fd : FuncData, (∀ (s : Shared) (v : Value), BindsTo s fd ⟨[v], []⟩ [("_law_script", v)]) ∧ ∀ base : Heap, K.In base → base.Ns mainGlobals mg → FnOk l.prog w K mg base CX0 12 fa fd ["_law_script"] (spLaw K) := by
  have e := hfa.symm.trans (PySem.W.mg_of X G g_law)
  cases e
  have F_Exact_init := (⟨⟨_, _, _, _, _, _, _, _, _, _, rfl, l_Exact_init, c_Exact_init, .inr ⟨List.cons_ne_nil _ _, dT_Exact_init, _, _, _, rfl, t_Exact_init, rfl, .cons ⟨_, rfl⟩ .nil⟩, .inl rfl⟩, k_Exact_init⟩ : FunD K "__init__" "Exact.__init__" (defArgs s_Exact_init) (defBody s_Exact_init) (defScope s_Exact_init) [V.int 1] [] Exact_init_a _)
  obtain ⟨ds_Exact_init, vs_Exact_init, b_Exact_init⟩ := F_Exact_init.binds1 (ps := ["self", "over", "under"]) 3 1 (List.cons_ne_nil _ _) rfl fun _ _ _ _ _ _ _ us its h1 h2 => match us, its, h1, h2 with | [_, _, _], [_], _, _ => ⟨_, rfl, rfl⟩
  cases vs_Exact_init
  obtain ⟨ds2_Exact_init, vs2_Exact_init, b2_Exact_init⟩ := F_Exact_init.binds1 (ps := ["self", "over", "under"]) 2 0 (List.cons_ne_nil _ _) rfl fun _ _ _ _ _ _ _ us its h1 h2 => match us, its, h1, h2 with | [_, _], [_], _, _ => ⟨_, rfl, rfl⟩
  let T : Tx K mg := {
    Exact_a := Exact_a
    Exact_m := PySem.W.mg_of X G g_Exact
    Exact_cl := ⟨pg_Exact, hd_Exact, po_Exact, sa_Exact⟩
    Exact_n_over := n_Exact_over
    Exact_n_under := n_Exact_under
    Exact_i1 := i1_Exact
    Exact_i2 := i2_Exact
    Exact_i3 := i3_Exact
    Exact_i4 := i4_Exact
    Exact_ne := ne_Exact
    Exact_k0 := kit_self
    Exact_kt_int := kit_to ic_Exact ty_Exact u_int_Exact
    Exact_ko_int := kit_ob (by decide +kernel) d_int_Exact
    Exact_up_int := up_int_Exact
    Exact_dn_int := dn_int_Exact
    Exact_kt_bool := kit_to ic_Exact ty_Exact u_bool_Exact
    Exact_ko_bool := kit_ob (by decide +kernel) d_bool_Exact
    Exact_up_bool := up_bool_Exact
    Exact_dn_bool := dn_bool_Exact
    Exact_kt_str := kit_to ic_Exact ty_Exact u_str_Exact
    Exact_up_str := up_str_Exact
    Exact_dn_str := dn_str_Exact
    Exact_kt_list := kit_to ic_Exact ty_Exact u_list_Exact
    Exact_ko_list := kit_ob (by decide +kernel) d_list_Exact
    Exact_up_list := up_list_Exact
    Exact_dn_list := dn_list_Exact
    Exact_kt_tuple := kit_to ic_Exact ty_Exact u_tuple_Exact
    Exact_ko_tuple := kit_ob (by decide +kernel) d_tuple_Exact
    Exact_up_tuple := up_tuple_Exact
    Exact_dn_tuple := dn_tuple_Exact
    Exact_kt_dict := kit_to ic_Exact ty_Exact u_dict_Exact
    Exact_up_dict := up_dict_Exact
    Exact_dn_dict := dn_dict_Exact
    Exact_kt_NoneType := kit_to ic_Exact ty_Exact u_NoneType_Exact
    Exact_up_NoneType := up_NoneType_Exact
    Exact_dn_NoneType := dn_NoneType_Exact
    is_whole_a := is_whole_a
    is_whole_d := _
    is_whole_F := fun_mk (st := s_is_whole) l_is_whole c_is_whole k_is_whole
    is_whole_b := (fun_mk (st := s_is_whole) l_is_whole c_is_whole k_is_whole).binds (ps := ["thing"]) fun _ _ _ _ _ _ us hl => match us, hl with | [_], _ => rfl
    is_whole_m := PySem.W.mg_of X G g_is_whole
    Exact_init_a := Exact_init_a
    Exact_init_d := _
    Exact_init_F := F_Exact_init
    Exact_init_b := b_Exact_init
    Exact_init_ds2 := ds2_Exact_init
    Exact_init_v2 := vs2_Exact_init
    Exact_init_bd2 := b2_Exact_init
    Exact_init_M := ⟨g_Exact_init, i_Exact_init, k_Exact_init⟩
    Exact_mk := ⟨mk_Exact, g_Exact_init, i_Exact_init, kc_Exact⟩
    Exact_eq_a := Exact_eq_a
    Exact_eq_d := _
    Exact_eq_F := fun_mk (st := s_Exact_eq) l_Exact_eq c_Exact_eq k_Exact_eq
    Exact_eq_b := (fun_mk (st := s_Exact_eq) l_Exact_eq c_Exact_eq k_Exact_eq).binds (ps := ["self", "other"]) fun _ _ _ _ _ _ us hl => match us, hl with | [_, _], _ => rfl
    Exact_eq_M := ⟨g_Exact_eq, i_Exact_eq, k_Exact_eq⟩
    Exact_lt_a := Exact_lt_a
    Exact_lt_d := _
    Exact_lt_F := fun_mk (st := s_Exact_lt) l_Exact_lt c_Exact_lt k_Exact_lt
    Exact_lt_b := (fun_mk (st := s_Exact_lt) l_Exact_lt c_Exact_lt k_Exact_lt).binds (ps := ["self", "other"]) fun _ _ _ _ _ _ us hl => match us, hl with | [_, _], _ => rfl
    Exact_lt_M := ⟨g_Exact_lt, i_Exact_lt, k_Exact_lt⟩
    Exact_le_a := Exact_le_a
    Exact_le_d := _
    Exact_le_F := fun_mk (st := s_Exact_le) l_Exact_le c_Exact_le k_Exact_le
    Exact_le_b := (fun_mk (st := s_Exact_le) l_Exact_le c_Exact_le k_Exact_le).binds (ps := ["self", "other"]) fun _ _ _ _ _ _ us hl => match us, hl with | [_, _], _ => rfl
    Exact_le_M := ⟨g_Exact_le, i_Exact_le, k_Exact_le⟩
    Exact_gt_a := Exact_gt_a
    Exact_gt_d := _
    Exact_gt_F := fun_mk (st := s_Exact_gt) l_Exact_gt c_Exact_gt k_Exact_gt
    Exact_gt_b := (fun_mk (st := s_Exact_gt) l_Exact_gt c_Exact_gt k_Exact_gt).binds (ps := ["self", "other"]) fun _ _ _ _ _ _ us hl => match us, hl with | [_, _], _ => rfl
    Exact_gt_M := ⟨g_Exact_gt, i_Exact_gt, k_Exact_gt⟩
    Exact_ge_a := Exact_ge_a
    Exact_ge_d := _
    Exact_ge_F := fun_mk (st := s_Exact_ge) l_Exact_ge c_Exact_ge k_Exact_ge
    Exact_ge_b := (fun_mk (st := s_Exact_ge) l_Exact_ge c_Exact_ge k_Exact_ge).binds (ps := ["self", "other"]) fun _ _ _ _ _ _ us hl => match us, hl with | [_, _], _ => rfl
    Exact_ge_M := ⟨g_Exact_ge, i_Exact_ge, k_Exact_ge⟩
    divisor_a := divisor_a
    divisor_d := _
    divisor_F := fun_mk (st := s_divisor) l_divisor c_divisor k_divisor
    divisor_b := (fun_mk (st := s_divisor) l_divisor c_divisor k_divisor).binds (ps := ["one", "other"]) fun _ _ _ _ _ _ us hl => match us, hl with | [_, _], _ => rfl
    divisor_m := PySem.W.mg_of X G g_divisor
    is_number_a := is_number_a
    is_number_d := _
    is_number_F := fun_mk (st := s_is_number) l_is_number c_is_number k_is_number
    is_number_b := (fun_mk (st := s_is_number) l_is_number c_is_number k_is_number).binds (ps := ["thing"]) fun _ _ _ _ _ _ us hl => match us, hl with | [_], _ => rfl
    is_number_m := PySem.W.mg_of X G g_is_number
    parts_a := parts_a
    parts_d := _
    parts_F := fun_mk (st := s_parts) l_parts c_parts k_parts
    parts_b := (fun_mk (st := s_parts) l_parts c_parts k_parts).binds (ps := ["number"]) fun _ _ _ _ _ _ us hl => match us, hl with | [_], _ => rfl
    parts_m := PySem.W.mg_of X G g_parts
    law_fresh_a := law_fresh_a
    law_fresh_d := _
    law_fresh_F := fun_mk (st := s_law_fresh) l_law_fresh c_law_fresh k_law_fresh
    law_fresh_b := (fun_mk (st := s_law_fresh) l_law_fresh c_law_fresh k_law_fresh).binds (ps := ["_law_script"]) fun _ _ _ _ _ _ us hl => match us, hl with | [_], _ => rfl
    law_fresh_m := PySem.W.mg_of X G g_law_fresh
    law_fill_a := law_fill_a
    law_fill_d := _
    law_fill_F := fun_mk (st := s_law_fill) l_law_fill c_law_fill k_law_fill
    law_fill_b := (fun_mk (st := s_law_fill) l_law_fill c_law_fill k_law_fill).binds (ps := ["_law_state"]) fun _ _ _ _ _ _ us hl => match us, hl with | [_], _ => rfl
    law_fill_m := PySem.W.mg_of X G g_law_fill
    law_take_a := law_take_a
    law_take_d := _
    law_take_F := fun_mk (st := s_law_take) l_law_take c_law_take k_law_take
    law_take_b := (fun_mk (st := s_law_take) l_law_take c_law_take k_law_take).binds (ps := ["_law_state", "_law_many"]) fun _ _ _ _ _ _ us hl => match us, hl with | [_, _], _ => rfl
    law_take_m := PySem.W.mg_of X G g_law_take
    law_one_a := law_one_a
    law_one_d := _
    law_one_F := fun_mk (st := s_law_one) l_law_one c_law_one k_law_one
    law_one_b := (fun_mk (st := s_law_one) l_law_one c_law_one k_law_one).binds (ps := ["_law_state", "_law_things"]) fun _ _ _ _ _ _ us hl => match us, hl with | [_, _], _ => rfl
    law_one_m := PySem.W.mg_of X G g_law_one
    law_same_a := law_same_a
    law_same_d := _
    law_same_F := fun_mk (st := s_law_same) l_law_same c_law_same k_law_same
    law_same_b := (fun_mk (st := s_law_same) l_law_same c_law_same k_law_same).binds (ps := ["_law_found", "_law_due"]) fun _ _ _ _ _ _ us hl => match us, hl with | [_, _], _ => rfl
    law_same_m := PySem.W.mg_of X G g_law_same
    law_gcd_a := law_gcd_a
    law_gcd_d := _
    law_gcd_F := fun_mk (st := s_law_gcd) l_law_gcd c_law_gcd k_law_gcd
    law_gcd_b := (fun_mk (st := s_law_gcd) l_law_gcd c_law_gcd k_law_gcd).binds (ps := ["_law_a", "_law_b"]) fun _ _ _ _ _ _ us hl => match us, hl with | [_, _], _ => rfl
    law_gcd_m := PySem.W.mg_of X G g_law_gcd
    law_frac_a := law_frac_a
    law_frac_d := _
    law_frac_F := fun_mk (st := s_law_frac) l_law_frac c_law_frac k_law_frac
    law_frac_b := (fun_mk (st := s_law_frac) l_law_frac c_law_frac k_law_frac).binds (ps := ["_law_over", "_law_under"]) fun _ _ _ _ _ _ us hl => match us, hl with | [_, _], _ => rfl
    law_frac_m := PySem.W.mg_of X G g_law_frac
    law_add_a := law_add_a
    law_add_d := _
    law_add_F := fun_mk (st := s_law_add) l_law_add c_law_add k_law_add
    law_add_b := (fun_mk (st := s_law_add) l_law_add c_law_add k_law_add).binds (ps := ["_law_a", "_law_b"]) fun _ _ _ _ _ _ us hl => match us, hl with | [_, _], _ => rfl
    law_add_m := PySem.W.mg_of X G g_law_add
    law_less_a := law_less_a
    law_less_d := _
    law_less_F := fun_mk (st := s_law_less) l_law_less c_law_less k_law_less
    law_less_b := (fun_mk (st := s_law_less) l_law_less c_law_less k_law_less).binds (ps := ["_law_a", "_law_b"]) fun _ _ _ _ _ _ us hl => match us, hl with | [_, _], _ => rfl
    law_less_m := PySem.W.mg_of X G g_law_less
    law_as_number_a := law_as_number_a
    law_as_number_d := _
    law_as_number_F := fun_mk (st := s_law_as_number) l_law_as_number c_law_as_number k_law_as_number
    law_as_number_b := (fun_mk (st := s_law_as_number) l_law_as_number c_law_as_number k_law_as_number).binds (ps := ["_law_state", "_law_a"]) fun _ _ _ _ _ _ us hl => match us, hl with | [_, _], _ => rfl
    law_as_number_m := PySem.W.mg_of X G g_law_as_number
    law_some_frac_a := law_some_frac_a
    law_some_frac_d := _
    law_some_frac_F := fun_mk (st := s_law_some_frac) l_law_some_frac c_law_some_frac k_law_some_frac
    law_some_frac_b := (fun_mk (st := s_law_some_frac) l_law_some_frac c_law_some_frac k_law_some_frac).binds (ps := ["_law_state"]) fun _ _ _ _ _ _ us hl => match us, hl with | [_], _ => rfl
    law_some_frac_m := PySem.W.mg_of X G g_law_some_frac
    law_a := fa
    law_d := _
    law_F := fun_mk (st := s_law) l_law c_law k_law
    law_b := (fun_mk (st := s_law) l_law c_law k_law).binds (ps := ["_law_script"]) fun _ _ _ _ _ _ us hl => match us, hl with | [_], _ => rfl
    law_m := PySem.W.mg_of X G g_law
    z_abs := PySem.W.mg_none_of X G hz_abs
    z_all := PySem.W.mg_none_of X G hz_all
    z_bool := PySem.W.mg_none_of X G hz_bool
    z_enumerate := PySem.W.mg_none_of X G hz_enumerate
    z_int := PySem.W.mg_none_of X G hz_int
    z_isinstance := PySem.W.mg_none_of X G hz_isinstance
    z_len := PySem.W.mg_none_of X G hz_len
    z_list := PySem.W.mg_none_of X G hz_list
    z_range := PySem.W.mg_none_of X G hz_range
    z_tuple := PySem.W.mg_none_of X G hz_tuple
    z_zip := PySem.W.mg_none_of X G hz_zip }
  exact ⟨T.law_d, fun s v => .of_eq rfl, fun base _ _ => ok_law T⟩
theorem walk {l : PySem.W.OpenLaw} {q : Program} {loose : List Str} {XP : (Str → Option Value) → Heap → Prop} {YP : World → Heap → Prop} {d : DefRec} {K : Params → PySem.W.Frag} (hn : l.most = some 63) (hdf : d.params.defaults = [])
    (hY : ∀ (w : World) (h : Heap), YP w h → (K w.params).In h)
    (F : ∀ (w : World) (mg : Str → Option Value) (fa : Addr) (h : Heap), (K w.params).In h → h.Ns mainGlobals mg → mg d.name = some (.ref fa) →
      ∃ fd : FuncData, (∀ (s : Shared) (u : Value), BindsTo s fd ⟨[u], []⟩ [("_law_script", u)]) ∧ ∀ base : Heap, (K w.params).In base → base.Ns mainGlobals mg → FnOk l.prog w (K w.params) mg base CX0 12 fa fd ["_law_script"] (spLaw (K w.params))) :
    PySem.W.WalkO q loose XP YP l.row.toRowW d [] (fun f vs => PySem.call f vs) :=
  L2.walk_of (n := 63) (k := 12) (x := "_law_script") (CX := fun _ => CX0) (sp := fun w => spLaw (K w.params)) hn (by decide) hdf ⟨rfl, by decide, by decide⟩ hY F (fun _ _ a ns hl _ hS => ⟨a, ns, rfl, hS, hl, fun _ => rfl⟩) fun _ _ _ _ _ z => z
end Gy
open PySem PySem.W PyProof.Rows
set_option maxRecDepth 100000 in
set_option maxHeartbeats 0 in
theorem PySem.Challenge.cw_surelevels_k03_numbers_ordered_holds : PySem.Challenge.rw_surelevels_k03_numbers_ordered.Holds := by
  w_on; o_law; k_head; (case hw => w_witness2)
  k_fill
  refine Gy.walk (l := PySem.Challenge.rw_surelevels_k03_numbers_ordered) rfl rfl (fun w h Y => PySem.W.kIn_of Y) ?F
  case F =>
    intro w mg fa h KX G hmg
    refine' Gy.all_mk KX G hmg ?g_Exact ?pg_Exact ?hd_Exact ?po_Exact ?sa_Exact ?n_Exact_over ?n_Exact_under ?i1_Exact ?i2_Exact ?i3_Exact ?i4_Exact ?ne_Exact ?ic_Exact ?ty_Exact ?u_int_Exact ?d_int_Exact ?up_int_Exact ?dn_int_Exact ?u_bool_Exact ?d_bool_Exact ?up_bool_Exact ?dn_bool_Exact ?u_str_Exact ?up_str_Exact ?dn_str_Exact ?u_list_Exact ?d_list_Exact ?up_list_Exact ?dn_list_Exact ?u_tuple_Exact ?d_tuple_Exact ?up_tuple_Exact ?dn_tuple_Exact ?u_dict_Exact ?up_dict_Exact ?dn_dict_Exact ?u_NoneType_Exact ?up_NoneType_Exact ?dn_NoneType_Exact ?g_is_whole ?l_is_whole ?c_is_whole ?k_is_whole ?g_Exact_init ?i_Exact_init ?l_Exact_init ?c_Exact_init ?k_Exact_init ?t_Exact_init ?mk_Exact ?kc_Exact ?g_Exact_eq ?i_Exact_eq ?l_Exact_eq ?c_Exact_eq ?k_Exact_eq ?g_Exact_lt ?i_Exact_lt ?l_Exact_lt ?c_Exact_lt ?k_Exact_lt ?g_Exact_le ?i_Exact_le ?l_Exact_le ?c_Exact_le ?k_Exact_le ?g_Exact_gt ?i_Exact_gt ?l_Exact_gt ?c_Exact_gt ?k_Exact_gt ?g_Exact_ge ?i_Exact_ge ?l_Exact_ge ?c_Exact_ge ?k_Exact_ge ?g_divisor ?l_divisor ?c_divisor ?k_divisor ?g_is_number ?l_is_number ?c_is_number ?k_is_number ?g_parts ?l_parts ?c_parts ?k_parts ?g_law_fresh ?l_law_fresh ?c_law_fresh ?k_law_fresh ?g_law_fill ?l_law_fill ?c_law_fill ?k_law_fill ?g_law_take ?l_law_take ?c_law_take ?k_law_take ?g_law_one ?l_law_one ?c_law_one ?k_law_one ?g_law_same ?l_law_same ?c_law_same ?k_law_same ?g_law_gcd ?l_law_gcd ?c_law_gcd ?k_law_gcd ?g_law_frac ?l_law_frac ?c_law_frac ?k_law_frac ?g_law_add ?l_law_add ?c_law_add ?k_law_add ?g_law_less ?l_law_less ?c_law_less ?k_law_less ?g_law_as_number ?l_law_as_number ?c_law_as_number ?k_law_as_number ?g_law_some_frac ?l_law_some_frac ?c_law_some_frac ?k_law_some_frac ?g_law ?l_law ?c_law ?k_law ?hz_abs ?hz_all ?hz_bool ?hz_enumerate ?hz_int ?hz_isinstance ?hz_len ?hz_list ?hz_range ?hz_tuple ?hz_zip
    (case g_Exact => k_is); (case pg_Exact => k_is); (case hd_Exact => k_is); (case po_Exact => k_is); (case sa_Exact => k_is); (case n_Exact_over => k_is); (case n_Exact_under => k_is); (case i1_Exact => k_is)
    (case i2_Exact => k_is); (case i3_Exact => k_is); (case i4_Exact => k_is); (case ne_Exact => k_is); (case ic_Exact => k_is); (case ty_Exact => k_is); (case u_int_Exact => k_is); (case d_int_Exact => k_is)
    (case up_int_Exact => k_is); (case dn_int_Exact => k_is); (case u_bool_Exact => k_is); (case d_bool_Exact => k_is); (case up_bool_Exact => k_is); (case dn_bool_Exact => k_is); (case u_str_Exact => k_is); (case up_str_Exact => k_is)
    (case dn_str_Exact => k_is); (case u_list_Exact => k_is); (case d_list_Exact => k_is); (case up_list_Exact => k_is); (case dn_list_Exact => k_is); (case u_tuple_Exact => k_is); (case d_tuple_Exact => k_is); (case up_tuple_Exact => k_is)
    (case dn_tuple_Exact => k_is); (case u_dict_Exact => k_is); (case up_dict_Exact => k_is); (case dn_dict_Exact => k_is); (case u_NoneType_Exact => k_is); (case up_NoneType_Exact => k_is); (case dn_NoneType_Exact => k_is); (case g_is_whole => k_is)
    (case l_is_whole => k_is); (case c_is_whole => k_is); (case k_is_whole => k_is); (case g_Exact_init => k_is); (case i_Exact_init => k_is); (case l_Exact_init => k_is); (case c_Exact_init => k_is); (case k_Exact_init => k_is)
    (case t_Exact_init => k_is); (case mk_Exact => k_is); (case kc_Exact => k_is); (case g_Exact_eq => k_is); (case i_Exact_eq => k_is); (case l_Exact_eq => k_is); (case c_Exact_eq => k_is); (case k_Exact_eq => k_is)
    (case g_Exact_lt => k_is); (case i_Exact_lt => k_is); (case l_Exact_lt => k_is); (case c_Exact_lt => k_is); (case k_Exact_lt => k_is); (case g_Exact_le => k_is); (case i_Exact_le => k_is); (case l_Exact_le => k_is)
    (case c_Exact_le => k_is); (case k_Exact_le => k_is); (case g_Exact_gt => k_is); (case i_Exact_gt => k_is); (case l_Exact_gt => k_is); (case c_Exact_gt => k_is); (case k_Exact_gt => k_is); (case g_Exact_ge => k_is)
    (case i_Exact_ge => k_is); (case l_Exact_ge => k_is); (case c_Exact_ge => k_is); (case k_Exact_ge => k_is); (case g_divisor => k_is); (case l_divisor => k_is); (case c_divisor => k_is); (case k_divisor => k_is)
    (case g_is_number => k_is); (case l_is_number => k_is); (case c_is_number => k_is); (case k_is_number => k_is); (case g_parts => k_is); (case l_parts => k_is); (case c_parts => k_is); (case k_parts => k_is)
    (case g_law_fresh => k_is); (case l_law_fresh => k_is); (case c_law_fresh => k_is); (case k_law_fresh => k_is); (case g_law_fill => k_is); (case l_law_fill => k_is); (case c_law_fill => k_is); (case k_law_fill => k_is)
    (case g_law_take => k_is); (case l_law_take => k_is); (case c_law_take => k_is); (case k_law_take => k_is); (case g_law_one => k_is); (case l_law_one => k_is); (case c_law_one => k_is); (case k_law_one => k_is)
    (case g_law_same => k_is); (case l_law_same => k_is); (case c_law_same => k_is); (case k_law_same => k_is); (case g_law_gcd => k_is); (case l_law_gcd => k_is); (case c_law_gcd => k_is); (case k_law_gcd => k_is)
    (case g_law_frac => k_is); (case l_law_frac => k_is); (case c_law_frac => k_is); (case k_law_frac => k_is); (case g_law_add => k_is); (case l_law_add => k_is); (case c_law_add => k_is); (case k_law_add => k_is)
    (case g_law_less => k_is); (case l_law_less => k_is); (case c_law_less => k_is); (case k_law_less => k_is); (case g_law_as_number => k_is); (case l_law_as_number => k_is); (case c_law_as_number => k_is); (case k_law_as_number => k_is)
    (case g_law_some_frac => k_is); (case l_law_some_frac => k_is); (case c_law_some_frac => k_is); (case k_law_some_frac => k_is); (case g_law => k_is); (case l_law => k_is); (case c_law => k_is); (case k_law => k_is)
    (case hz_abs => k_is); (case hz_all => k_is); (case hz_bool => k_is); (case hz_enumerate => k_is); (case hz_int => k_is); (case hz_isinstance => k_is); (case hz_len => k_is); (case hz_list => k_is)
    (case hz_range => k_is); (case hz_tuple => k_is); (case hz_zip => k_is)

