import PyProof.Rows.All
import Wide.All
import OpenK.AllK
import Wide.FinOn
import PyProof.EqAt
import PyProof.EqKinds
import PyProof.TupleCall
import PyProof.NoPylong
import PyProof.StrReplace2
import KE.KOpsOwn
import KE.GoesMore
import KE.GoesEnum
import HandS.ForMost
import HandS.ForExc
import HandS.IsInst
import HandS.Wide
import HandS.EndBits
import HandS.Style
import HandS.Zip
import HandS.Walk
import HandS.Defaults
import PySem.Challenge.RW_surelevels_k02_numbers_told
set_option Elab.async false
set_option linter.all false
set_option maxRecDepth 100000
set_option maxHeartbeats 4000000
/-! Lay0: what every law of this program leans on, beside the library: own operators, great numbers, enumerate of a tuple. -/
namespace PySem.W
open PySem PySem.Calls PyProof.Rows
section
variable {prog : Program} {w : World} {A : Around} {E : Value → Shared → Prop} {s : Shared} {K : Frag} {x C L f : Addr} {h₀ : Heap} {m : Str → Option Value} {ox : Obj} {od : Option Obj} {nm T : String}

/-- x op b, x an own instance, b of a built-in type that the heap may tell -/
theorem gy_binT {op : Operator} {b : Value} {fo ro rc : Option Value} {Q : Value → Shared → Prop} (F : Fr h₀ L s.heap m) (X₀ : K.In h₀) (I : InstAt s.heap x ox C od) (hb : Looks (model prog w) s.heap (typeOf b) (.type T)) (hc : selfFirst K C = true)
    (hs : findIn K (.ref C) (PySem.dunder op.info.2) = some (some (.ref f))) (hf : isFn K (.ref f) = true) (hr : findIn K (.ref C) (dunderR op.info.2) = some rc) (hp : rc = none ∨ ∃ g : Addr, rc = some (.ref g))
    (h1 : findIn K (.type T) (PySem.dunder op.info.2) = some fo) (h2 : findIn K (.type T) (dunderR op.info.2) = some ro) (hsub : subIn K (.type T) (.ref C) = some false)
    (h : wpAny (model prog w) A (call (.ref f) [.ref x, b]) (CmpBack Q) E s) : wpAny (model prog w) A (binaryOp op (.ref x) b) Q E s := by
  have X := X₀.keeps F.keep
  obtain ⟨cd, rest, hcd, hm⟩ := ksp_first hc
  rcases hi : op.info with ⟨sym, nm'⟩
  rw [hi] at hs hr h1 h2
  dsimp only at hs hr h1 h2
  have one := ksp_try X I hs hf h
  obtain ⟨hh, g, d, tt, os⟩ := s
  have L1 : Looks (model prog w) hh (typeOf (.ref x)) (.ref C) := I.type
  have L2 : Looks (model prog w) hh (typeOf b) (.type T) := hb
  have L3 : Looks (model prog w) hh (fillsNumberSlot (.ref C) nm') true := fills_K X hcd hm hs
  have L4 : Looks (model prog w) hh (fillsNumberSlot (.type T) nm') ((fo.isSome && !isSeqSlot fo) || (ro.isSome && !isSeqSlot ro)) := ksp_fillsT X h1 h2
  have L5 : Looks (model prog w) hh (isSubtype (.type T) (.ref C)) false := looks_subIn X hsub
  have L6 : Looks (model prog w) hh (numberSlotInPython (.ref C) nm') true := ksp_inPy X hs hr hp
  have L7 : Looks (model prog w) hh (numberSlotInPython (.type T) nm') false := Looks.of_pure rfl
  have L8 : Looks (model prog w) hh (typeLookup (.type T) (dunderR nm')) ro := looks_findIn X h2
  generalize ((fo.isSome && !isSeqSlot fo) || (ro.isSome && !isSeqSlot ro)) = right at L4
  have hne : (Value.ref C == Value.type T) = false := Bool.eq_false_iff.mpr fun q => by cases beq_iff_eq.mp q
  simp only [binaryOp, hi]
  refine wpAny_holding (wpAny_bind ?_)
  unfold binaryOp1
  refine wpAny_bind (L1.at (wpAny_bind (L2.at (wpAny_bind (L3.at ?_)))))
  simp only [hne, Bool.false_eq_true, if_false]
  cases right with
  | false =>
    ksp_lk
    refine wpAny_mono one (fun r s' hr' => ?_) fun _ _ e => e
    obtain ⟨v, rfl, hq⟩ := hr'
    ksp_lk
    exact hq
  | true =>
    ksp_lk
    refine wpAny_mono one (fun r s' hr' => ?_) fun _ _ e => e
    obtain ⟨v, rfl, hq⟩ := hr'
    ksp_lk
    exact hq

/-- the class of x fills the slot by its reflected method -/
theorem gy_fillsR {M : Model} {h : Heap} {cd : ClassData} {rest : List Value} {fd : Option Value} (X : K.In h) (hc : clsIn K C = some cd) (hm : cd.mro = .ref C :: rest) (hd : findIn K (.ref C) (PySem.dunder nm) = some fd) (hp : fd = none ∨ ∃ g : Addr, fd = some (.ref g))
    (hs : findIn K (.ref C) (dunderR nm) = some (some (.ref f))) : Looks M h (fillsNumberSlot (.ref C) nm) true := by
  rcases hp with rfl | ⟨g, rfl⟩
  · intro A Q E s k q
    unfold fillsNumberSlot
    refine wpAny_bind ((looks_clsIn X hc).andThen (f := fun cd => pure cd.mro) .now A _ E s k ?_)
    rw [hm, List.anyM_cons]
    refine wpAny_bind ?_
    show wpAny M A (List.anyM _ [PySem.dunder nm, dunderR nm]) _ _ _
    rw [List.anyM_cons]
    refine wpAny_bind (wpAny_bind (looks_findIn X hd A _ E s k ?_))
    dsimp only
    refine wpAny_pure ?_
    rw [if_neg (by decide), List.anyM_cons]
    refine wpAny_bind (wpAny_bind (looks_findIn X hs A _ E s k ?_))
    dsimp only
    rw [if_pos (show (!ownNameWrapper (.ref f) (dunderR nm)) = true from rfl)]
    refine wpAny_pure ?_
    rw [if_pos rfl]
    refine wpAny_pure ?_
    rw [if_pos rfl]
    exact wpAny_pure q
  · exact fills_K X hc hm hd

/-- b op x, b of a built-in type whose own slot (if it is a number's) declines, x an own instance with the reflected method at f -/
theorem gy_binR {op : Operator} {b : Value} {fd fo ro : Option Value} {Q : Value → Shared → Prop} (F : Fr h₀ L s.heap m) (X₀ : K.In h₀) (I : InstAt s.heap x ox C od) (hb : Looks (model prog w) s.heap (typeOf b) (.type T)) (hc : selfFirst K C = true)
    (hd : findIn K (.ref C) (PySem.dunder op.info.2) = some fd) (hp : fd = none ∨ ∃ g : Addr, fd = some (.ref g))
    (hs : findIn K (.ref C) (dunderR op.info.2) = some (some (.ref f))) (hf : isFn K (.ref f) = true)
    (h1 : findIn K (.type T) (PySem.dunder op.info.2) = some fo) (h2 : findIn K (.type T) (dunderR op.info.2) = some ro) (hsub : subIn K (.ref C) (.type T) = some false)
    (hdec : ((fo.isSome && !isSeqSlot fo) || (ro.isSome && !isSeqSlot ro)) = true → ∀ P : Option Value → Shared → Prop, P none s → wpAny (model prog w) A (tryMethod b (PySem.dunder op.info.2) (.ref x)) P E s)
    (h : wpAny (model prog w) A (call (.ref f) [.ref x, b]) (CmpBack Q) E s) : wpAny (model prog w) A (binaryOp op b (.ref x)) Q E s := by
  have X := X₀.keeps F.keep
  obtain ⟨cd, rest, hcd, hm⟩ := ksp_first hc
  rcases hi : op.info with ⟨sym, nm'⟩
  rw [hi] at hs hd h1 h2 hdec
  dsimp only at hs hd h1 h2 hdec
  have one := ksp_try X I hs hf h
  obtain ⟨hh, g, d, tt, os⟩ := s
  have L1 : Looks (model prog w) hh (typeOf (.ref x)) (.ref C) := I.type
  have L2 : Looks (model prog w) hh (typeOf b) (.type T) := hb
  have L3 : Looks (model prog w) hh (fillsNumberSlot (.ref C) nm') true := gy_fillsR X hcd hm hd hp hs
  have L4 : Looks (model prog w) hh (fillsNumberSlot (.type T) nm') ((fo.isSome && !isSeqSlot fo) || (ro.isSome && !isSeqSlot ro)) := ksp_fillsT X h1 h2
  have L5 : Looks (model prog w) hh (isSubtype (.ref C) (.type T)) false := looks_subIn X hsub
  have L7 : Looks (model prog w) hh (numberSlotInPython (.type T) nm') false := Looks.of_pure rfl
  generalize ((fo.isSome && !isSeqSlot fo) || (ro.isSome && !isSeqSlot ro)) = left at L4 hdec
  have hne : (Value.type T == Value.ref C) = false := Bool.eq_false_iff.mpr fun q => by cases beq_iff_eq.mp q
  simp only [binaryOp, hi]
  refine wpAny_holding (wpAny_bind ?_)
  unfold binaryOp1
  refine wpAny_bind (L2.at (wpAny_bind (L1.at (wpAny_bind (L4.at ?_)))))
  simp only [hne, Bool.false_eq_true, if_false]
  cases left with
  | false =>
    ksp_lk
    refine wpAny_mono one (fun r s' hr' => ?_) fun _ _ e => e
    obtain ⟨v, rfl, hq⟩ := hr'
    ksp_lk
    exact hq
  | true =>
    ksp_lk
    refine hdec rfl _ ?_
    ksp_lk
    refine wpAny_mono one (fun r s' hr' => ?_) fun _ _ e => e
    obtain ⟨v, rfl, hq⟩ := hr'
    ksp_lk
    exact hq
end
end PySem.W

namespace PySem.GyDec
open PySem PySem.W
section
variable {C dx x : Addr} (a : Int) (t : Tok)
theorem add_dec : GivesAt (fun s => s.heap.get? x = some (instObj C dx)) (Builtin.«int.__add__» ⟨[.int a t, .ref x], []⟩) (.val .notImplemented) := fun prog w A R s hP h => by
  obtain ⟨hp, g, d, tk, os⟩ := s
  have hl : Heap.get? (Shared.heap ⟨hp, g, d, tk, os⟩) x = some (instObj C dx) := hP
  wp_walk using AutoSeq1.wpAny_loadPart' hl
  exact h
theorem sub_dec : GivesAt (fun s => s.heap.get? x = some (instObj C dx)) (Builtin.«int.__sub__» ⟨[.int a t, .ref x], []⟩) (.val .notImplemented) := fun prog w A R s hP h => by
  obtain ⟨hp, g, d, tk, os⟩ := s
  have hl : Heap.get? (Shared.heap ⟨hp, g, d, tk, os⟩) x = some (instObj C dx) := hP
  wp_walk using AutoSeq1.wpAny_loadPart' hl
  exact h
theorem mul_dec : GivesAt (fun s => s.heap.get? x = some (instObj C dx)) (Builtin.«int.__mul__» ⟨[.int a t, .ref x], []⟩) (.val .notImplemented) := fun prog w A R s hP h => by
  obtain ⟨hp, g, d, tk, os⟩ := s
  have hl : Heap.get? (Shared.heap ⟨hp, g, d, tk, os⟩) x = some (instObj C dx) := hP
  wp_walk using AutoSeq1.wpAny_loadPart' hl
  exact h
end
section
variable {prog : Program} {w : World} {A : Around} {E : Value → Shared → Prop} {s : Shared} {C dx x : Addr} {a : Int} {t : Tok} {P : Option Value → Shared → Prop}
theorem try_dec {name : Str} {id : String} {B : Builtin} (slot : Slot "int" name id) (entry : entryFor table id = some B) (args : argsOk id ⟨[.int a t, .ref x], []⟩)
    (g : GivesAt (fun s => s.heap.get? x = some (instObj C dx)) (B ⟨[.int a t, .ref x], []⟩) (.val .notImplemented)) (hx : s.heap.get? x = some (instObj C dx)) (h : P none s) : wpAny (model prog w) A (tryMethod (.int a t) name (.ref x)) P E s :=
  wpAny_tryMethod_declines (typeIs_int s a t) slot (call_givesAt slot (typeIs_int s a t) entry args g hx ⟨rfl, h⟩)
theorem try_add (hx : s.heap.get? x = some (instObj C dx)) (h : P none s) : wpAny (model prog w) A (tryMethod (.int a t) (PySem.dunder Operator.Add.info.2) (.ref x)) P E s :=
  try_dec (name := PySem.dunder Operator.Add.info.2) (id := "int.__add__") (B := Builtin.«int.__add__») F.slot_int_add F.entry_int_add (F.args_int_add_2 _ _) (add_dec a t) hx h
theorem try_sub (hx : s.heap.get? x = some (instObj C dx)) (h : P none s) : wpAny (model prog w) A (tryMethod (.int a t) (PySem.dunder Operator.Sub.info.2) (.ref x)) P E s :=
  try_dec (name := PySem.dunder Operator.Sub.info.2) (id := "int.__sub__") (B := Builtin.«int.__sub__») F.slot_int_sub F.entry_int_sub (F.args_int_sub_2 _ _) (sub_dec a t) hx h
theorem try_mul (hx : s.heap.get? x = some (instObj C dx)) (h : P none s) : wpAny (model prog w) A (tryMethod (.int a t) (PySem.dunder Operator.Mult.info.2) (.ref x)) P E s :=
  try_dec (name := PySem.dunder Operator.Mult.info.2) (id := "int.__mul__") (B := Builtin.«int.__mul__») F.slot_int_mul F.entry_int_mul (F.args_int_mul_2 _ _) (mul_dec a t) hx h
end
end PySem.GyDec

namespace L2
open PySem PySem.Spec PyProof.Rows
/-! ### an own class's operators -/
/-- what the text says of the class at C for the operator op: its method at g, its reflected one at r -/
structure GyOp (K : PySem.W.Frag) (C : Addr) (op : Operator) (g r : Addr) : Prop where
  sf : PySem.W.selfFirst K C = true
  d : PySem.W.findIn K (.ref C) (PySem.dunder op.info.2) = some (some (.ref g))
  df : PySem.W.isFn K (.ref g) = true
  rm : PySem.W.findIn K (.ref C) (dunderR op.info.2) = some (some (.ref r))
  rf : PySem.W.isFn K (.ref r) = true
  i1 : ∃ fo, PySem.W.findIn K (.type "int") (PySem.dunder op.info.2) = some fo
  i2 : ∃ ro, PySem.W.findIn K (.type "int") (dunderR op.info.2) = some ro
  up : PySem.W.subIn K (.type "int") (.ref C) = some false
  dn : PySem.W.subIn K (.ref C) (.type "int") = some false
theorem gy_back {P : Value → Shared → Prop} {z : V} {v : Value} {s' : Shared} (r : RelV z v) (h : P v s') : PySem.W.CmpBack P v s' := by
  cases z with
  | non => cases (show v = Value.none from r); exact h
  | bl b => cases (show v = Value.bool b from r); exact h
  | int i => obtain ⟨t, e⟩ := (show ∃ t, v = Value.int i t from r); cases e; exact h
  | str x => obtain ⟨t, e⟩ := (show ∃ t, v = Value.str x t from r); cases e; exact h
  | byt b => obtain ⟨t, e⟩ := (show ∃ t, v = Value.bytes b t from r); cases e; exact h
  | flt b => obtain ⟨t, e⟩ := (show ∃ t, v = Value.float b t from r); cases e; exact h
  | ref a => cases (show v = Value.ref a from r); exact h
  | ty n => cases (show v = Value.type n from r); exact h
section
variable {X : Cx} {CX : CXT} {pins : List (Addr × Obj)} {σ : St} {H : Hp} {s : Shared} {a C dx g r : Addr} {fs : List (Str × V)} {k : Nat} {fd : FuncData} {ps : List Str} {sp : Sp} {E : XK}
theorem ins_at (I : Inv X pins σ H s) (h : H a = some (.ins C dx fs)) : ∃ od, PySem.W.InstAt s.heap a (PySem.W.instObj C dx) C (some od) ∧ s.heap.get? a = some (PySem.W.instObj C dx) := by
  obtain ⟨mA, O, _⟩ := ins_get I.hok h
  obtain ⟨od, J, _⟩ := O.look
  exact ⟨od, J, J.at_⟩
/-- x op y, x an instance, y an instance or an int -/
def rGyD (C : Addr) (sp : Sp) (E : XK) : R2 := fun x y H Q => ∃ a dx fs, x = .ref a ∧ H a = some (.ins C dx fs) ∧ ((∃ b dy gs, y = .ref b ∧ H b = some (.ins C dy gs)) ∨ ∃ i, y = .int i) ∧ sp [x, y] H Q E
theorem op_gyD {op : Operator} (D : GyOp X.K C op g r) (F : FnOk X.prog X.w X.K X.mg X.base CX k g fd ps sp) (hr : Room k X.A) (hb : Binds X.K fd ps []) (hx : Passes CX X E) : OpR X (binaryOp op) (rGyD C sp E) := by
  intro pins s σ H x y v u Q I rx ry h
  obtain ⟨a, dx, fs, rfl, ha, hy, q⟩ := h
  obtain rfl : v = Value.ref a := rx
  obtain ⟨od, J, _⟩ := ins_at I ha
  obtain ⟨m, hF⟩ := I.fr
  have q' : sp ([.ref a, y] ++ []) H Q E := q
  have go : wpAny (model X.prog X.w) X.A (call (.ref g) [.ref a, u]) (PySem.W.CmpBack (EP X pins σ Q)) X.xe s :=
    wpAny_mono (run_fn (us := [.ref a, u]) (vs := [.ref a, y]) F hr hb .nil hx I (.cons rfl (.cons ry .nil)) q') (fun w s' z => by
      obtain ⟨z', H', I', rz, qz⟩ := z
      exact gy_back rz ⟨z', H', I', rz, qz⟩) fun _ _ e => e
  rcases hy with ⟨b, dy, gs, rfl, hb'⟩ | ⟨i, rfl⟩
  · obtain rfl : u = Value.ref b := ry
    obtain ⟨od', J', _⟩ := ins_at I hb'
    exact PySem.W.binop_K hF I.ok.mod.kin J J'.type D.sf D.d D.df go
  · obtain ⟨t, rfl⟩ := ry
    obtain ⟨fo, h1⟩ := D.i1
    obtain ⟨ro, h2⟩ := D.i2
    exact PySem.W.gy_binT hF I.ok.mod.kin J (PySem.W.Looks.of_pure rfl) D.sf D.d D.df D.rm (.inr ⟨r, rfl⟩) h1 h2 D.up go
/-- n op y, n an int, y an instance: its reflected method -/
def rGyR (C : Addr) (sp : Sp) (E : XK) : R2 := fun x y H Q => ∃ i b dy gs, x = .int i ∧ y = .ref b ∧ H b = some (.ins C dy gs) ∧ sp [y, x] H Q E
theorem op_gyR {op : Operator} (D : GyOp X.K C op g r) (dec : ∀ (A : Around) (E : Value → Shared → Prop) (s : Shared) (C dx x : Addr) (a : Int) (t : Tok) (P : Option Value → Shared → Prop), s.heap.get? x = some (PySem.W.instObj C dx) → P none s →
      wpAny (model X.prog X.w) A (tryMethod (.int a t) (PySem.dunder op.info.2) (.ref x)) P E s)
    (F : FnOk X.prog X.w X.K X.mg X.base CX k r fd ps sp) (hr : Room k X.A) (hb : Binds X.K fd ps []) (hx : Passes CX X E) : OpR X (binaryOp op) (rGyR C sp E) := by
  intro pins s σ H x y v u Q I rx ry h
  obtain ⟨i, b, dy, gs, rfl, rfl, hb', q⟩ := h
  obtain ⟨t, rfl⟩ := rx
  obtain rfl : u = Value.ref b := ry
  obtain ⟨od, J, hg⟩ := ins_at I hb'
  obtain ⟨m, hF⟩ := I.fr
  obtain ⟨fo, h1⟩ := D.i1
  obtain ⟨ro, h2⟩ := D.i2
  have q' : sp ([.ref b, .int i] ++ []) H Q E := q
  have go : wpAny (model X.prog X.w) X.A (call (.ref r) [.ref b, .int i t]) (PySem.W.CmpBack (EP X pins σ Q)) X.xe s :=
    wpAny_mono (run_fn (us := [.ref b, .int i t]) (vs := [.ref b, .int i]) F hr hb .nil hx I (.cons rfl (.cons ⟨t, rfl⟩ .nil)) q') (fun w s' z => by
      obtain ⟨z', H', I', rz, qz⟩ := z
      exact gy_back rz ⟨z', H', I', rz, qz⟩) fun _ _ e => e
  exact PySem.W.gy_binR hF I.ok.mod.kin J (PySem.W.Looks.of_pure rfl) D.sf D.d (.inr ⟨g, rfl⟩) D.rm D.rf h1 h2 D.dn (fun _ P hp => dec X.A _ s C dy b i t P hg hp) go
theorem op_gyRadd (D : GyOp X.K C .Add g r) (F : FnOk X.prog X.w X.K X.mg X.base CX k r fd ps sp) (hr : Room k X.A) (hb : Binds X.K fd ps []) (hx : Passes CX X E) : OpR X (binaryOp .Add) (rGyR C sp E) :=
  op_gyR D (fun A E s C dx x a t P hx hp => GyDec.try_add hx hp) F hr hb hx
theorem op_gyRsub (D : GyOp X.K C .Sub g r) (F : FnOk X.prog X.w X.K X.mg X.base CX k r fd ps sp) (hr : Room k X.A) (hb : Binds X.K fd ps []) (hx : Passes CX X E) : OpR X (binaryOp .Sub) (rGyR C sp E) :=
  op_gyR D (fun A E s C dx x a t P hx hp => GyDec.try_sub hx hp) F hr hb hx
theorem op_gyRmul (D : GyOp X.K C .Mult g r) (F : FnOk X.prog X.w X.K X.mg X.base CX k r fd ps sp) (hr : Room k X.A) (hb : Binds X.K fd ps []) (hx : Passes CX X E) : OpR X (binaryOp .Mult) (rGyR C sp E) :=
  op_gyR D (fun A E s C dx x a t P hx hp => GyDec.try_mul hx hp) F hr hb hx
/-- -x of an instance -/
def rGyN (C : Addr) (sp : Sp) (E : XK) : V → Hp → VK → Prop := fun x H Q => ∃ a dx fs, x = .ref a ∧ H a = some (.ins C dx fs) ∧ sp [x] H Q E
theorem un_gyN (hs : PySem.W.findIn X.K (.ref C) "__neg__" = some (some (.ref g))) (hf : PySem.W.isFn X.K (.ref g) = true) (F : FnOk X.prog X.w X.K X.mg X.base CX k g fd ps sp) (hr : Room k X.A) (hb : Binds X.K fd ps []) (hx : Passes CX X E) :
    UnR X (unaryOp .USub) (rGyN C sp E) := by
  intro pins s σ H x v Q I rx h
  obtain ⟨a, dx, fs, rfl, ha, q⟩ := h
  obtain rfl : v = Value.ref a := rx
  obtain ⟨od, J, _⟩ := ins_at I ha
  obtain ⟨m, hF⟩ := I.fr
  have q' : sp ([.ref a] ++ []) H Q E := q
  exact PySem.W.ksp_neg hF I.ok.mod.kin J hs hf (run_fn (us := [.ref a]) (vs := [.ref a]) F hr hb .nil hx I (.cons rfl .nil) q')
end
/-! ### great numbers -/
section
variable {X : Cx}
def GDiv (_ j : Int) : Prop := j ≠ 0 ∧ j.natAbs.log2 < 9000
theorem op_mulG : OpR X (binaryOp .Mult) (rI IntMulOk fun i j => .int (i * j)) := opI fun _ _ _ _ _ _ _ hc q => mul_int q hc
theorem op_fdivG : OpR X (binaryOp .FloorDiv) (rI GDiv fun i j => .int (i.fdiv j)) := opI fun _ _ _ _ _ _ _ hc q => floordiv_int hc.1 q (.inl (PyProof.noPylong_of_log2 hc.2))
end
theorem gDiv_lt {i j : Int} {b : Nat} (h : j ≠ 0) (hb : j.natAbs < 2 ^ b) (h0 : 0 < b) (h9 : b ≤ 9000) : GDiv i j := ⟨h, Nat.lt_of_lt_of_le (PySem.Flt.log2_lt_of h0 hb) h9⟩
end L2

namespace PySem
open PySem.W PyProof.Rows AutoSeq1
theorem gy_enum_new (l : Addr) (items : Array Value) (o : Obj) (n : Nat) (ho : o.cls = .type "tuple" ∧ o.data = .seq items n) :
    Meets (Builtin.«enumerate.__new__» ⟨[.type "enumerate", .ref l], []⟩) (fun _ R s => s.heap.get? l = some o ∧
      R (.ok (.ret (.ref (s.heap.push { cls := .type "tuple_iterator", data := .fields #[.ref l, .int 0 0] }).objs.size)))
        { s with heap := (s.heap.push { cls := .type "tuple_iterator", data := .fields #[.ref l, .int 0 0] }).push { cls := .type "enumerate", data := .fields #[.none, .bool false, .ref s.heap.objs.size, rawInt 0, .none, .none] } }) :=
  .of_wp fun prog w A R s h => by
    obtain ⟨hp, g, d, tk, os⟩ := s
    obtain ⟨hl, h⟩ := h
    have hsub := sub_enumerate
    have hL : Heap.IsTuple (Shared.heap ⟨hp, g, d, tk, os⟩) l items := ⟨_, hl, ho.1, n, ho.2⟩
    wp_walk using wpAny_loadPart' hl
    refine wpAny_stack_any fun st => wpAny_pure ?_
    split
    · rename_i c _ _ _ _ _
      cases (c == Value.type "enumerate")
      · wp_walk using wpAny_loadPart' hl, wpAny_pyIter_tuple hL
        exact ⟨_, rfl, h⟩
      · wp_walk using wpAny_loadPart' hl, wpAny_pyIter_tuple hL
        exact ⟨_, rfl, h⟩
    · wp_walk using wpAny_loadPart' hl, wpAny_pyIter_tuple hL
      exact ⟨_, rfl, h⟩
section
variable {prog : Program} {w : World} {A : Around} {E : Value → Shared → Prop} {s : Shared}
theorem gy_call_enum {l : Addr} {items : Array Value} {Q : Value → Shared → Prop} (hL : IsTup s.heap l items)
    (h : ∀ h', IsEnum h' (s.heap.objs.size + 1) s.heap.objs.size 0 .none → h'.IsTupleIter s.heap.objs.size l 0 → h'.objs.size = s.heap.objs.size + 2 →
      (∀ b o, s.heap.get? b = some o → h'.get? b = some o) → Q (.ref (s.heap.objs.size + 1)) { s with heap := h' }) :
    wpAny (model prog w) A (call (.type "enumerate") [.ref l]) Q E s := by
  obtain ⟨o, hl, hc, n, hd⟩ := hL
  refine callType_new F.called_enumerate (by decide) (F.typeCall_enumerate_1 _) (F.newCall_enumerate_1 _) (fun obj => F.args_object_init_2 obj _) F.entry_enumerate_new
    (gy_enum_new l items o n ⟨hc, hd⟩) ⟨hl, ?_⟩
  have hz : (s.heap.push { cls := .type "tuple_iterator", data := .fields #[.ref l, .int 0 0] }).objs.size = s.heap.objs.size + 1 := Heap.size_push ..
  show _ ∧ _
  rw [hz]
  have he : IsEnum ((s.heap.push { cls := .type "tuple_iterator", data := .fields #[.ref l, .int 0 0] }).push
      { cls := .type "enumerate", data := .fields #[.none, .bool false, .ref s.heap.objs.size, rawInt 0, .none, .none] }) (s.heap.objs.size + 1) s.heap.objs.size 0 .none := by
    have := Heap.get?_push_size (s.heap.push { cls := .type "tuple_iterator", data := .fields #[.ref l, .int 0 0] })
      (o := { cls := .type "enumerate", data := .fields #[.none, .bool false, .ref s.heap.objs.size, rawInt 0, .none, .none] }) rfl
    rw [hz] at this; exact this
  refine ⟨⟨_, he, rfl⟩, h _ he ⟨_, Heap.get?_push_of_some _ (Heap.get?_push_size _ rfl), rfl, rfl⟩ (by rw [Heap.size_push, hz]) fun b o x => Heap.get?_push_of_some _ (Heap.get?_push_of_some _ x)⟩
end
end PySem
namespace L2
open PySem PySem.Spec PyProof.Rows
/-! ### enumerate of a tuple -/
def IteT (K : PySem.W.Frag) (a : Addr) : It :=
  ⟨fun i H => ∃ (xs : List V) (x : V), SqT K H a xs ∧ xs[i]? = some x, fun i H v H' => ∃ T x, v = .ref T ∧ H T = none ∧ H' = upd H T (.tup [.int (i : Nat), x]) ∧ ∀ xs, SqT K H a xs → xs[i]? = some x, fun i H => ∃ xs : List V, SqT K H a xs ∧ xs.length ≤ i⟩
theorem turn_enumT {P : Program} {w : World} {K : PySem.W.Frag} {elts : List Expr} {kk : Nat} {tpos : Pos} (a e it : Addr) :
    Turn P w K (.Tuple elts kk tpos) (IteT K a) [e, it] e (fun i h => (∃ old, IsEnum h e it ((i : Nat) : Int) old) ∧ h.IsTupleIter it a i ∧ e ≠ it) where
  mem := by simp
  obj := fun i h st b hb => by
    obtain ⟨⟨old, he⟩, ⟨o, ho, hc, hd⟩, _⟩ := st
    have e' : b = e ∨ b = it := by simpa using hb
    rcases e' with z | z
    · rw [z]; exact ⟨_, he, fun v q => nomatch q⟩
    · rw [z]; exact ⟨o, ho, fun v q => by rw [hd] at q; cases q⟩
  keep := fun i h h' st k => let ⟨⟨old, he⟩, hi, hne⟩ := st; ⟨⟨old, k e (by simp) _ he⟩, hi.at fun o q => k it (by simp) o q, hne⟩
  item := by
    intro X hP hw hK hc i pins s σ H E I hf st hg
    subst hP hw hK
    obtain ⟨⟨old, he⟩, hit, hne⟩ := st
    obtain ⟨xs, x, hq, hx⟩ := hg
    obtain ⟨its, rv, p, hz⟩ := I.tuple hq
    obtain ⟨u, hu, ru⟩ := rv.get hx
    have hel : e < s.heap.objs.size := Heap.lt_size he
    have hil : it < s.heap.objs.size := by obtain ⟨_, q, _⟩ := hit; exact Heap.lt_size q
    have pa : s.heap.IsTuple a its.toArray := p
    have ha_it : a ≠ it := by
      intro z
      obtain ⟨o, h1, h2, _⟩ := p
      obtain ⟨o', h3, h4, _⟩ := hit
      rw [z, h3] at h1
      cases h1
      rw [h2] at h4
      exact absurd (Value.type.inj h4) (by decide)
    have ha_e : a ≠ e := by
      intro z
      obtain ⟨o, h1, h2, _⟩ := p
      have h3 := he
      unfold IsEnum at h3
      rw [z, h3] at h1
      cases h1
      exact absurd (Value.type.inj h2) (by decide)
    have hhd : X.A.in1.handled = none := I.ok.hd hc
    have hlt : i < its.toArray.size := by
      have := (List.getElem?_eq_some_iff.mp hu).1
      simpa using this
    refine wpAny_pyNext_enum_itemD (Draws.tuple (prog := X.prog) (w := X.w) hhd it a ha_it its.toArray) he ⟨hit, pa⟩ hlt hne (by simp [hne, ha_e.symm]) fun y h' tk hy ho hst hT hsz hk => ?_
    have hyu : y = u := by
      have h1 : its.toArray[i]? = some y := hy
      have h2 : its[i]? = some y := by simpa using h1
      rw [hu] at h2
      exact (Option.some.inj h2).symm
    subst hyu
    refine ⟨_, rfl, wpAny_letOwnedTupleGo_enum (s := { s with heap := h', toks := tk + 1 }) ho fun h'' he' sb => ?_⟩
    have hT2 : h''.get? s.heap.objs.size = some { cls := .type "tuple", data := .seq #[.int i tk, y] } := (sb.2 _ (Nat.ne_of_gt hel)).trans hT
    have new : ObjOk X.prog X.w (upd H s.heap.objs.size (.tup [.int (i : Nat), x])) h'' s.heap.objs.size (.tup [.int (i : Nat), x]) :=
      ⟨by show 2 ≤ sizeLine; decide, [.int i tk, y], .cons ⟨_, rfl⟩ (.cons ru .nil), ⟨_, hT2, rfl, _, rfl⟩⟩
    have I1 : Inv X pins σ (upd H s.heap.objs.size (.tup [.int (i : Nat), x])) { s with heap := h'', toks := tk + 1 } :=
      I.turnedNew (ch := [e, it]) (fun b ob hb q => (sb.2 b (fun z => hb (by simp [z]))).trans (hk b ob (fun z => hb (by simp [z])) (fun z => hb (by simp [z])) q)) hf (Nat.le_refl _) new
    refine ⟨.ref s.heap.objs.size, _, I1, rfl, ⟨_, x, rfl, I.hok.fresh (Nat.le_refl _), rfl, fun ys hy => by rw [I.tuple_inj hy hq]; exact hx⟩, ⟨⟨y, ?_⟩, hst.1.at fun o q => (sb.2 it (Ne.symm hne)).trans q, hne⟩, fun b hb => ?_⟩
    · have e1 : ((i + 1 : Nat) : Int) = (i : Int) + 1 := by omega
      rw [e1]; exact he'
    · have hb' : b < s.heap.objs.size := by
        have e' : b = e ∨ b = it := by simpa using hb
        rcases e' with z | z
        · rw [z]; exact hel
        · rw [z]; exact hil
      rw [upd_ne (Nat.ne_of_lt hb')]
      exact (hf b hb).1
  done := by
    intro X hP hw hK hc i pins s σ H E I hf st hg
    subst hP hw hK
    obtain ⟨⟨old, he⟩, hit, hne⟩ := st
    obtain ⟨xs, hq, hx⟩ := hg
    obtain ⟨its, rv, p, hz⟩ := I.tuple hq
    obtain ⟨f0, f1, f2, f3, f4, f5⟩ := hf it (by simp)
    have hl := rv.length
    have pa : s.heap.IsTuple a its.toArray := p
    have ha_it : a ≠ it := by
      intro z
      obtain ⟨o, h1, h2, _⟩ := p
      obtain ⟨o', h3, h4, _⟩ := hit
      rw [z, h3] at h1
      cases h1
      rw [h2] at h4
      exact absurd (Value.type.inj h4) (by decide)
    have hhd : X.A.in1.handled = none := I.ok.hd hc
    have hT : s.TypeIs (.ref e) "enumerate" := ⟨_, he, rfl⟩
    unfold pyNext
    refine wpAny_bind (wpAny_attempt (wpAny_callSpecial?_slot (name := Str.ofString "__next__") hT F.slot_enumerate_next
      (wpAny_call_entry F.slot_enumerate_next hT F.entry_enumerate_next ?_ (F.args_enumerate_next_1 _))))
    show wpAny _ _ (field (.ref e) 2 >>= _) _ _ _
    refine wpAny_bind (wpAny_field he rfl (x := .ref it) rfl ?_)
    refine wpAny_bind (wpAny_nextOf_tuple_end hhd hit pa (by simp; omega) fun h' x he' hx' => ?_)
    obtain ⟨o, ho, hcl⟩ := hx'
    refine wpAny_bind (wpAny_isInstance (T := "StopIteration") (b := true) ⟨o, ho, hcl⟩ isSubtype_stop ?_)
    exact wpAny_pure ⟨rfl, I.turned (t' := s.toks) (fun b o hb q => he' b o hb q) f0 f1 f3 f4 f5⟩
  self := fun A i s Q E st h => let ⟨⟨_, he⟩, _⟩ := st; wpAny_pyIter_enum he h
def iEnumT (K : PySem.W.Frag) (ta : TA) : TI := fun σ H R => ta σ H fun vs H1 => ∃ a xs, vs = [.ref a] ∧ SqT K H1 a xs ∧ R (IteT K a) H1
theorem pi_enumT {X : Cx} {e : Expr} {ta : TA} {p pos tpos : Pos} {elts : List Expr} {kk : Nat} (hg : Gl X "enumerate") (hm : X.mg "enumerate" = none) (ha : PA X [e] ta) (hs : starEach [e] X.env = [(false, eval e X.env)] := by rfl) :
    PI X (.Tuple elts kk tpos) (.Call (.Name "enumerate" p) [e] [] pos) (iEnumT X.K ta) := by
  refine ⟨fun pins s σ H R I h => ?_⟩
  refine Call_ (ld_blt I hg hm boot_enumerate (PyProof.Rows.callWith_type1 (thn (ha.run pos pins s σ H _ I h) fun us s1 ⟨vs, H1, I1, r1, q1⟩ => ?_) hs rfl))
  obtain ⟨a, xs, ex, hq, q⟩ := q1
  subst ex
  cases r1 with
  | cons r rr =>
    cases rr
    cases r
    obtain ⟨its, rv, p', hz⟩ := I1.tuple hq
    refine gy_call_enum p' fun h' he hit hsz hk => wpAny_pyIter_enum he ?_
    have I2 : Inv X pins σ H1 { s1 with heap := h' } := I1.kept (t' := s1.toks) hk
    refine ⟨s1.heap.objs.size + 1, [s1.heap.objs.size + 1, s1.heap.objs.size], _, _, H1, rfl, I2, turn_enumT a (s1.heap.objs.size + 1) s1.heap.objs.size, ⟨⟨.none, he⟩, hit, Nat.succ_ne_self _⟩, fun b hb => ?_, q⟩
    have e' : b = s1.heap.objs.size + 1 ∨ b = s1.heap.objs.size := by simpa using hb
    have hle : s1.heap.objs.size ≤ b := by
      rcases e' with z | z
      · rw [z]; exact Nat.le_add_right _ _
      · rw [z]; exact Nat.le_refl _
    exact I1.fpOk hle (I1.hok.fresh hle)
/-- over enumerate of a tuple that stands still: the pair stands in a new tuple at T -/
theorem for_enumT {K : PySem.W.Frag} {a : Addr} {xs : List V} {g : TG} {tb : TS} {D : Ends} {σ : St} {H : Hp} (Pv : Nat → St → Hp → Prop) (h0 : Pv 0 σ H) (hl : ∀ i σ H, i ≤ xs.length → Pv i σ H → SqT K H a xs)
    (hs : ∀ i x σ H T, xs[i]? = some x → Pv i σ H → H T = none → g (.ref T) σ (upd H T (.tup [.int (i : Nat), x])) fun σ2 H2 => tb { D with nx := Pv (i + 1), ct := Pv (i + 1), bk := D.nx } σ2 H2) (hd : ∀ σ H, Pv xs.length σ H → D.nx σ H) :
    ∃ W : Nat → Nat → St → Hp → Prop, (∃ m, W 0 m σ H) ∧ ∀ i m σ H, W i m σ H →
      ((IteT K a).stop i H ∧ D.nx σ H) ∨ ((IteT K a).go i H ∧ ∃ N : St → Hp → Prop, (∀ σ' H', N σ' H' → ∃ m', m' < m ∧ W (i + 1) m' σ' H') ∧ ∀ x H', (IteT K a).yld i H x H' → g x σ H' fun σ2 H2 => tb { D with nx := N, ct := N, bk := D.nx } σ2 H2) := by
  refine ⟨fun i m σ H => m = xs.length - i ∧ i ≤ xs.length ∧ Pv i σ H, ⟨xs.length, by simp, Nat.zero_le _, h0⟩, ?_⟩
  rintro i m σ H ⟨rfl, hi, p⟩
  have q := hl i σ H hi p
  by_cases hlt : i < xs.length
  · refine .inr ⟨⟨xs, xs[i], q, by simp [hlt]⟩, Pv (i + 1), fun σ' H' p' => ⟨xs.length - (i + 1), by omega, rfl, hlt, p'⟩, fun x H' y => ?_⟩
    obtain ⟨T, z, rfl, hT, e, y⟩ := y
    subst e
    exact hs i z σ H T (y xs q) p hT
  · have e : i = xs.length := by omega
    subst e
    exact .inl ⟨⟨xs, q, Nat.le_refl _⟩, hd σ H p⟩
end L2

set_option Elab.async false
set_option linter.all false
set_option maxRecDepth 100000
set_option maxHeartbeats 4000000
/-! Lay1: heaps from one moment to the next, reduced fractions, sizes. -/
namespace Gy
open PySem L2

/-! ### heaps -/
/-- a new object, its heap by a name of its own -/
theorem alloc {H : Hp} {o : HO} {Q : V → Hp → Prop} (h : ∀ p H1, H p = none → Same H H1 → H1 p = some o → Q (.ref p) H1) : ∀ p, H p = none → Q (.ref p) (upd H p o) := fun p hp =>
  h p _ hp (fun b u e => by rw [upd_ne (ne_of_none e hp)]; exact e) upd_same
/-- all but the object at st is as it was -/
def Keep (st : Addr) (H H' : Hp) : Prop := ∀ b o, H b = some o → b ≠ st → H' b = some o
theorem Keep.refl (st : Addr) (H : Hp) : Keep st H H := fun _ _ e _ => e
theorem Keep.trans {st : Addr} {H H1 H2 : Hp} (a : Keep st H H1) (b : Keep st H1 H2) : Keep st H H2 := fun c o e n => b c o (a c o e n) n
theorem Same.keep {st : Addr} {H H1 : Hp} (a : Same H H1) : Keep st H H1 := fun c o e _ => a c o e
theorem keep_upd {st : Addr} {H : Hp} {o : HO} : Keep st H (upd H st o) := fun b u e n => by rw [upd_ne n]; exact e
theorem same_upd {p : Addr} {H : Hp} {o : HO} (h : H p = none) : Same H (upd H p o) := fun b u e => by rw [upd_ne (ne_of_none e h)]; exact e
/-- an instance that is being made -/
theorem made {H : Hp} {x dx C : Addr} (nx : H x = none) (nd : H dx = none) (ne : dx ≠ x) : Same H (upd (upd H dx (.own x)) x (.ins C dx [])) := fun b o e => by
  rw [upd_ne (ne_of_none e nx), upd_ne (ne_of_none e nd)]
  exact e

/-- the state of the draws at st: its cells are the ints ns -/
def StAt (H : Hp) (st c : Addr) (ns : List Int) : Prop := (∃ nth left mx, H st = some (.lst [.ref c, .int nth, .int left, .bl mx])) ∧ H c = some (.lst (ns.map V.int)) ∧ c ≠ st
theorem StAt.same {H H' : Hp} {st c : Addr} {ns : List Int} (h : StAt H st c ns) (e : Same H H') : StAt H' st c ns :=
  ⟨let ⟨a, b, d, z⟩ := h.1; ⟨a, b, d, e _ _ z⟩, e _ _ h.2.1, h.2.2⟩
theorem StAt.upd {H : Hp} {st c : Addr} {ns : List Int} {nth left : Int} {mx : Bool} (h : StAt H st c ns) : StAt (upd H st (.lst [.ref c, .int nth, .int left, .bl mx])) st c ns :=
  ⟨⟨nth, left, mx, upd_same⟩, by rw [upd_ne h.2.2]; exact h.2.1, h.2.2⟩

/-! ### sizes -/
theorem mulOk {a b : Int} {m n : Nat} (ha : a.natAbs < 2 ^ m) (hb : b.natAbs < 2 ^ n) (h0 : 0 < m) (h1 : 0 < n) (h : m + n ≤ 1000000) : IntMulOk a b := (wide_mul ha hb h0 h1 h).ok
theorem mulOk_l {a b : Int} (h : -(2 ^ 64) < a ∧ a < 2 ^ 64) : IntMulOk a b := (show CMul a b from .inl h).ok
theorem mulOk_r {a b : Int} (h : -(2 ^ 64) < b ∧ b < 2 ^ 64) : IntMulOk a b := (show CMul a b from .inr h).ok
theorem sz_mul {a b : Int} {m n : Nat} (ha : a.natAbs < 2 ^ m) (hb : b.natAbs < 2 ^ n) : (a * b).natAbs < 2 ^ (m + n) := wide_lt ha hb
theorem sz_add {a b : Int} {m : Nat} (ha : a.natAbs < 2 ^ m) (hb : b.natAbs < 2 ^ m) : (a + b).natAbs < 2 ^ (m + 1) := by
  rw [Nat.pow_succ]
  omega
theorem sz_sub {a b : Int} {m : Nat} (ha : a.natAbs < 2 ^ m) (hb : b.natAbs < 2 ^ m) : (a - b).natAbs < 2 ^ (m + 1) := by
  rw [Nat.pow_succ]
  omega
theorem sz_neg {a : Int} {m : Nat} (ha : a.natAbs < 2 ^ m) : (-a).natAbs < 2 ^ m := by
  rw [Int.natAbs_neg]
  exact ha
theorem sz_up {a : Int} {m n : Nat} (ha : a.natAbs < 2 ^ m) (h : m ≤ n) : a.natAbs < 2 ^ n := Nat.lt_of_lt_of_le ha (Nat.pow_le_pow_right (by decide) h)

/-! ### fractions -/
/-- what reduces a over b: their greatest common part, with b's sign -/
def red_w (a b : Int) : Int := if b < 0 then -(Int.gcd a b : Int) else (Int.gcd a b : Int)
def red (a b : Int) : Int × Int := (a.fdiv (red_w a b), b.fdiv (red_w a b))
/-- a reduced pair -/
def Rd (p : Int × Int) : Prop := 0 < p.2 ∧ Int.gcd p.1 p.2 = 1
theorem red_w_ne {a b : Int} (h : b ≠ 0) : red_w a b ≠ 0 := by
  have g : (Int.gcd a b) ≠ 0 := by
    intro z
    exact h (Int.gcd_eq_zero_iff.mp z).2
  unfold red_w
  split <;> omega
theorem gcd_le {a b : Int} (h : b ≠ 0) : Int.gcd a b ≤ b.natAbs := Nat.le_of_dvd (Int.natAbs_pos.mpr h) (by rw [Int.gcd]; exact Nat.gcd_dvd_right _ _)
theorem red_w_abs {a b : Int} : (red_w a b).natAbs = Int.gcd a b := by
  unfold red_w
  split <;> simp
theorem red_w_dvd {a b : Int} : red_w a b ∣ a ∧ red_w a b ∣ b := by
  have h1 : (Int.gcd a b : Int) ∣ a := Int.gcd_dvd_left ..
  have h2 : (Int.gcd a b : Int) ∣ b := Int.gcd_dvd_right ..
  unfold red_w
  split
  · exact ⟨Int.neg_dvd.mpr h1, Int.neg_dvd.mpr h2⟩
  · exact ⟨h1, h2⟩
/-- the two parts, times what was taken out -/
theorem red_mul {a b : Int} : (red a b).1 * red_w a b = a ∧ (red a b).2 * red_w a b = b := by
  obtain ⟨h1, h2⟩ := red_w_dvd (a := a) (b := b)
  unfold red
  exact ⟨Int.fdiv_mul_cancel h1, Int.fdiv_mul_cancel h2⟩
theorem red_rd {a b : Int} (h : b ≠ 0) : Rd (red a b) := by
  obtain ⟨e1, e2⟩ := red_mul (a := a) (b := b)
  have w0 := red_w_ne (a := a) h
  have wa := red_w_abs (a := a) (b := b)
  generalize hp : (red a b).1 = p at e1
  generalize hq : (red a b).2 = q at e2
  generalize hw : red_w a b = w at *
  refine ⟨?_, ?_⟩
  · rw [hq]
    -- b and w have the same sign
    have hs : (b < 0 → w < 0) ∧ (0 < b → 0 < w) := by
      unfold red_w at hw
      have g : 0 < Int.gcd a b := Nat.pos_of_ne_zero fun z => h (Int.gcd_eq_zero_iff.mp z).2
      constructor
      · intro hb
        rw [if_pos hb] at hw
        omega
      · intro hb
        rw [if_neg (by omega)] at hw
        omega
    rcases Int.lt_or_gt_of_ne h with hb | hb
    · have hw0 := hs.1 hb
      rcases Int.lt_trichotomy q 0 with z | z | z
      · have := Int.mul_pos_of_neg_of_neg z hw0
        omega
      · rw [z] at e2
        omega
      · exact z
    · have hw0 := hs.2 hb
      rcases Int.lt_trichotomy q 0 with z | z | z
      · have := Int.mul_neg_of_neg_of_pos z hw0
        omega
      · rw [z] at e2
        omega
      · exact z
  · rw [hp, hq]
    have e : Int.gcd a b = Int.gcd p q * w.natAbs := by rw [← e1, ← e2, Int.gcd_mul_right]
    rw [wa] at e
    have g : 0 < Int.gcd a b := Nat.pos_of_ne_zero fun z => h (Int.gcd_eq_zero_iff.mp z).2
    have : 1 * Int.gcd a b = Int.gcd p q * Int.gcd a b := by rw [Nat.one_mul]; exact e
    exact (Nat.eq_of_mul_eq_mul_right g this).symm
/-- a reduced pair made larger by a factor is what it was -/
theorem red_scale {p : Int × Int} (h : Rd p) {s : Int} (hs : s ≠ 0) : red (p.1 * s) (p.2 * s) = p := by
  obtain ⟨h1, h2⟩ := h
  have eg : Int.gcd (p.1 * s) (p.2 * s) = s.natAbs := by rw [Int.gcd_mul_right, h2, Nat.one_mul]
  have ew : red_w (p.1 * s) (p.2 * s) = s := by
    unfold red_w
    rw [eg]
    rcases Int.lt_or_gt_of_ne hs with z | z
    · rw [if_pos (Int.mul_neg_of_pos_of_neg h1 z)]
      omega
    · rw [if_neg (by have := Int.mul_pos h1 z; omega)]
      omega
  unfold red
  rw [ew]
  exact Prod.ext (Int.mul_fdiv_cancel _ hs) (Int.mul_fdiv_cancel _ hs)
theorem red_self {p : Int × Int} (h : Rd p) : red p.1 p.2 = p := by
  have := red_scale h (s := 1) (by decide)
  rwa [Int.mul_one, Int.mul_one] at this
theorem rd_int (n : Int) : Rd (n, 1) := ⟨(by decide : (0 : Int) < 1), Int.gcd_one_right ..⟩
theorem red_neg {p : Int × Int} (h : Rd p) : red (-p.1) p.2 = (-p.1, p.2) := red_self (p := (-p.1, p.2)) ⟨h.1, by show Int.gcd (-p.1) p.2 = 1; rw [Int.neg_gcd]; exact h.2⟩
theorem rd_neg {p : Int × Int} (h : Rd p) : Rd (-p.1, p.2) := ⟨h.1, by show Int.gcd (-p.1) p.2 = 1; rw [Int.neg_gcd]; exact h.2⟩
/-- parts are no larger than what they come from -/
theorem red_sz {a b : Int} {m n : Nat} (h : b ≠ 0) (ha : a.natAbs < 2 ^ m) (hb : b.natAbs < 2 ^ n) : (red a b).1.natAbs < 2 ^ m ∧ (red a b).2.natAbs < 2 ^ n := by
  obtain ⟨e1, e2⟩ := red_mul (a := a) (b := b)
  have w1 : 1 ≤ (red_w a b).natAbs := Int.natAbs_pos.mpr (red_w_ne h)
  have f : ∀ x w : Int, 1 ≤ w.natAbs → x.natAbs ≤ (x * w).natAbs := fun x w hw => by
    rw [Int.natAbs_mul]
    exact Nat.le_mul_of_pos_right _ hw
  exact ⟨Nat.lt_of_le_of_lt (Nat.le_trans (f _ _ w1) (Nat.le_of_eq (congrArg Int.natAbs e1))) ha, Nat.lt_of_le_of_lt (Nat.le_trans (f _ _ w1) (Nat.le_of_eq (congrArg Int.natAbs e2))) hb⟩
theorem red_w_sz {a b : Int} {n : Nat} (h : b ≠ 0) (hb : b.natAbs < 2 ^ n) : (red_w a b).natAbs < 2 ^ n := by
  rw [red_w_abs]
  exact Nat.lt_of_le_of_lt (gcd_le h) hb
/-- a step of Euclid -/
theorem gcd_step (a b : Int) : Int.gcd b (a.fmod b) = Int.gcd a b := by
  have e : a = b * a.fdiv b + a.fmod b := (Int.mul_fdiv_add_fmod a b).symm
  rw [Int.gcd_comm a b]
  conv => rhs; rw [e]
  rw [Int.add_comm, Int.gcd_add_mul_left_right]
theorem fmod_lt {a b : Int} (h : b ≠ 0) : (a.fmod b).natAbs < b.natAbs := by
  rcases Int.lt_or_gt_of_ne h with z | z
  · have e := Int.neg_fmod_neg a b
    have h1 := Int.fmod_nonneg_of_pos (-a) (b := -b) (by omega)
    have h2 := Int.fmod_lt_of_pos (-a) (b := -b) (by omega)
    omega
  · have h1 := Int.fmod_nonneg_of_pos a z
    have h2 := Int.fmod_lt_of_pos a z
    omega
end Gy
namespace Gy
open PySem L2
/-- a while whose test only reads: W by a measure that is not 0 where the body runs -/
theorem while_any {c : TT} {tb : TS} {D : Ends} {σ : L2.St} {H : Hp} (W : Nat → L2.St → Hp → Prop) (h0 : ∃ m, W m σ H)
    (test : ∀ m σ H (Q : Bool → Hp → Prop), W m σ H → (m ≠ 0 → Q true H) → Q false H → c σ H Q)
    (turn : ∀ m σ H, m ≠ 0 → W m σ H → tb { D with nx := fun σ' H' => ∃ m', m' < m ∧ W m' σ' H', ct := fun σ' H' => ∃ m', m' < m ∧ W m' σ' H', bk := D.nx } σ H) (done : ∀ m σ H, W m σ H → D.nx σ H) : tWhile c tb D σ H :=
  ⟨W, h0, fun m σ H w => test m σ H _ w (fun hm => iteT ⟨fun σ' H' => ∃ m', m' < m ∧ W m' σ' H', fun _ _ z => z, turn m σ H hm w⟩) (iteF (done m σ H w))⟩
end Gy
namespace Gy
open PySem L2
theorem walk_zipT {K : PySem.W.Frag} {a b : Addr} {xs ys : List V} {n : Nat} (hn : n = min xs.length ys.length) : Walk (RZ.ItzT K a b) n (fun H => SqT K H a xs ∧ SqT K H b ys) (YPair (fun i => xs[i]?) (fun i => ys[i]?)) := by
  refine ⟨fun i H hi hq => ?_, fun H hq => ?_, fun i H x H' _ hq y => ?_⟩
  · have h1 : i < xs.length := by omega
    have h2 : i < ys.length := by omega
    exact ⟨xs, ys, xs[i], ys[i], hq.1, hq.2, List.getElem?_eq_getElem h1, List.getElem?_eq_getElem h2⟩
  · refine ⟨xs, ys, hq.1, hq.2, ?_⟩
    omega
  · obtain ⟨T, u, v, rfl, nT, e, h1, h2⟩ := y
    exact ⟨T, u, v, rfl, nT, e, h1 xs hq.1, h2 ys hq.2⟩
end Gy
namespace Gy
open PySem L2
/-- a comprehension without a test keeps each item -/
theorem yes_of {σ : L2.St} {H : Hp} {A B : Hp → Prop} (h : A H) : tYes σ H fun b H3 => if b = true then A H3 else B H3 := by
  show (if true = true then A H else B H)
  exact iteT h
end Gy
namespace L2
open PySem PySem.Spec PyProof.Rows
/-- a def with defaults that lets nothing out -/
theorem FunD.ok0 {P : Program} {w : World} {K : PySem.W.Frag} {mg : Str → Option Value} {base : Heap} {x qual : Str} {params : Arguments} {body : List Stmt} {scope : Scope} {dvs : List V} {kws : List (Str × V)} {f : Addr} {fd : FuncData} {N ps : List Str} {k : Nat} {sp : Sp}
    (F : FunD K x qual params body scope dvs kws f fd) (S : FnScope N ps scope) (len : ∀ vs H Q E, sp vs H Q E → vs.length = ps.length)
    (hbody : ∀ (cdv : Value) (A : Around) (outer : List Env) (s : Shared) (H : Hp) (vs : List V) (Q : VK) (E : XK), Room k (A.deeper (envOfC qual scope s.heap.objs.size f cdv)) → sp vs H Q E →
      ∃ t, PSs (cxOf CX0 P w K mg base N qual scope f cdv A outer s H E).nox body t ∧ t { nx := fun _ H' => Q .non H', rt := Q } (start N vs) H) : FnOk P w K mg base CX0 (k + 1) f fd ps sp :=
  F.ok S len fun cdv A outer s H vs Q E hr h => let ⟨t, a, b⟩ := hbody cdv A outer s H vs Q E hr h; ⟨t, a.nox, b⟩
end L2
namespace Gy
open PySem L2
/-! ### isinstance against an own class, of an own class -/
theorem kit_self {K : PySem.W.Frag} {C : Addr} : PySem.W.kitOne K (.ref C) (.ref C) = some true := by
  unfold PySem.W.kitOne
  rw [if_pos (beq_iff_eq.mpr rfl)]
theorem kit_to {K : PySem.W.Frag} {C : Addr} {t : String} {b : Bool} (ic : PySem.W.isClsIn K C = true) (ty : PySem.W.typeIn K (.ref C) = some (.type "type")) (up : PySem.W.subIn K (.type t) (.ref C) = some b) : PySem.W.kitOne K (.type t) (.ref C) = some b := by
  unfold PySem.W.kitOne
  rw [if_neg (fun q => by cases beq_iff_eq.mp q)]
  unfold PySem.W.kitCls
  have h : ((PySem.W.clsIn K C).isSome && PySem.W.typeIn K (.ref C) == some (.type "type")) = true := by
    rw [ty, show (PySem.W.clsIn K C).isSome = true from ic]
    rfl
  show (if ((PySem.W.clsIn K C).isSome && PySem.W.typeIn K (.ref C) == some (.type "type")) = true then PySem.W.subIn K (.type t) (.ref C) else none) = some b
  rw [if_pos h]
  exact up
theorem kit_of_to {K : PySem.W.Frag} {C D : Addr} {b : Bool} (ne : C ≠ D) (ic : PySem.W.isClsIn K D = true) (ty : PySem.W.typeIn K (.ref D) = some (.type "type")) (up : PySem.W.subIn K (.ref C) (.ref D) = some b) : PySem.W.kitOne K (.ref C) (.ref D) = some b := by
  unfold PySem.W.kitOne
  rw [if_neg (fun q => ne (Value.ref.inj (beq_iff_eq.mp q)))]
  have h : ((PySem.W.clsIn K D).isSome && PySem.W.typeIn K (.ref D) == some (.type "type")) = true := by
    rw [ty, show (PySem.W.clsIn K D).isSome = true from ic]
    rfl
  show (if ((PySem.W.clsIn K D).isSome && PySem.W.typeIn K (.ref D) == some (.type "type")) = true then PySem.W.subIn K (.ref C) (.ref D) else none) = some b
  rw [if_pos h]
  exact up
theorem kit_ob {K : PySem.W.Frag} {C : Addr} {t : String} {b : Bool} (m : PySem.W.kitMeta t = true) (dn : PySem.W.subIn K (.ref C) (.type t) = some b) : PySem.W.kitOne K (.ref C) (.type t) = some b := by
  unfold PySem.W.kitOne
  rw [if_neg (fun q => by cases beq_iff_eq.mp q)]
  show (if PySem.W.kitMeta t = true then PySem.W.subIn K (.ref C) (.type t) else none) = some b
  rw [if_pos m]
  exact dn
end Gy

/-! Numbers told. -/
namespace Gy
open PySem L2

def top (i : Nat) : Stmt := PySem.Challenge.pw_surelevels_k02_numbers_told.main.body.getD i (.Pass ⟨0, 0, 0, 0⟩)
abbrev s_is_whole : Stmt := (top 5)
theorem sc_is_whole : FnScope ["thing"] ["thing"] (defScope s_is_whole) :=
  ⟨rfl, rfl, rfl, by decide +kernel, rfl, by decide +kernel, by decide +kernel⟩
abbrev s_Exact_init : Stmt := (inClass (top 7) 0)
theorem sc_Exact_init : FnScope ["self", "over", "under", "part", "shared"] ["self", "over", "under"] (defScope s_Exact_init) :=
  ⟨rfl, rfl, rfl, by decide +kernel, rfl, by decide +kernel, by decide +kernel⟩
abbrev s_Exact_add : Stmt := (inClass (top 7) 1)
theorem sc_Exact_add : FnScope ["self", "other", "over", "under"] ["self", "other"] (defScope s_Exact_add) :=
  ⟨rfl, rfl, rfl, by decide +kernel, rfl, by decide +kernel, by decide +kernel⟩
abbrev s_Exact_radd : Stmt := (inClass (top 7) 2)
theorem sc_Exact_radd : FnScope ["self", "other"] ["self", "other"] (defScope s_Exact_radd) :=
  ⟨rfl, rfl, rfl, by decide +kernel, rfl, by decide +kernel, by decide +kernel⟩
abbrev s_Exact_sub : Stmt := (inClass (top 7) 3)
theorem sc_Exact_sub : FnScope ["self", "other", "over", "under"] ["self", "other"] (defScope s_Exact_sub) :=
  ⟨rfl, rfl, rfl, by decide +kernel, rfl, by decide +kernel, by decide +kernel⟩
abbrev s_Exact_rsub : Stmt := (inClass (top 7) 4)
theorem sc_Exact_rsub : FnScope ["self", "other", "over", "under"] ["self", "other"] (defScope s_Exact_rsub) :=
  ⟨rfl, rfl, rfl, by decide +kernel, rfl, by decide +kernel, by decide +kernel⟩
abbrev s_Exact_mul : Stmt := (inClass (top 7) 5)
theorem sc_Exact_mul : FnScope ["self", "other", "over", "under"] ["self", "other"] (defScope s_Exact_mul) :=
  ⟨rfl, rfl, rfl, by decide +kernel, rfl, by decide +kernel, by decide +kernel⟩
abbrev s_Exact_rmul : Stmt := (inClass (top 7) 6)
theorem sc_Exact_rmul : FnScope ["self", "other"] ["self", "other"] (defScope s_Exact_rmul) :=
  ⟨rfl, rfl, rfl, by decide +kernel, rfl, by decide +kernel, by decide +kernel⟩
abbrev s_Exact_neg : Stmt := (inClass (top 7) 7)
theorem sc_Exact_neg : FnScope ["self"] ["self"] (defScope s_Exact_neg) :=
  ⟨rfl, rfl, rfl, by decide +kernel, rfl, by decide +kernel, by decide +kernel⟩
abbrev s_Exact_by : Stmt := (inClass (top 7) 13)
theorem sc_Exact_by : FnScope ["self", "other", "over", "under"] ["self", "other"] (defScope s_Exact_by) :=
  ⟨rfl, rfl, rfl, by decide +kernel, rfl, by decide +kernel, by decide +kernel⟩
abbrev s_divisor : Stmt := (top 8)
theorem sc_divisor : FnScope ["one", "other"] ["one", "other"] (defScope s_divisor) :=
  ⟨rfl, rfl, rfl, by decide +kernel, rfl, by decide +kernel, by decide +kernel⟩
abbrev s_parts : Stmt := (top 10)
theorem sc_parts : FnScope ["number"] ["number"] (defScope s_parts) :=
  ⟨rfl, rfl, rfl, by decide +kernel, rfl, by decide +kernel, by decide +kernel⟩
abbrev s_plain : Stmt := (top 11)
theorem sc_plain : FnScope ["number", "over", "under"] ["number"] (defScope s_plain) :=
  ⟨rfl, rfl, rfl, by decide +kernel, rfl, by decide +kernel, by decide +kernel⟩
abbrev s_law_fresh : Stmt := (top 13)
theorem sc_law_fresh : FnScope ["_law_script"] ["_law_script"] (defScope s_law_fresh) :=
  ⟨rfl, rfl, rfl, by decide +kernel, rfl, by decide +kernel, by decide +kernel⟩
abbrev s_law_fill : Stmt := (top 14)
theorem sc_law_fill : FnScope ["_law_state", "_law_cells", "_law_nth", "_law_seed", "_law_k", "_law_prime", "_law_far"] ["_law_state"] (defScope s_law_fill) :=
  ⟨rfl, rfl, rfl, by decide +kernel, rfl, by decide +kernel, by decide +kernel⟩
abbrev s_law_take : Stmt := (top 15)
theorem sc_law_take : FnScope ["_law_state", "_law_many", "_law_laps", "_law_digit"] ["_law_state", "_law_many"] (defScope s_law_take) :=
  ⟨rfl, rfl, rfl, by decide +kernel, rfl, by decide +kernel, by decide +kernel⟩
abbrev s_law_one : Stmt := (top 16)
theorem sc_law_one : FnScope ["_law_state", "_law_things"] ["_law_state", "_law_things"] (defScope s_law_one) :=
  ⟨rfl, rfl, rfl, by decide +kernel, rfl, by decide +kernel, by decide +kernel⟩
abbrev s_law_same : Stmt := (top 17)
theorem sc_law_same : FnScope ["_law_found", "_law_due", "_law_a", "_law_b"] ["_law_found", "_law_due"] (defScope s_law_same) :=
  ⟨rfl, rfl, rfl, by decide +kernel, rfl, by decide +kernel, by decide +kernel⟩
abbrev s_law_gcd : Stmt := (top 18)
theorem sc_law_gcd : FnScope ["_law_a", "_law_b"] ["_law_a", "_law_b"] (defScope s_law_gcd) :=
  ⟨rfl, rfl, rfl, by decide +kernel, rfl, by decide +kernel, by decide +kernel⟩
abbrev s_law_frac : Stmt := (top 19)
theorem sc_law_frac : FnScope ["_law_over", "_law_under", "_law_whole"] ["_law_over", "_law_under"] (defScope s_law_frac) :=
  ⟨rfl, rfl, rfl, by decide +kernel, rfl, by decide +kernel, by decide +kernel⟩
abbrev s_law_add : Stmt := (top 20)
theorem sc_law_add : FnScope ["_law_a", "_law_b"] ["_law_a", "_law_b"] (defScope s_law_add) :=
  ⟨rfl, rfl, rfl, by decide +kernel, rfl, by decide +kernel, by decide +kernel⟩
abbrev s_law_mul : Stmt := (top 21)
theorem sc_law_mul : FnScope ["_law_a", "_law_b"] ["_law_a", "_law_b"] (defScope s_law_mul) :=
  ⟨rfl, rfl, rfl, by decide +kernel, rfl, by decide +kernel, by decide +kernel⟩
abbrev s_law_as_number : Stmt := (top 22)
theorem sc_law_as_number : FnScope ["_law_state", "_law_a", "_law_far"] ["_law_state", "_law_a"] (defScope s_law_as_number) :=
  ⟨rfl, rfl, rfl, by decide +kernel, rfl, by decide +kernel, by decide +kernel⟩
abbrev s_law_plain : Stmt := (top 23)
theorem sc_law_plain : FnScope ["_law_a"] ["_law_a"] (defScope s_law_plain) :=
  ⟨rfl, rfl, rfl, by decide +kernel, rfl, by decide +kernel, by decide +kernel⟩
abbrev s_law_is_told : Stmt := (top 24)
theorem sc_law_is_told : FnScope ["_law_x", "_law_due", "_law_a", "_law_b"] ["_law_x", "_law_due"] (defScope s_law_is_told) :=
  ⟨rfl, rfl, rfl, by decide +kernel, rfl, by decide +kernel, by decide +kernel⟩
abbrev s_law_some_frac : Stmt := (top 25)
theorem sc_law_some_frac : FnScope ["_law_state", "_law_top"] ["_law_state"] (defScope s_law_some_frac) :=
  ⟨rfl, rfl, rfl, by decide +kernel, rfl, by decide +kernel, by decide +kernel⟩
abbrev s_law_as_exact : Stmt := (top 26)
theorem sc_law_as_exact : FnScope ["_law_x"] ["_law_x"] (defScope s_law_as_exact) :=
  ⟨rfl, rfl, rfl, by decide +kernel, rfl, by decide +kernel, by decide +kernel⟩
abbrev s_law : Stmt := (top 27)
theorem sc_law : FnScope ["_law_script", "_law_state", "_law_turn", "_law_a", "_law_b", "_law_sign", "_law_x", "_law_y", "_law_found", "_law_minus", "_law_due", "_law_told", "_law_one_here"] ["_law_script"] (defScope s_law) :=
  ⟨rfl, rfl, rfl, by decide +kernel, rfl, by decide +kernel, by decide +kernel⟩
structure Tx (K : PySem.W.Frag) (mg : Str → Option Value) where
  Exact_a : Addr
  Exact_m : mg "Exact" = some (.ref Exact_a)
  Exact_cl : Cls K Exact_a
  Exact_n_over : NoAttr K Exact_a "over"
  Exact_n_under : NoAttr K Exact_a "under"
  Exact_i1 : PySem.W.findIn K (.ref Exact_a) "__class__" = some (some (.builtin "object.__class__"))
  Exact_i2 : PySem.W.specialIn K (.builtin "object.__class__") "__get__" = some (some (.builtin "getset_descriptor.__get__"))
  Exact_i3 : PySem.W.takesIn K (.builtin "object.__class__") = some true
  Exact_i4 : PySem.W.mroIn K Exact_a (.type "object") = some true
  Exact_k0 : PySem.W.kitOne K (.ref Exact_a) (.ref Exact_a) = some true
  Exact_kt_int : PySem.W.kitOne K (.type "int") (.ref Exact_a) = some false
  Exact_ko_int : PySem.W.kitOne K (.ref Exact_a) (.type "int") = some false
  Exact_kt_bool : PySem.W.kitOne K (.type "bool") (.ref Exact_a) = some false
  Exact_ko_bool : PySem.W.kitOne K (.ref Exact_a) (.type "bool") = some false
  Exact_kt_str : PySem.W.kitOne K (.type "str") (.ref Exact_a) = some false
  Exact_kt_list : PySem.W.kitOne K (.type "list") (.ref Exact_a) = some false
  Exact_ko_list : PySem.W.kitOne K (.ref Exact_a) (.type "list") = some false
  Exact_kt_tuple : PySem.W.kitOne K (.type "tuple") (.ref Exact_a) = some false
  Exact_ko_tuple : PySem.W.kitOne K (.ref Exact_a) (.type "tuple") = some false
  Exact_kt_NoneType : PySem.W.kitOne K (.type "NoneType") (.ref Exact_a) = some false
  is_whole_a : Addr
  is_whole_d : FuncData
  is_whole_F : Fun K "is_whole" "is_whole" s_is_whole is_whole_a is_whole_d
  is_whole_b : Binds K is_whole_d ["thing"] []
  is_whole_m : mg "is_whole" = some (.ref is_whole_a)
  Exact_init_a : Addr
  Exact_init_d : FuncData
  Exact_init_F : FunD K "__init__" "Exact.__init__" (defArgs s_Exact_init) (defBody s_Exact_init) (defScope s_Exact_init) [V.int 1] [] Exact_init_a Exact_init_d
  Exact_init_b : Binds K Exact_init_d ["self", "over", "under"] []
  Exact_init_ds2 : List Value
  Exact_init_v2 : Vals [V.int 1] Exact_init_ds2
  Exact_init_bd2 : Binds K Exact_init_d ["self", "over", "under"] Exact_init_ds2
  Exact_init_M : Meth K Exact_a "__init__" Exact_init_a
  Exact_mk : Mk K Exact_a Exact_init_a
  Exact_add_a : Addr
  Exact_add_d : FuncData
  Exact_add_F : Fun K "__add__" "Exact.__add__" s_Exact_add Exact_add_a Exact_add_d
  Exact_add_b : Binds K Exact_add_d ["self", "other"] []
  Exact_add_M : Meth K Exact_a "__add__" Exact_add_a
  Exact_radd_a : Addr
  Exact_radd_d : FuncData
  Exact_radd_F : Fun K "__radd__" "Exact.__radd__" s_Exact_radd Exact_radd_a Exact_radd_d
  Exact_radd_b : Binds K Exact_radd_d ["self", "other"] []
  Exact_radd_M : Meth K Exact_a "__radd__" Exact_radd_a
  Exact_sub_a : Addr
  Exact_sub_d : FuncData
  Exact_sub_F : Fun K "__sub__" "Exact.__sub__" s_Exact_sub Exact_sub_a Exact_sub_d
  Exact_sub_b : Binds K Exact_sub_d ["self", "other"] []
  Exact_sub_M : Meth K Exact_a "__sub__" Exact_sub_a
  Exact_rsub_a : Addr
  Exact_rsub_d : FuncData
  Exact_rsub_F : Fun K "__rsub__" "Exact.__rsub__" s_Exact_rsub Exact_rsub_a Exact_rsub_d
  Exact_rsub_b : Binds K Exact_rsub_d ["self", "other"] []
  Exact_rsub_M : Meth K Exact_a "__rsub__" Exact_rsub_a
  Exact_mul_a : Addr
  Exact_mul_d : FuncData
  Exact_mul_F : Fun K "__mul__" "Exact.__mul__" s_Exact_mul Exact_mul_a Exact_mul_d
  Exact_mul_b : Binds K Exact_mul_d ["self", "other"] []
  Exact_mul_M : Meth K Exact_a "__mul__" Exact_mul_a
  Exact_rmul_a : Addr
  Exact_rmul_d : FuncData
  Exact_rmul_F : Fun K "__rmul__" "Exact.__rmul__" s_Exact_rmul Exact_rmul_a Exact_rmul_d
  Exact_rmul_b : Binds K Exact_rmul_d ["self", "other"] []
  Exact_rmul_M : Meth K Exact_a "__rmul__" Exact_rmul_a
  Exact_neg_a : Addr
  Exact_neg_d : FuncData
  Exact_neg_F : Fun K "__neg__" "Exact.__neg__" s_Exact_neg Exact_neg_a Exact_neg_d
  Exact_neg_b : Binds K Exact_neg_d ["self"] []
  Exact_neg_M : Meth K Exact_a "__neg__" Exact_neg_a
  Exact_by_a : Addr
  Exact_by_d : FuncData
  Exact_by_F : Fun K "by" "Exact.by" s_Exact_by Exact_by_a Exact_by_d
  Exact_by_b : Binds K Exact_by_d ["self", "other"] []
  Exact_by_M : Meth K Exact_a "by" Exact_by_a
  divisor_a : Addr
  divisor_d : FuncData
  divisor_F : Fun K "divisor" "divisor" s_divisor divisor_a divisor_d
  divisor_b : Binds K divisor_d ["one", "other"] []
  divisor_m : mg "divisor" = some (.ref divisor_a)
  parts_a : Addr
  parts_d : FuncData
  parts_F : Fun K "parts" "parts" s_parts parts_a parts_d
  parts_b : Binds K parts_d ["number"] []
  parts_m : mg "parts" = some (.ref parts_a)
  plain_a : Addr
  plain_d : FuncData
  plain_F : Fun K "plain" "plain" s_plain plain_a plain_d
  plain_b : Binds K plain_d ["number"] []
  plain_m : mg "plain" = some (.ref plain_a)
  law_fresh_a : Addr
  law_fresh_d : FuncData
  law_fresh_F : Fun K "_law_fresh" "_law_fresh" s_law_fresh law_fresh_a law_fresh_d
  law_fresh_b : Binds K law_fresh_d ["_law_script"] []
  law_fresh_m : mg "_law_fresh" = some (.ref law_fresh_a)
  law_fill_a : Addr
  law_fill_d : FuncData
  law_fill_F : Fun K "_law_fill" "_law_fill" s_law_fill law_fill_a law_fill_d
  law_fill_b : Binds K law_fill_d ["_law_state"] []
  law_fill_m : mg "_law_fill" = some (.ref law_fill_a)
  law_take_a : Addr
  law_take_d : FuncData
  law_take_F : Fun K "_law_take" "_law_take" s_law_take law_take_a law_take_d
  law_take_b : Binds K law_take_d ["_law_state", "_law_many"] []
  law_take_m : mg "_law_take" = some (.ref law_take_a)
  law_one_a : Addr
  law_one_d : FuncData
  law_one_F : Fun K "_law_one" "_law_one" s_law_one law_one_a law_one_d
  law_one_b : Binds K law_one_d ["_law_state", "_law_things"] []
  law_one_m : mg "_law_one" = some (.ref law_one_a)
  law_same_a : Addr
  law_same_d : FuncData
  law_same_F : Fun K "_law_same" "_law_same" s_law_same law_same_a law_same_d
  law_same_b : Binds K law_same_d ["_law_found", "_law_due"] []
  law_same_m : mg "_law_same" = some (.ref law_same_a)
  law_gcd_a : Addr
  law_gcd_d : FuncData
  law_gcd_F : Fun K "_law_gcd" "_law_gcd" s_law_gcd law_gcd_a law_gcd_d
  law_gcd_b : Binds K law_gcd_d ["_law_a", "_law_b"] []
  law_gcd_m : mg "_law_gcd" = some (.ref law_gcd_a)
  law_frac_a : Addr
  law_frac_d : FuncData
  law_frac_F : Fun K "_law_frac" "_law_frac" s_law_frac law_frac_a law_frac_d
  law_frac_b : Binds K law_frac_d ["_law_over", "_law_under"] []
  law_frac_m : mg "_law_frac" = some (.ref law_frac_a)
  law_add_a : Addr
  law_add_d : FuncData
  law_add_F : Fun K "_law_add" "_law_add" s_law_add law_add_a law_add_d
  law_add_b : Binds K law_add_d ["_law_a", "_law_b"] []
  law_add_m : mg "_law_add" = some (.ref law_add_a)
  law_mul_a : Addr
  law_mul_d : FuncData
  law_mul_F : Fun K "_law_mul" "_law_mul" s_law_mul law_mul_a law_mul_d
  law_mul_b : Binds K law_mul_d ["_law_a", "_law_b"] []
  law_mul_m : mg "_law_mul" = some (.ref law_mul_a)
  law_as_number_a : Addr
  law_as_number_d : FuncData
  law_as_number_F : Fun K "_law_as_number" "_law_as_number" s_law_as_number law_as_number_a law_as_number_d
  law_as_number_b : Binds K law_as_number_d ["_law_state", "_law_a"] []
  law_as_number_m : mg "_law_as_number" = some (.ref law_as_number_a)
  law_plain_a : Addr
  law_plain_d : FuncData
  law_plain_F : Fun K "_law_plain" "_law_plain" s_law_plain law_plain_a law_plain_d
  law_plain_b : Binds K law_plain_d ["_law_a"] []
  law_plain_m : mg "_law_plain" = some (.ref law_plain_a)
  law_is_told_a : Addr
  law_is_told_d : FuncData
  law_is_told_F : Fun K "_law_is_told" "_law_is_told" s_law_is_told law_is_told_a law_is_told_d
  law_is_told_b : Binds K law_is_told_d ["_law_x", "_law_due"] []
  law_is_told_m : mg "_law_is_told" = some (.ref law_is_told_a)
  law_some_frac_a : Addr
  law_some_frac_d : FuncData
  law_some_frac_F : Fun K "_law_some_frac" "_law_some_frac" s_law_some_frac law_some_frac_a law_some_frac_d
  law_some_frac_b : Binds K law_some_frac_d ["_law_state"] []
  law_some_frac_m : mg "_law_some_frac" = some (.ref law_some_frac_a)
  law_as_exact_a : Addr
  law_as_exact_d : FuncData
  law_as_exact_F : Fun K "_law_as_exact" "_law_as_exact" s_law_as_exact law_as_exact_a law_as_exact_d
  law_as_exact_b : Binds K law_as_exact_d ["_law_x"] []
  law_as_exact_m : mg "_law_as_exact" = some (.ref law_as_exact_a)
  law_a : Addr
  law_d : FuncData
  law_F : Fun K "law" "law" s_law law_a law_d
  law_b : Binds K law_d ["_law_script"] []
  law_m : mg "law" = some (.ref law_a)
  z_abs : mg "abs" = none
  z_all : mg "all" = none
  z_bool : mg "bool" = none
  z_enumerate : mg "enumerate" = none
  z_int : mg "int" = none
  z_isinstance : mg "isinstance" = none
  z_len : mg "len" = none
  z_list : mg "list" = none
  z_range : mg "range" = none
  z_tuple : mg "tuple" = none
  z_zip : mg "zip" = none
  op_add : GyOp K Exact_a .Add Exact_add_a Exact_radd_a
  op_sub : GyOp K Exact_a .Sub Exact_sub_a Exact_rsub_a
  op_mul : GyOp K Exact_a .Mult Exact_mul_a Exact_rmul_a


section
variable {P : Program} {w : World} {K : PySem.W.Frag} {mg : Str → Option Value} {base : Heap}
/-! ### numbers: is_whole, parts, divisor, Exact -/
/-- an Exact's attributes -/
def exF (p q : V) : List (Str × V) := [(("over" : Str), p), (("under" : Str), q)]
/-- an Exact stands at v -/
def ExAt (C : Addr) (H : Hp) (v : V) (p : Int × Int) : Prop := ∃ a dx, v = .ref a ∧ H a = some (.ins C dx (exF (.int p.1) (.int p.2)))
/-- a number as it is passed -/
def NumAt (C : Addr) (H : Hp) (v : V) (p : Int × Int) : Prop := (v = .int p.1 ∧ p.2 = 1) ∨ ExAt C H v p
theorem ExAt.same {C : Addr} {H H' : Hp} {v : V} {p : Int × Int} (h : ExAt C H v p) (e : Same H H') : ExAt C H' v p := let ⟨a, dx, r, z⟩ := h; ⟨a, dx, r, e _ _ z⟩
theorem NumAt.same {C : Addr} {H H' : Hp} {v : V} {p : Int × Int} (h : NumAt C H v p) (e : Same H H') : NumAt C H' v p := h.elim .inl fun z => .inr (z.same e)
theorem fl_ne : ¬ (("over" : Str) = "under") := by decide +kernel
theorem fl_eq (p q : V) : putF "under" q (putF "over" p []) = exF p q := by
  show (if ("over" : Str) = "under" then [(("over" : Str), q)] else (("over" : Str), p) :: putF "under" q []) = ([(("over" : Str), p), (("under" : Str), q)] : List (Str × V))
  rw [if_neg fl_ne]
  all_goals rfl
theorem fl_over {x y : V} : (exF x y).lookup ("over" : Str) = some x := by
  rw [← fl_eq, lookup_putF, if_neg fl_ne, lookup_putF, if_pos rfl]
theorem fl_under {x y : V} : (exF x y).lookup ("under" : Str) = some y := by
  rw [← fl_eq, lookup_putF, if_pos rfl]
theorem fl_no {x y : V} {m : Str} (h1 : ¬ m = "over") (h2 : ¬ m = "under") : (exF x y).lookup m = none := by
  rw [← fl_eq, lookup_putF, if_neg h2, lookup_putF, if_neg h1]
  all_goals rfl
/-- an int, handed in -/
def spWhole (C : Addr) : Sp := fun vs H Q _ => ∃ v, vs = [v] ∧ ((∃ i, v = .int i) ∧ Q (.bl true) H ∨ (∃ p, ExAt C H v p) ∧ Q (.bl false) H)
theorem ok_is_whole (T : Tx K mg) : FnOk P w K mg base CX0 1 T.is_whole_a T.is_whole_d ["thing"] (spWhole T.Exact_a) := by
  refine T.is_whole_F.ok sc_is_whole (fun vs H Q E h => ?_) (fun cdv A outer s H vs Q E hr h => ?_)
  · obtain ⟨v, rfl, _⟩ := h
    rfl
  · obtain ⟨v, rfl, h⟩ := h
    refine ⟨_, (pss_one (ps_ret (pe_and (pe_callB call_isi (by rfl) T.z_isinstance (by decide +kernel) (pa_cons (pv 0) (pa_cons (pe_bltn (v := .ty "int") (by rfl) T.z_int (by decide +kernel) rfl) pa_nil))) (pe_one (pe_not (pe_callB call_isi (by rfl) T.z_isinstance (by decide +kernel) (pa_cons (pv 0) (pa_cons (pe_bltn (v := .ty "bool") (by rfl) T.z_bool (by decide +kernel) rfl) pa_nil)))))))), ?_⟩
    rcases h with ⟨⟨i, rfl⟩, k⟩ | ⟨⟨p, a, dx, rfl, ha⟩, k⟩
    · refine ⟨_, rfl, _, _, _, _, true, rfl, .ty "int", .base (.int i), kit_ty (by decide +kernel), true, rfl, ?_⟩
      refine iteT ?_
      refine ⟨_, rfl, _, _, _, _, false, rfl, .ty "bool", .base (.int i), kit_ty (by decide +kernel), false, rfl, k⟩
    · refine ⟨_, rfl, _, _, _, _, false, rfl, .ty "int", .base (.ins ha T.Exact_cl T.Exact_i1 T.Exact_i2 T.Exact_i3 T.Exact_i4), T.Exact_ko_int, false, rfl, ?_⟩
      exact iteF k
/-- the greatest common part of two ints that are not below 0 -/
def spDivisor : Sp := fun vs H Q _ => ∃ a b : Int, vs = [.int a, .int b] ∧ 0 ≤ a ∧ 0 ≤ b ∧ Q (.int (Int.gcd a b)) H
theorem ok_divisor (T : Tx K mg) : FnOk P w K mg base CX0 1 T.divisor_a T.divisor_d ["one", "other"] spDivisor := by
  refine T.divisor_F.ok sc_divisor (fun vs H Q E h => ?_) (fun cdv A outer s H vs Q E hr h => ?_)
  · obtain ⟨a, b, rfl, _⟩ := h
    rfl
  · obtain ⟨a, b, rfl, ha, hb, k⟩ := h
    refine ⟨_, (pss_cons (ps_while PassesOwn.never (pt_cmpR op_ne (pv 1) pe_int (nomark _))
  (pss_one (ps_par (i := 0) (j := 1) (by rfl) sc_divisor.nd rfl rfl (by decide) rfl rfl (pa_cons (pv 1) (pa_cons (pe_op (op_modN) (pv 0) (pv 1)) pa_nil)) (by rfl))))
  (pss_one (ps_ret (pv 0)))), ?_⟩
    refine ⟨fun m σ H' => ∃ x y : Int, σ = [some (.int x), some (.int y)] ∧ 0 ≤ x ∧ 0 ≤ y ∧ Int.gcd x y = Int.gcd a b ∧ m = y.toNat ∧ H' = H, ⟨_, a, b, rfl, ha, hb, rfl, rfl, rfl⟩, ?_⟩
    rintro m σ H' ⟨x, y, rfl, hx, hy, hg, rfl, rfl⟩
    refine ⟨_, rfl, rfl, _, rfl, ?_⟩
    by_cases h0 : y = 0
    · subst h0
      refine iteF ?_
      refine ⟨_, rfl, ?_⟩
      have e : x = (Int.gcd a b : Int) := by rw [← hg, Int.gcd_zero_right]; omega
      rw [e]
      exact k
    · rw [show (!decide (V.int y = V.int 0)) = true by simp [h0]]
      refine iteT ?_
      refine ⟨_, fun σ' H' z => z, ?_⟩
      refine ⟨_, rfl, _, rfl, _, rfl, _, _, rfl, rfl, h0, _, _, rfl, ?_⟩
      have h1 := Int.fmod_nonneg_of_pos x (b := y) (by omega)
      have h2 := Int.fmod_lt_of_pos x (b := y) (by omega)
      exact ⟨_, by omega, y, x.fmod y, rfl, hy, h1, (gcd_step x y).trans hg, rfl, rfl⟩
/-- Exact(a, b), b not 0 -/
def spExInit (C : Addr) : Sp := fun vs H Q _ => ∃ (x dx : Addr) (a b : Int), vs = [.ref x, .int a, .int b] ∧ b ≠ 0 ∧ b.natAbs < 2 ^ 8000 ∧ H x = some (.ins C dx []) ∧
  ∀ H', H' x = some (.ins C dx (exF (.int (red a b).1) (.int (red a b).2))) → (∀ c o, H c = some o → c ≠ x → H' c = some o) → Q .non H'
theorem ok_Exact_init (T : Tx K mg) : FnOk P w K mg base CX0 3 T.Exact_init_a T.Exact_init_d ["self", "over", "under"] (spExInit T.Exact_a) := by
  refine T.Exact_init_F.ok0 sc_Exact_init (fun vs H Q E h => ?_) (fun cdv A outer s H vs Q E hr h => ?_)
  · obtain ⟨x, dx, a, b, rfl, _⟩ := h
    rfl
  · obtain ⟨x, dx, a, b, rfl, hb, hz, hx, k⟩ := h
    refine ⟨_, (pss_cons (ps_for PassesOwn.never rfl (pi_tup (pe_tup (pa_cons (pv 1) (pa_cons (pv 2) pa_nil)))) (pg_name (i := 3) sc_Exact_init.nd rfl (Or.inl rfl))
  (pss_one (ps_if (pt_not (pt_val (pe_call (ok_is_whole T) (hr.mono (by decide)) rfl T.is_whole_m T.is_whole_F.kp T.is_whole_b .nil pass0 (pa_cons (pv 3) pa_nil))))
  (pss_one ps_never)
  pss_nil)))
  (pss_cons (ps_if (pt_cmpR op_eq (pv 2) pe_int (nomark _))
  (pss_one ps_never)
  pss_nil)
  (pss_cons (ps_set (i := 4) sc_Exact_init.nd rfl (Or.inl rfl) (pe_call (ok_divisor T) (hr.mono (by decide)) rfl T.divisor_m T.divisor_F.kp T.divisor_b .nil pass0 (pa_cons (pe_callB (call_abs) (by rfl) T.z_abs (by decide +kernel) (pa_cons (pv 1) pa_nil)) (pa_cons (pe_callB (call_abs) (by rfl) T.z_abs (by decide +kernel) (pa_cons (pv 2) pa_nil)) pa_nil))))
  (pss_cons (ps_if (pt_cmpR op_lt (pv 2) pe_int (nomark _))
  (pss_one (ps_set (i := 4) sc_Exact_init.nd rfl (Or.inl rfl) (pe_un (un_neg) (pv 4))))
  pss_nil)
  (pss_cons (ps_fld (pv 0) (pe_op (op_fdivG) (pv 1) (pv 4)) rfl)
  (pss_one (ps_fld (pv 0) (pe_op (op_fdivG) (pv 2) (pv 4)) rfl))))))), ?_⟩
    refine ⟨_, rfl, _, rfl, (by show 2 ≤ sizeLine; decide), fun t nt => ?_⟩
    have s1 : Same H (upd H t (.tup [.int a, .int b])) := same_upd nt
    have ht : (upd H t (.tup [.int a, .int b])) t = some (.tup [.int a, .int b]) := upd_same
    generalize upd H t (.tup [.int a, .int b]) = H1 at s1 ht ⊢
    refine ⟨t, rfl, ⟨_, .inl (.inl ht)⟩, for_tup (K := K) (a := t) (xs := [.int a, .int b]) (fun i σ H2 => (∃ v, σ = [some (.ref x), some (.int a), some (.int b), v, none]) ∧ H2 = H1) ⟨⟨none, rfl⟩, rfl⟩ (fun i σ H2 _ e => by rw [e.2]; exact .inl (.inl ht)) ?_ ?_⟩
    · rintro i y σ H2 hi ⟨⟨v, rfl⟩, rfl⟩
      have hy : ∃ n, y = V.int n := by
        match i, hi with
        | 0, hi => exact ⟨a, (Option.some.inj hi).symm⟩
        | 1, hi => exact ⟨b, (Option.some.inj hi).symm⟩
      obtain ⟨n, rfl⟩ := hy
      refine ⟨_, rfl, _, rfl, .inl ⟨⟨n, rfl⟩, true, rfl, ?_⟩⟩
      exact iteF ⟨⟨_, rfl⟩, rfl⟩
    · rintro σ H2 ⟨⟨v, rfl⟩, rfl⟩
      refine ⟨_, rfl, rfl, _, rfl, ?_⟩
      rw [show decide (V.int b = V.int 0) = false by simp [hb]]
      refine iteF ?_
      refine ⟨_, rfl, _, rfl, _, rfl, _, rfl, a.natAbs, b.natAbs, ?_, by omega, by omega, ?_⟩
      · show ([V.int _, V.int _] : List V) = [V.int _, V.int _]
        have f : ∀ z : Int, (if z < 0 then -z else z) = (z.natAbs : Int) := fun z => by split <;> omega
        rw [f, f]
      rw [show Int.gcd (a.natAbs : Int) (b.natAbs : Int) = Int.gcd a b from rfl]
      have hx2 := s1 _ _ hx
      -- the sign, then the two fields: both ways end alike
      have fin : ∀ w : Int, w = red_w a b → tSeq (sFld K (tVar 0) (tOp (rI GDiv fun i j => .int (i.fdiv j)) (tVar 1) (tVar 4)) "over") (sFld K (tVar 0) (tOp (rI GDiv fun i j => .int (i.fdiv j)) (tVar 2) (tVar 4)) "under")
          { nx := fun _ H' => Q .non H', rt := Q } [some (.ref x), some (.int a), some (.int b), v, some (.int w)] H2 := by
        rintro w rfl
        have gd : ∀ i, GDiv i (red_w a b) := fun i => gDiv_lt (red_w_ne hb) (red_w_sz hb hz) (by decide) (by decide)
        refine ⟨_, rfl, _, rfl, _, _, rfl, rfl, gd _, _, rfl, x, T.Exact_a, dx, _, rfl, hx2, T.Exact_cl, T.Exact_n_over, (by show 0 < 1000; decide), ?_⟩
        refine ⟨_, rfl, _, rfl, _, _, rfl, rfl, gd _, _, rfl, x, T.Exact_a, dx, _, rfl, upd_same, T.Exact_cl, T.Exact_n_under, (by show 1 < 1000; decide), ?_⟩
        refine k _ ?_ fun c o e hc => ?_
        · rw [upd_same]
          exact congrArg (fun l => some (HO.ins T.Exact_a dx l)) (fl_eq _ _)
        · rw [upd_ne hc, upd_ne hc]
          exact s1 _ _ e
      refine ⟨_, rfl, _, _, rfl, rfl, _, rfl, ?_⟩
      refine ite2 (fun hneg => ?_) (fun hneg => ?_)
      · have hneg : b < 0 := of_decide_eq_true hneg
        exact ⟨_, rfl, _, rfl, fin _ (by unfold red_w; rw [if_pos hneg])⟩
      · have hneg : ¬ b < 0 := fun z => hneg (decide_eq_true z)
        exact fin _ (by unfold red_w; rw [if_neg hneg])
/-- Exact(A, B) as a value -/
theorem mk_ex {C : Addr} {H1 : Hp} {Q : VK} {E : XK} {A B : Int} (hB : B ≠ 0) (hz : B.natAbs < 2 ^ 8000) (k : ∀ v H2, Same H1 H2 → ExAt C H2 v (red A B) → Q v H2) :
    ∀ x dx, H1 x = none → H1 dx = none → dx ≠ x → spExInit C (.ref x :: ([.int A, .int B] ++ [])) (upd (upd H1 dx (.own x)) x (.ins C dx [])) (fun v H2 => v = .non ∧ Q (.ref x) H2) E := fun x dx nx nd ne =>
  ⟨x, dx, A, B, rfl, hB, hz, upd_same, fun H2 hx kp => ⟨rfl, k _ H2 (Same.made nx nd kp) ⟨x, dx, rfl, hx⟩⟩⟩
/-- the same, where what follows is no letter -/
theorem mk_ex1 {C : Addr} {H1 : Hp} {Q : Hp → Prop} {E : XK} {A B : Int} {x dx : Addr} (nx : H1 x = none) (nd : H1 dx = none) (hB : B ≠ 0) (hz : B.natAbs < 2 ^ 8000) (k : ∀ H2, Same H1 H2 → ExAt C H2 (.ref x) (red A B) → Q H2) :
    spExInit C (.ref x :: ([.int A, .int B] ++ [])) (upd (upd H1 dx (.own x)) x (.ins C dx [])) (fun v H2 => v = .non ∧ Q H2) E :=
  ⟨x, dx, A, B, rfl, hB, hz, upd_same, fun H2 hx kp => ⟨rfl, k H2 (Same.made nx nd kp) ⟨x, dx, rfl, hx⟩⟩⟩
/-- a number that may be reckoned with -/
def Nm (p : Int × Int) : Prop := 0 < p.2 ∧ p.1.natAbs < 2 ^ 1000 ∧ p.2.natAbs < 2 ^ 1000
theorem ok1000 {a b : Int} (ha : a.natAbs < 2 ^ 1000) (hb : b.natAbs < 2 ^ 1000) : IntMulOk a b := mulOk ha hb (by decide) (by decide) (by decide)
theorem un_ok {a b : Int × Int} (ha : Nm a) (hb : Nm b) : a.2 * b.2 ≠ 0 ∧ (a.2 * b.2).natAbs < 2 ^ 8000 :=
  ⟨Int.ne_of_gt (Int.mul_pos ha.1 hb.1), sz_up (sz_mul ha.2.2 hb.2.2) (by decide)⟩
theorem NumAt.cases {C : Addr} {H : Hp} {v : V} {p : Int × Int} (h : NumAt C H v p) : (v = .int p.1 ∧ p.2 = 1) ∨ ∃ a dx, v = .ref a ∧ H a = some (.ins C dx (exF (.int p.1) (.int p.2))) := h
def spParts (C : Addr) : Sp := fun vs H Q _ => ∃ v p, vs = [v] ∧ NumAt C H v p ∧ ∀ t H', Same H H' → H' t = some (.tup [.int p.1, .int p.2]) → Q (.ref t) H'
theorem ok_parts (T : Tx K mg) : FnOk P w K mg base CX0 3 T.parts_a T.parts_d ["number"] (spParts T.Exact_a) := by
  refine T.parts_F.ok sc_parts (fun vs H Q E h => ?_) (fun cdv A outer s H vs Q E hr h => ?_)
  · obtain ⟨v, p, rfl, _⟩ := h
    rfl
  · obtain ⟨v, p, rfl, hv, k⟩ := h
    refine ⟨_, (pss_cons (ps_if (pt_val (pe_callB call_isi (by rfl) T.z_isinstance (by decide +kernel) (pa_cons (pv 0) (pa_cons (pe_glob (v := .ref T.Exact_a) rfl T.Exact_m rfl) pa_nil))))
  (pss_one (ps_ret (pe_tup (pa_cons (pe_fld (pv 0) rfl) (pa_cons (pe_fld (pv 0) rfl) pa_nil)))))
  pss_nil)
  (pss_cons (ps_if (pt_val (pe_call (ok_is_whole T) (hr.mono (by decide)) rfl T.is_whole_m T.is_whole_F.kp T.is_whole_b .nil pass0 (pa_cons (pv 0) pa_nil)))
  (pss_one (ps_ret (pe_tup (pa_cons (pv 0) (pa_cons pe_int pa_nil)))))
  pss_nil)
  (pss_one ps_never))), ?_⟩
    rcases hv.cases with ⟨rfl, h1⟩ | ⟨x, dx, rfl, hx⟩
    · refine ⟨_, rfl, _, _, _, _, false, rfl, .own _, .base (.int _), T.Exact_kt_int, false, rfl, ?_⟩
      refine iteF ?_
      refine ⟨_, rfl, _, rfl, .inl ⟨⟨_, rfl⟩, true, rfl, ?_⟩⟩
      refine iteT ?_
      refine ⟨_, rfl, (by show 2 ≤ sizeLine; decide), fun t nt => ?_⟩
      rw [← h1]
      exact k t _ (same_upd nt) upd_same
    · refine ⟨_, rfl, _, _, _, _, true, rfl, .own _, .base (.ins hx T.Exact_cl T.Exact_i1 T.Exact_i2 T.Exact_i3 T.Exact_i4), T.Exact_k0, true, rfl, ?_⟩
      refine iteT ?_
      refine ⟨_, rfl, x, _, dx, _, _, rfl, hx, T.Exact_cl, T.Exact_n_over, fl_over, _, rfl, x, _, dx, _, _, rfl, hx, T.Exact_cl, T.Exact_n_under, fl_under, (by show 2 ≤ sizeLine; decide), fun t nt => ?_⟩
      exact k t _ (same_upd nt) upd_same
/-- self and another number: an Exact of f -/
def spBin (C : Addr) (f : Int × Int → Int × Int → Int × Int) : Sp := fun vs H Q _ => ∃ v u a b, vs = [v, u] ∧ ExAt C H v a ∧ NumAt C H u b ∧ Nm a ∧ Nm b ∧ ∀ v' H', Same H H' → ExAt C H' v' (red (f a b).1 (f a b).2) → Q v' H'
theorem spBin_len {C : Addr} {f : Int × Int → Int × Int → Int × Int} {vs : List V} {H : Hp} {Q : VK} {E : XK} (h : spBin C f vs H Q E) : vs.length = 2 := by
  obtain ⟨v, u, a, b, rfl, _⟩ := h
  rfl
def fAdd (a b : Int × Int) : Int × Int := (a.1 * b.2 + b.1 * a.2, a.2 * b.2)
def fSub (a b : Int × Int) : Int × Int := (a.1 * b.2 - b.1 * a.2, a.2 * b.2)
def fRsub (a b : Int × Int) : Int × Int := (b.1 * a.2 - a.1 * b.2, a.2 * b.2)
def fMul (a b : Int × Int) : Int × Int := (a.1 * b.1, a.2 * b.2)
def fBy (a b : Int × Int) : Int × Int := (a.1 * b.2, a.2 * b.1)
theorem ok_Exact_add (T : Tx K mg) : FnOk P w K mg base CX0 5 T.Exact_add_a T.Exact_add_d ["self", "other"] (spBin T.Exact_a fAdd) := by
  refine T.Exact_add_F.ok sc_Exact_add (fun vs H Q E h => spBin_len h) (fun cdv A outer s H vs Q E hr h => ?_)
  obtain ⟨v, u, a, b, rfl, hv, hu, na, nb, k⟩ := h
  refine ⟨_, (pss_cons (ps_asg (pe_call (ok_parts T) (hr.mono (by decide)) rfl T.parts_m T.parts_F.kp T.parts_b .nil pass0 (pa_cons (pv 1) pa_nil)) (pg_tup (by rfl) (pgs_cons (pg_name (i := 2) sc_Exact_add.nd rfl (Or.inl rfl)) (pgs_cons (pg_name (i := 3) sc_Exact_add.nd rfl (Or.inl rfl)) pgs_nil))))
  (pss_one (ps_ret (pe_make T.Exact_mk (ok_Exact_init T) (hr.mono (by decide)) rfl T.Exact_m T.Exact_init_b .nil pass0 (pa_cons (pe_op (op_add) (pe_op (op_mulG) (pe_fld (pv 0) rfl) (pv 3)) (pe_op (op_mulG) (pv 2) (pe_fld (pv 0) rfl))) (pa_cons (pe_op (op_mulG) (pe_fld (pv 0) rfl) (pv 3)) pa_nil)))))), ?_⟩
  refine ⟨_, rfl, u, b, rfl, hu, fun t H1 s1 ht => ⟨t, _, rfl, .inl (.inl ht), rfl, _, _, rfl, _, _, rfl, rfl, ?_⟩⟩
  obtain ⟨x, dx, rfl, hx⟩ := hv.same s1
  refine ⟨_, rfl, x, _, dx, _, _, rfl, hx, T.Exact_cl, T.Exact_n_over, fl_over, _, rfl, _, _, rfl, rfl, ok1000 na.2.1 nb.2.2, _, rfl, _, rfl, x, _, dx, _, _, rfl, hx, T.Exact_cl, T.Exact_n_under, fl_under, _, _, rfl, rfl, ok1000 nb.2.1 na.2.2, _, _, rfl, rfl, _, rfl, x, _, dx, _, _, rfl, hx, T.Exact_cl, T.Exact_n_under, fl_under, _, rfl, _, _, rfl, rfl, ok1000 na.2.2 nb.2.2, ?_⟩
  exact mk_ex (un_ok na nb).1 (un_ok na nb).2 fun v' H2 s2 h2 => k v' H2 (s1.trans s2) h2
theorem ok_Exact_sub (T : Tx K mg) : FnOk P w K mg base CX0 5 T.Exact_sub_a T.Exact_sub_d ["self", "other"] (spBin T.Exact_a fSub) := by
  refine T.Exact_sub_F.ok sc_Exact_sub (fun vs H Q E h => spBin_len h) (fun cdv A outer s H vs Q E hr h => ?_)
  obtain ⟨v, u, a, b, rfl, hv, hu, na, nb, k⟩ := h
  refine ⟨_, (pss_cons (ps_asg (pe_call (ok_parts T) (hr.mono (by decide)) rfl T.parts_m T.parts_F.kp T.parts_b .nil pass0 (pa_cons (pv 1) pa_nil)) (pg_tup (by rfl) (pgs_cons (pg_name (i := 2) sc_Exact_sub.nd rfl (Or.inl rfl)) (pgs_cons (pg_name (i := 3) sc_Exact_sub.nd rfl (Or.inl rfl)) pgs_nil))))
  (pss_one (ps_ret (pe_make T.Exact_mk (ok_Exact_init T) (hr.mono (by decide)) rfl T.Exact_m T.Exact_init_b .nil pass0 (pa_cons (pe_op (op_sub) (pe_op (op_mulG) (pe_fld (pv 0) rfl) (pv 3)) (pe_op (op_mulG) (pv 2) (pe_fld (pv 0) rfl))) (pa_cons (pe_op (op_mulG) (pe_fld (pv 0) rfl) (pv 3)) pa_nil)))))), ?_⟩
  refine ⟨_, rfl, u, b, rfl, hu, fun t H1 s1 ht => ⟨t, _, rfl, .inl (.inl ht), rfl, _, _, rfl, _, _, rfl, rfl, ?_⟩⟩
  obtain ⟨x, dx, rfl, hx⟩ := hv.same s1
  refine ⟨_, rfl, x, _, dx, _, _, rfl, hx, T.Exact_cl, T.Exact_n_over, fl_over, _, rfl, _, _, rfl, rfl, ok1000 na.2.1 nb.2.2, _, rfl, _, rfl, x, _, dx, _, _, rfl, hx, T.Exact_cl, T.Exact_n_under, fl_under, _, _, rfl, rfl, ok1000 nb.2.1 na.2.2, _, _, rfl, rfl, _, rfl, x, _, dx, _, _, rfl, hx, T.Exact_cl, T.Exact_n_under, fl_under, _, rfl, _, _, rfl, rfl, ok1000 na.2.2 nb.2.2, ?_⟩
  exact mk_ex (un_ok na nb).1 (un_ok na nb).2 fun v' H2 s2 h2 => k v' H2 (s1.trans s2) h2
theorem ok_Exact_rsub (T : Tx K mg) : FnOk P w K mg base CX0 5 T.Exact_rsub_a T.Exact_rsub_d ["self", "other"] (spBin T.Exact_a fRsub) := by
  refine T.Exact_rsub_F.ok sc_Exact_rsub (fun vs H Q E h => spBin_len h) (fun cdv A outer s H vs Q E hr h => ?_)
  obtain ⟨v, u, a, b, rfl, hv, hu, na, nb, k⟩ := h
  refine ⟨_, (pss_cons (ps_asg (pe_call (ok_parts T) (hr.mono (by decide)) rfl T.parts_m T.parts_F.kp T.parts_b .nil pass0 (pa_cons (pv 1) pa_nil)) (pg_tup (by rfl) (pgs_cons (pg_name (i := 2) sc_Exact_rsub.nd rfl (Or.inl rfl)) (pgs_cons (pg_name (i := 3) sc_Exact_rsub.nd rfl (Or.inl rfl)) pgs_nil))))
  (pss_one (ps_ret (pe_make T.Exact_mk (ok_Exact_init T) (hr.mono (by decide)) rfl T.Exact_m T.Exact_init_b .nil pass0 (pa_cons (pe_op (op_sub) (pe_op (op_mulG) (pv 2) (pe_fld (pv 0) rfl)) (pe_op (op_mulG) (pe_fld (pv 0) rfl) (pv 3))) (pa_cons (pe_op (op_mulG) (pe_fld (pv 0) rfl) (pv 3)) pa_nil)))))), ?_⟩
  refine ⟨_, rfl, u, b, rfl, hu, fun t H1 s1 ht => ⟨t, _, rfl, .inl (.inl ht), rfl, _, _, rfl, _, _, rfl, rfl, ?_⟩⟩
  obtain ⟨x, dx, rfl, hx⟩ := hv.same s1
  refine ⟨_, rfl, _, rfl, x, _, dx, _, _, rfl, hx, T.Exact_cl, T.Exact_n_under, fl_under, _, _, rfl, rfl, ok1000 nb.2.1 na.2.2, _, rfl, x, _, dx, _, _, rfl, hx, T.Exact_cl, T.Exact_n_over, fl_over, _, rfl, _, _, rfl, rfl, ok1000 na.2.1 nb.2.2, _, _, rfl, rfl, _, rfl, x, _, dx, _, _, rfl, hx, T.Exact_cl, T.Exact_n_under, fl_under, _, rfl, _, _, rfl, rfl, ok1000 na.2.2 nb.2.2, ?_⟩
  exact mk_ex (un_ok na nb).1 (un_ok na nb).2 fun v' H2 s2 h2 => k v' H2 (s1.trans s2) h2
theorem ok_Exact_mul (T : Tx K mg) : FnOk P w K mg base CX0 5 T.Exact_mul_a T.Exact_mul_d ["self", "other"] (spBin T.Exact_a fMul) := by
  refine T.Exact_mul_F.ok sc_Exact_mul (fun vs H Q E h => spBin_len h) (fun cdv A outer s H vs Q E hr h => ?_)
  obtain ⟨v, u, a, b, rfl, hv, hu, na, nb, k⟩ := h
  refine ⟨_, (pss_cons (ps_asg (pe_call (ok_parts T) (hr.mono (by decide)) rfl T.parts_m T.parts_F.kp T.parts_b .nil pass0 (pa_cons (pv 1) pa_nil)) (pg_tup (by rfl) (pgs_cons (pg_name (i := 2) sc_Exact_mul.nd rfl (Or.inl rfl)) (pgs_cons (pg_name (i := 3) sc_Exact_mul.nd rfl (Or.inl rfl)) pgs_nil))))
  (pss_one (ps_ret (pe_make T.Exact_mk (ok_Exact_init T) (hr.mono (by decide)) rfl T.Exact_m T.Exact_init_b .nil pass0 (pa_cons (pe_op (op_mulG) (pe_fld (pv 0) rfl) (pv 2)) (pa_cons (pe_op (op_mulG) (pe_fld (pv 0) rfl) (pv 3)) pa_nil)))))), ?_⟩
  refine ⟨_, rfl, u, b, rfl, hu, fun t H1 s1 ht => ⟨t, _, rfl, .inl (.inl ht), rfl, _, _, rfl, _, _, rfl, rfl, ?_⟩⟩
  obtain ⟨x, dx, rfl, hx⟩ := hv.same s1
  refine ⟨_, rfl, x, _, dx, _, _, rfl, hx, T.Exact_cl, T.Exact_n_over, fl_over, _, rfl, _, _, rfl, rfl, ok1000 na.2.1 nb.2.1, _, rfl, x, _, dx, _, _, rfl, hx, T.Exact_cl, T.Exact_n_under, fl_under, _, rfl, _, _, rfl, rfl, ok1000 na.2.2 nb.2.2, ?_⟩
  exact mk_ex (un_ok na nb).1 (un_ok na nb).2 fun v' H2 s2 h2 => k v' H2 (s1.trans s2) h2
theorem ok_Exact_radd (T : Tx K mg) : FnOk P w K mg base CX0 6 T.Exact_radd_a T.Exact_radd_d ["self", "other"] (spBin T.Exact_a fAdd) := by
  refine T.Exact_radd_F.ok sc_Exact_radd (fun vs H Q E h => spBin_len h) (fun cdv A outer s H vs Q E hr h => ?_)
  obtain ⟨v, u, a, b, rfl, hv, hu, na, nb, k⟩ := h
  refine ⟨_, (pss_one (ps_ret (pe_op (op_gyD T.op_add (ok_Exact_add T) (hr.mono (by decide)) T.Exact_add_b pass0) (pv 0) (pv 1)))), ?_⟩
  obtain ⟨x, dx, rfl, hx⟩ := id hv
  refine ⟨_, rfl, _, rfl, x, dx, _, rfl, hx, ?_, _, _, a, b, rfl, hv, hu, na, nb, k⟩
  rcases hu.cases with ⟨rfl, _⟩ | ⟨y, dy, rfl, hy⟩
  · exact .inr ⟨_, rfl⟩
  · exact .inl ⟨y, dy, _, rfl, hy⟩
theorem ok_Exact_rmul (T : Tx K mg) : FnOk P w K mg base CX0 6 T.Exact_rmul_a T.Exact_rmul_d ["self", "other"] (spBin T.Exact_a fMul) := by
  refine T.Exact_rmul_F.ok sc_Exact_rmul (fun vs H Q E h => spBin_len h) (fun cdv A outer s H vs Q E hr h => ?_)
  obtain ⟨v, u, a, b, rfl, hv, hu, na, nb, k⟩ := h
  refine ⟨_, (pss_one (ps_ret (pe_op (op_gyD T.op_mul (ok_Exact_mul T) (hr.mono (by decide)) T.Exact_mul_b pass0) (pv 0) (pv 1)))), ?_⟩
  obtain ⟨x, dx, rfl, hx⟩ := id hv
  refine ⟨_, rfl, _, rfl, x, dx, _, rfl, hx, ?_, _, _, a, b, rfl, hv, hu, na, nb, k⟩
  rcases hu.cases with ⟨rfl, _⟩ | ⟨y, dy, rfl, hy⟩
  · exact .inr ⟨_, rfl⟩
  · exact .inl ⟨y, dy, _, rfl, hy⟩
def spNeg (C : Addr) : Sp := fun vs H Q _ => ∃ v a, vs = [v] ∧ ExAt C H v a ∧ Nm a ∧ ∀ v' H', Same H H' → ExAt C H' v' (red (-a.1) a.2) → Q v' H'
theorem ok_Exact_neg (T : Tx K mg) : FnOk P w K mg base CX0 5 T.Exact_neg_a T.Exact_neg_d ["self"] (spNeg T.Exact_a) := by
  refine T.Exact_neg_F.ok sc_Exact_neg (fun vs H Q E h => ?_) (fun cdv A outer s H vs Q E hr h => ?_)
  · obtain ⟨v, a, rfl, _⟩ := h
    rfl
  · obtain ⟨v, a, rfl, hv, na, k⟩ := h
    refine ⟨_, (pss_one (ps_ret (pe_make T.Exact_mk (ok_Exact_init T) (hr.mono (by decide)) rfl T.Exact_m T.Exact_init_b .nil pass0 (pa_cons (pe_un (un_neg) (pe_fld (pv 0) rfl)) (pa_cons (pe_fld (pv 0) rfl) pa_nil))))), ?_⟩
    obtain ⟨x, dx, rfl, hx⟩ := hv
    refine ⟨_, rfl, x, _, dx, _, _, rfl, hx, T.Exact_cl, T.Exact_n_over, fl_over, _, rfl, _, rfl, x, _, dx, _, _, rfl, hx, T.Exact_cl, T.Exact_n_under, fl_under, ?_⟩
    exact mk_ex (Int.ne_of_gt na.1) (sz_up na.2.2 (by decide)) fun v' H2 s2 h2 => k v' H2 s2 h2
/-- the quotient, the divisor not 0 -/
def spBy (C : Addr) : Sp := fun vs H Q _ => ∃ v u a b, vs = [v, u] ∧ ExAt C H v a ∧ NumAt C H u b ∧ Nm a ∧ Nm b ∧ b.1 ≠ 0 ∧ ∀ v' H', Same H H' → ExAt C H' v' (red (fBy a b).1 (fBy a b).2) → Q v' H'
theorem ok_Exact_by (T : Tx K mg) : FnOk P w K mg base CX0 5 T.Exact_by_a T.Exact_by_d ["self", "other"] (spBy T.Exact_a) := by
  refine T.Exact_by_F.ok sc_Exact_by (fun vs H Q E h => ?_) (fun cdv A outer s H vs Q E hr h => ?_)
  · obtain ⟨v, u, a, b, rfl, _⟩ := h
    rfl
  · obtain ⟨v, u, a, b, rfl, hv, hu, na, nb, h0, k⟩ := h
    refine ⟨_, (pss_cons (ps_asg (pe_call (ok_parts T) (hr.mono (by decide)) rfl T.parts_m T.parts_F.kp T.parts_b .nil pass0 (pa_cons (pv 1) pa_nil)) (pg_tup (by rfl) (pgs_cons (pg_name (i := 2) sc_Exact_by.nd rfl (Or.inl rfl)) (pgs_cons (pg_name (i := 3) sc_Exact_by.nd rfl (Or.inl rfl)) pgs_nil))))
  (pss_cons (ps_if (pt_cmpR op_eq (pv 2) pe_int (nomark _))
  (pss_one ps_never)
  pss_nil)
  (pss_one (ps_ret (pe_make T.Exact_mk (ok_Exact_init T) (hr.mono (by decide)) rfl T.Exact_m T.Exact_init_b .nil pass0 (pa_cons (pe_op (op_mulG) (pe_fld (pv 0) rfl) (pv 3)) (pa_cons (pe_op (op_mulG) (pe_fld (pv 0) rfl) (pv 2)) pa_nil))))))), ?_⟩
    refine ⟨_, rfl, u, b, rfl, hu, fun t H1 s1 ht => ⟨t, _, rfl, .inl (.inl ht), rfl, _, _, rfl, _, _, rfl, rfl, ?_⟩⟩
    obtain ⟨x, dx, rfl, hx⟩ := hv.same s1
    refine ⟨_, rfl, rfl, _, rfl, ?_⟩
    rw [show decide (V.int b.1 = V.int 0) = false by simp [h0]]
    refine iteF ?_
    refine ⟨_, rfl, x, _, dx, _, _, rfl, hx, T.Exact_cl, T.Exact_n_over, fl_over, _, rfl, _, _, rfl, rfl, ok1000 na.2.1 nb.2.2, _, rfl, x, _, dx, _, _, rfl, hx, T.Exact_cl, T.Exact_n_under, fl_under, _, rfl, _, _, rfl, rfl, ok1000 na.2.2 nb.2.1, ?_⟩
    exact mk_ex (Int.mul_ne_zero (Int.ne_of_gt na.1) h0) (sz_up (sz_mul na.2.2 nb.2.1) (by decide)) fun v' H2 s2 h2 => k v' H2 (s1.trans s2) h2
/-- a number as it is told: an int, or an Exact -/
def ToldAt (C : Addr) (H : Hp) (v : V) (p : Int × Int) : Prop := (p.2 = 1 ∧ v = .int p.1) ∨ (p.2 ≠ 1 ∧ ExAt C H v p)
theorem ToldAt.same {C : Addr} {H H' : Hp} {v : V} {p : Int × Int} (h : ToldAt C H v p) (e : Same H H') : ToldAt C H' v p := h.elim .inl fun z => .inr ⟨z.1, z.2.same e⟩
theorem ToldAt.num {C : Addr} {H : Hp} {v : V} {p : Int × Int} (h : ToldAt C H v p) : NumAt C H v p := h.elim (fun z => .inl ⟨z.2, z.1⟩) fun z => .inr z.2
def spPlain (C : Addr) : Sp := fun vs H Q _ => ∃ v p, vs = [v] ∧ NumAt C H v p ∧ Rd p ∧ p.2.natAbs < 2 ^ 8000 ∧ ∀ v' H', Same H H' → ToldAt C H' v' p → Q v' H'
theorem ok_plain (T : Tx K mg) : FnOk P w K mg base CX0 5 T.plain_a T.plain_d ["number"] (spPlain T.Exact_a) := by
  refine T.plain_F.ok sc_plain (fun vs H Q E h => ?_) (fun cdv A outer s H vs Q E hr h => ?_)
  · obtain ⟨v, p, rfl, _⟩ := h
    rfl
  · obtain ⟨v, p, rfl, hv, rd, sz, k⟩ := h
    refine ⟨_, (pss_cons (ps_asg (pe_call (ok_parts T) (hr.mono (by decide)) rfl T.parts_m T.parts_F.kp T.parts_b .nil pass0 (pa_cons (pv 0) pa_nil)) (pg_tup (by rfl) (pgs_cons (pg_name (i := 1) sc_plain.nd rfl (Or.inl rfl)) (pgs_cons (pg_name (i := 2) sc_plain.nd rfl (Or.inl rfl)) pgs_nil))))
  (pss_cons (ps_if (pt_cmpR op_eq (pv 2) pe_int (nomark _))
  (pss_one (ps_ret (pv 1)))
  pss_nil)
  (pss_one (ps_ret (pe_make T.Exact_mk (ok_Exact_init T) (hr.mono (by decide)) rfl T.Exact_m T.Exact_init_b .nil pass0 (pa_cons (pv 1) (pa_cons (pv 2) pa_nil))))))), ?_⟩
    refine ⟨_, rfl, v, p, rfl, hv, fun t H1 s1 ht => ⟨t, _, rfl, .inl (.inl ht), rfl, _, _, rfl, _, _, rfl, rfl, ?_⟩⟩
    refine ⟨_, rfl, rfl, _, rfl, ?_⟩
    by_cases h1 : p.2 = 1
    · rw [show decide (V.int p.2 = V.int 1) = true by simp [h1]]
      refine iteT ?_
      exact ⟨_, rfl, k _ H1 s1 (.inl ⟨h1, rfl⟩)⟩
    · rw [show decide (V.int p.2 = V.int 1) = false by simp [h1]]
      refine iteF ?_
      refine ⟨_, rfl, _, rfl, ?_⟩
      exact mk_ex (Int.ne_of_gt rd.1) sz fun v' H2 s2 h2 => k v' H2 (s1.trans s2) (.inr ⟨h1, by rw [red_self rd] at h2; exact h2⟩)

end


section
variable {P : Program} {w : World} {K : PySem.W.Frag} {mg : Str → Option Value} {base : Heap}
/-! ### the law's draws -/
theorem cut63 (ns : List Int) (h : ns.length ≤ 63) : cutV (ns.map V.int) none (some 63) = ns.map V.int := by
  have hl : (ns.map V.int).length = ns.length := List.length_map ..
  have e : HT.sIx (ns.map V.int).length (ns.map V.int).length (some (63 : Int)) = (ns.map V.int).length := by
    have := HT.sIx_nat (ns.map V.int).length (ns.map V.int).length 63
    rw [show (((63 : Nat) : Int)) = (63 : Int) from rfl] at this
    rw [this, hl]
    omega
  unfold cutV
  rw [e, HT.sIx_none, Nat.sub_zero, List.drop_zero, List.take_length]
def spFresh (K : PySem.W.Frag) : Sp := fun vs H Q _ => ∃ (a : Addr) (ns : List Int), vs = [.ref a] ∧ SqL K H a (ns.map V.int) ∧ ns.length ≤ 63 ∧ ∀ st c H', Same H H' → StAt H' st c ns → Q (.ref st) H'
theorem ok_law_fresh (T : Tx K mg) : FnOk P w K mg base CX0 1 T.law_fresh_a T.law_fresh_d ["_law_script"] (spFresh K) := by
  refine T.law_fresh_F.ok sc_law_fresh (fun vs H Q E h => ?_) (fun cdv A outer s H vs Q E hr h => ?_)
  · obtain ⟨a, ns, rfl, _⟩ := h
    rfl
  · obtain ⟨a, ns, rfl, hS, hl, k⟩ := h
    refine ⟨_, (pss_one (ps_ret (pe_lst (pa_cons (pe_slice sl_list (pv 0) po_none (po_some pe_int)) (pa_cons pe_int (pa_cons pe_int (pa_cons pe_bl pa_nil))))))), ?_⟩
    refine ⟨_, rfl, 63, rfl, a, _, rfl, hS, fun c nc => ?_⟩
    refine ⟨(by show 4 ≤ sizeLine; decide), fun st ns' => ?_⟩
    have hne : c ≠ st := ne_of_none upd_same ns'
    refine k st c _ (Same.trans (same_upd nc) (same_upd ns')) ⟨⟨0, 0, false, upd_same⟩, ?_, hne⟩
    rw [upd_ne hne, upd_same, cut63 ns hl]
theorem prime_at {i : Nat} {x : V} (h : ([.int 2147483647, .int 2147483629, .int 2147483587, .int 2147483579, .int 2147483563] : List V)[i]? = some x) : ∃ p : Int, x = .int p ∧ 0 < p ∧ p < 2 ^ 31 ∧ i < 5 := by
  match i, h with
  | 0, h => exact ⟨_, (Option.some.inj h).symm, by decide, by decide, by decide⟩
  | 1, h => exact ⟨_, (Option.some.inj h).symm, by decide, by decide, by decide⟩
  | 2, h => exact ⟨_, (Option.some.inj h).symm, by decide, by decide, by decide⟩
  | 3, h => exact ⟨_, (Option.some.inj h).symm, by decide, by decide, by decide⟩
  | 4, h => exact ⟨_, (Option.some.inj h).symm, by decide, by decide, by decide⟩
def spFill : Sp := fun vs H Q _ => ∃ (st c : Addr) (ns : List Int), vs = [.ref st] ∧ StAt H st c ns ∧ ns.length ≤ 63 ∧ ∀ H', StAt H' st c ns → Keep st H H' → Q .non H'
theorem ok_law_fill (T : Tx K mg) : FnOk P w K mg base CX0 1 T.law_fill_a T.law_fill_d ["_law_state"] spFill := by
  refine T.law_fill_F.ok sc_law_fill (fun vs H Q E h => ?_) (fun cdv A outer s H vs Q E hr h => ?_)
  · obtain ⟨st, c, ns, rfl, _⟩ := h
    rfl
  · obtain ⟨st, c, ns, rfl, ⟨⟨nth, left, mx, hL⟩, hc, hne⟩, hl, k⟩ := h
    refine ⟨_, (pss_cons (ps_par (i := 1) (j := 2) (by rfl) sc_law_fill.nd rfl rfl (by decide) rfl rfl (pa_cons (pe_ix ix_list (pv 0) pe_int (fun _ _ => rfl)) (pa_cons (pe_ix ix_list (pv 0) pe_int (fun _ _ => rfl)) pa_nil)) (by rfl))
  (pss_cons (ps_set (i := 3) sc_law_fill.nd rfl (Or.inl rfl) (pe_op (op_add) (pe_op (op_mulG) pe_int (pv 2)) pe_int))
  (pss_cons (ps_if (pt_cmpR op_gt (pe_callB (call_len_seq) (by rfl) T.z_len (by decide +kernel) (pa_cons (pv 1) pa_nil)) pe_int (nomark _))
  (pss_one (ps_set (i := 3) sc_law_fill.nd rfl (Or.inl rfl) (pe_op (op_add) (pe_op (op_mulG) pe_int (pe_op (op_fdivG) (pv 2) (pe_callB (call_len_seq) (by rfl) T.z_len (by decide +kernel) (pa_cons (pv 1) pa_nil)))) (pe_ix ix_list (pv 1) (pe_op (op_modN) (pe_callTy call_int1 (by rfl) T.z_int (by decide +kernel) (pa_cons (pv 2) pa_nil)) (pe_callB (call_len_seq) (by rfl) T.z_len (by decide +kernel) (pa_cons (pv 1) pa_nil))) (fun _ _ => rfl)))))
  pss_nil)
  (pss_cons (ps_asg (pe_op (op_add) (pv 2) pe_int) (pg_sub (pv 0) pe_int set_list))
  (pss_cons (ps_asg (pe_or (pe_cmpR op_ge (pv 2) (pe_callB (call_len_seq) (by rfl) T.z_len (by decide +kernel) (pa_cons (pv 1) pa_nil)) (nomark _)) (pe_one (pe_cmpR op_lt (pv 3) (pe_op (op_pow) pe_int pe_int) (nomark _)))) (pg_sub (pv 0) pe_int set_list))
  (pss_cons (ps_asg (pe_op (op_sub) (pv 3) (pe_op (op_pow) pe_int pe_int)) (pg_sub (pv 0) pe_int set_list))
  (pss_one (ps_if (pt_val (pe_ix ix_list (pv 0) pe_int (fun _ _ => rfl)))
  (pss_cons (ps_asg pe_int (pg_sub (pv 0) pe_int set_list))
  (pss_one (ps_for PassesOwn.never rfl (pi_enumT (by rfl) T.z_enumerate (pa_cons (pe_tup (pa_cons pe_int (pa_cons pe_int (pa_cons pe_int (pa_cons pe_int (pa_cons pe_int pa_nil)))))) pa_nil)) (pg_tup (by rfl) (pgs_cons (pg_name (i := 4) sc_law_fill.nd rfl (Or.inl rfl)) (pgs_cons (pg_name (i := 5) sc_law_fill.nd rfl (Or.inl rfl)) pgs_nil)))
  (pss_cons (ps_set (i := 6) sc_law_fill.nd rfl (Or.inl rfl) (pe_op (op_modN) (pe_callTy call_int1 (by rfl) T.z_int (by decide +kernel) (pa_cons (pe_op (op_mulG) (pe_op (op_add) (pe_op (op_add) (pv 3) (pe_op (op_mulG) (pe_op (op_mulG) pe_int (pv 4)) (pv 4))) (pe_op (op_mulG) pe_int (pv 4))) (pe_op (op_add) pe_int (pe_op (op_mulG) pe_int (pv 4)))) pa_nil)) (pv 5)))
  (pss_one (ps_asg (pe_op (op_add) (pe_op (op_mulG) (pe_ix ix_list (pv 0) pe_int (fun _ _ => rfl)) (pv 5)) (pe_op (op_modN) (pe_callTy call_int1 (by rfl) T.z_int (by decide +kernel) (pa_cons (pe_op (op_pow) (pv 6) pe_int) pa_nil)) (pv 5))) (pg_sub (pv 0) pe_int set_list)))))))
  pss_nil)))))))), ?_⟩
    refine ⟨_, rfl, st, _, _, _, rfl, rfl, .inl (.inl hL), rfl, _, rfl, st, _, _, _, rfl, rfl, .inl (.inl hL), rfl, _, _, rfl, ?_⟩
    refine ⟨_, rfl, _, _, rfl, rfl, mulOk_l ⟨by decide, by decide⟩, _, _, rfl, rfl, ?_⟩
    refine ⟨_, rfl, c, _, rfl, .inl (.inl (.inl hc)), _, _, rfl, rfl, _, rfl, ?_⟩
    have hcU : ∀ o, (upd H st o) c = some (.lst (ns.map V.int)) := fun o => by rw [upd_ne hne]; exact hc
    -- what comes behind the seed, whatever it is
    have tail : ∀ (mx' : Bool) (H1 : Hp), Keep st H H1 → (∃ left, H1 st = some (.lst [.ref c, .int (nth + 1), .int left, .bl mx'])) → Q .non H1 := fun mx' H1 kp ⟨l, hl⟩ =>
      k H1 ⟨⟨_, _, _, hl⟩, kp c _ hc hne, hne⟩ kp
    refine ite2 (fun h0 => ?_) (fun h0 => ?_)
    · have h0 : (0 : Int) < ((ns.map V.int).length : Int) := of_decide_eq_true h0
      have hlen : (ns.map V.int).length = ns.length := List.length_map ..
      have hn0 : ((ns.map V.int).length : Int) ≠ 0 := by omega
      have f1 := Int.fmod_nonneg_of_pos nth h0
      have f2 := Int.fmod_lt_of_pos nth h0
      obtain ⟨j, hj⟩ : ∃ j : Nat, nth.fmod ((ns.map V.int).length : Int) = (j : Int) := ⟨_, (Int.toNat_of_nonneg f1).symm⟩
      have hjl : j < ns.length := by omega
      have hat : atI (ns.map V.int) (nth.fmod ((ns.map V.int).length : Int)) = some (.int ns[j]) := by
        rw [hj]
        exact atI_nat (by rw [List.getElem?_map, List.getElem?_eq_getElem hjl]; rfl)
      refine ⟨_, rfl, _, rfl, c, _, rfl, .inl (.inl (.inl hc)), _, _, rfl, rfl, gDiv_lt (b := 6) hn0 (by rw [hlen]; show ns.length < 64; omega) (by decide) (by decide), _, _, rfl, rfl, mulOk_l ⟨by decide, by decide⟩,
        _, rfl, _, rfl, .inl ⟨_, rfl, _, rfl, c, _, rfl, .inl (.inl (.inl hc)), _, _, rfl, rfl, hn0, c, _, _, _, rfl, rfl, .inl (.inl hc), hat, _, _, rfl, rfl, ?_⟩⟩
      -- the place is counted on
      refine ⟨_, rfl, _, _, rfl, rfl, _, rfl, st, _, 1, 1, rfl, rfl, hL, rfl, ?_⟩
      -- is it mixed
      refine ⟨_, rfl, _, rfl, c, _, rfl, .inl (.inl (.inl (hcU _))), _, _, rfl, rfl, _, rfl, ?_⟩
      refine ite2 (fun h1 => ?_) (fun h1 => ?_)
      · refine ⟨_, rfl, st, _, 3, 3, rfl, rfl, upd_same, rfl, ?_⟩
        refine ⟨_, rfl, _, _, rfl, rfl, ⟨by decide, by decide, by decide⟩, _, _, rfl, rfl, _, rfl, st, _, 2, 2, rfl, rfl, upd_same, rfl, ?_⟩
        refine ⟨_, rfl, st, _, _, _, rfl, rfl, .inl (.inl upd_same), rfl, _, rfl, ?_⟩
        refine iteT ?_
        refine ⟨_, rfl, st, _, 2, 2, rfl, rfl, upd_same, rfl, ?_⟩
        refine ⟨(by show 5 ≤ sizeLine; decide), fun t nt => ?_⟩
        refine ⟨t, _, rfl, .inl (.inl upd_same), for_enumT (K := K) (a := t) (xs := [.int 2147483647, .int 2147483629, .int 2147483587, .int 2147483579, .int 2147483563]) (fun i σ H2 => ∃ kk pp ff l b seed, σ = [some (.ref st), some (.ref c), some (.int nth), some (.int seed), kk, pp, ff] ∧ H2 st = some (.lst [.ref c, .int (nth + 1), .int l, .bl b]) ∧
          H2 t = some (.tup [.int 2147483647, .int 2147483629, .int 2147483587, .int 2147483579, .int 2147483563]) ∧ Keep st H H2) ⟨_, _, _, _, _, _, rfl, (upd_ne (ne_of_none upd_same nt)).trans upd_same, upd_same, ?_⟩ (fun i σ H2 _ ⟨_, _, _, _, _, _, _, _, ht, _⟩ => .inl (.inl ht)) ?_ ?_⟩
        · exact fun b o e n => same_upd nt b o (by rw [upd_ne n, upd_ne n, upd_ne n, upd_ne n]; exact e)
        · rintro i x σ H2 T' hx ⟨kk, pp, ff, l, b, seed, rfl, hS, hT, kp⟩ nT
          obtain ⟨p, rfl, p0, p1, i5⟩ := prime_at hx
          refine ⟨T', _, rfl, .inl (.inl upd_same), rfl, _, _, rfl, _, _, rfl, rfl, ?_⟩
          have hS' : ∀ o, (upd H2 T' o) st = some (.lst [.ref c, .int (nth + 1), .int l, .bl b]) := fun o => by rw [upd_ne (ne_of_none hS nT)]; exact hS
          have f1 : ∀ z : Int, 0 ≤ z.fmod p := fun z => Int.fmod_nonneg_of_pos z p0
          have f2 : ∀ z : Int, z.fmod p < p := fun z => Int.fmod_lt_of_pos z p0
          refine ⟨_, rfl, _, rfl, _, _, rfl, rfl, mulOk_l ⟨by decide, by decide⟩, _, rfl, _, _, rfl, rfl, mulOk_r ⟨by omega, by omega⟩, _, _, rfl, rfl, _, rfl, _, _, rfl, rfl, mulOk_l ⟨by decide, by decide⟩, _, _, rfl, rfl,
            _, rfl, _, _, rfl, rfl, mulOk_l ⟨by decide, by decide⟩, _, _, rfl, rfl, _, _, rfl, rfl, mulOk_r ⟨by omega, by omega⟩, .inl ⟨_, rfl, _, rfl, _, _, rfl, rfl, by omega, ?_⟩⟩
          refine ⟨_, rfl, st, _, _, _, rfl, rfl, .inl (.inl (hS' _)), rfl, _, rfl, _, _, rfl, rfl, mulOk_r ⟨by omega, by omega⟩, _, rfl, _, _, rfl, rfl, ⟨by decide, by decide, ?_⟩, .inl ⟨_, rfl, _, rfl, _, _, rfl, rfl, by omega, _, _, rfl, rfl, _, rfl, st, _, 2, 2, rfl, rfl, hS' _, rfl, ?_⟩⟩
          · have g1 := f1 ((seed + 10007 * (i : Int) * (i : Int) + 101 * (i : Int)) * (48271 + 2 * (i : Int)))
            have g2 := f2 ((seed + 10007 * (i : Int) * (i : Int) + 101 * (i : Int)) * (48271 + 2 * (i : Int)))
            omega
          · refine ⟨_, _, _, _, _, _, rfl, upd_same, ?_, fun b' o e n => ?_⟩
            · rw [upd_ne (ne_of hT hS (by intro z; cases z)), upd_ne (ne_of_none hT nT)]
              exact hT
            · rw [upd_ne n]
              exact same_upd nT b' o (kp b' o e n)
        · rintro σ H2 ⟨kk, pp, ff, l, b, seed, rfl, hS, hT, kp⟩
          exact tail b H2 kp ⟨l, hS⟩
      · refine ⟨_, rfl, _, _, rfl, rfl, ⟨by decide, by decide, by decide⟩, _, _, rfl, rfl, _, rfl, st, _, 3, 3, rfl, rfl, upd_same, rfl, ?_⟩
        refine ⟨_, rfl, _, _, rfl, rfl, ⟨by decide, by decide, by decide⟩, _, _, rfl, rfl, _, rfl, st, _, 2, 2, rfl, rfl, upd_same, rfl, ?_⟩
        refine ⟨_, rfl, st, _, _, _, rfl, rfl, .inl (.inl upd_same), rfl, _, rfl, ?_⟩
        refine ite2 (fun h2 => ?_) (fun h2 => ?_)
        · skip
          refine ⟨_, rfl, st, _, 2, 2, rfl, rfl, upd_same, rfl, ?_⟩
          refine ⟨(by show 5 ≤ sizeLine; decide), fun t nt => ?_⟩
          refine ⟨t, _, rfl, .inl (.inl upd_same), for_enumT (K := K) (a := t) (xs := [.int 2147483647, .int 2147483629, .int 2147483587, .int 2147483579, .int 2147483563]) (fun i σ H2 => ∃ kk pp ff l b seed, σ = [some (.ref st), some (.ref c), some (.int nth), some (.int seed), kk, pp, ff] ∧ H2 st = some (.lst [.ref c, .int (nth + 1), .int l, .bl b]) ∧
            H2 t = some (.tup [.int 2147483647, .int 2147483629, .int 2147483587, .int 2147483579, .int 2147483563]) ∧ Keep st H H2) ⟨_, _, _, _, _, _, rfl, (upd_ne (ne_of_none upd_same nt)).trans upd_same, upd_same, ?_⟩ (fun i σ H2 _ ⟨_, _, _, _, _, _, _, _, ht, _⟩ => .inl (.inl ht)) ?_ ?_⟩
          · exact fun b o e n => same_upd nt b o (by rw [upd_ne n, upd_ne n, upd_ne n, upd_ne n]; exact e)
          · rintro i x σ H2 T' hx ⟨kk, pp, ff, l, b, seed, rfl, hS, hT, kp⟩ nT
            obtain ⟨p, rfl, p0, p1, i5⟩ := prime_at hx
            refine ⟨T', _, rfl, .inl (.inl upd_same), rfl, _, _, rfl, _, _, rfl, rfl, ?_⟩
            have hS' : ∀ o, (upd H2 T' o) st = some (.lst [.ref c, .int (nth + 1), .int l, .bl b]) := fun o => by rw [upd_ne (ne_of_none hS nT)]; exact hS
            have f1 : ∀ z : Int, 0 ≤ z.fmod p := fun z => Int.fmod_nonneg_of_pos z p0
            have f2 : ∀ z : Int, z.fmod p < p := fun z => Int.fmod_lt_of_pos z p0
            refine ⟨_, rfl, _, rfl, _, _, rfl, rfl, mulOk_l ⟨by decide, by decide⟩, _, rfl, _, _, rfl, rfl, mulOk_r ⟨by omega, by omega⟩, _, _, rfl, rfl, _, rfl, _, _, rfl, rfl, mulOk_l ⟨by decide, by decide⟩, _, _, rfl, rfl,
              _, rfl, _, _, rfl, rfl, mulOk_l ⟨by decide, by decide⟩, _, _, rfl, rfl, _, _, rfl, rfl, mulOk_r ⟨by omega, by omega⟩, .inl ⟨_, rfl, _, rfl, _, _, rfl, rfl, by omega, ?_⟩⟩
            refine ⟨_, rfl, st, _, _, _, rfl, rfl, .inl (.inl (hS' _)), rfl, _, rfl, _, _, rfl, rfl, mulOk_r ⟨by omega, by omega⟩, _, rfl, _, _, rfl, rfl, ⟨by decide, by decide, ?_⟩, .inl ⟨_, rfl, _, rfl, _, _, rfl, rfl, by omega, _, _, rfl, rfl, _, rfl, st, _, 2, 2, rfl, rfl, hS' _, rfl, ?_⟩⟩
            · have g1 := f1 ((seed + 10007 * (i : Int) * (i : Int) + 101 * (i : Int)) * (48271 + 2 * (i : Int)))
              have g2 := f2 ((seed + 10007 * (i : Int) * (i : Int) + 101 * (i : Int)) * (48271 + 2 * (i : Int)))
              omega
            · refine ⟨_, _, _, _, _, _, rfl, upd_same, ?_, fun b' o e n => ?_⟩
              · rw [upd_ne (ne_of hT hS (by intro z; cases z)), upd_ne (ne_of_none hT nT)]
                exact hT
              · rw [upd_ne n]
                exact same_upd nT b' o (kp b' o e n)
          · rintro σ H2 ⟨kk, pp, ff, l, b, seed, rfl, hS, hT, kp⟩
            exact tail b H2 kp ⟨l, hS⟩
        · exact tail _ _ (fun b o e n => by rw [upd_ne n, upd_ne n, upd_ne n]; exact e) ⟨_, upd_same⟩
    · skip
      -- the place is counted on
      refine ⟨_, rfl, _, _, rfl, rfl, _, rfl, st, _, 1, 1, rfl, rfl, hL, rfl, ?_⟩
      -- is it mixed
      refine ⟨_, rfl, _, rfl, c, _, rfl, .inl (.inl (.inl (hcU _))), _, _, rfl, rfl, _, rfl, ?_⟩
      refine ite2 (fun h1 => ?_) (fun h1 => ?_)
      · refine ⟨_, rfl, st, _, 3, 3, rfl, rfl, upd_same, rfl, ?_⟩
        refine ⟨_, rfl, _, _, rfl, rfl, ⟨by decide, by decide, by decide⟩, _, _, rfl, rfl, _, rfl, st, _, 2, 2, rfl, rfl, upd_same, rfl, ?_⟩
        refine ⟨_, rfl, st, _, _, _, rfl, rfl, .inl (.inl upd_same), rfl, _, rfl, ?_⟩
        refine iteT ?_
        refine ⟨_, rfl, st, _, 2, 2, rfl, rfl, upd_same, rfl, ?_⟩
        refine ⟨(by show 5 ≤ sizeLine; decide), fun t nt => ?_⟩
        refine ⟨t, _, rfl, .inl (.inl upd_same), for_enumT (K := K) (a := t) (xs := [.int 2147483647, .int 2147483629, .int 2147483587, .int 2147483579, .int 2147483563]) (fun i σ H2 => ∃ kk pp ff l b seed, σ = [some (.ref st), some (.ref c), some (.int nth), some (.int seed), kk, pp, ff] ∧ H2 st = some (.lst [.ref c, .int (nth + 1), .int l, .bl b]) ∧
          H2 t = some (.tup [.int 2147483647, .int 2147483629, .int 2147483587, .int 2147483579, .int 2147483563]) ∧ Keep st H H2) ⟨_, _, _, _, _, _, rfl, (upd_ne (ne_of_none upd_same nt)).trans upd_same, upd_same, ?_⟩ (fun i σ H2 _ ⟨_, _, _, _, _, _, _, _, ht, _⟩ => .inl (.inl ht)) ?_ ?_⟩
        · exact fun b o e n => same_upd nt b o (by rw [upd_ne n, upd_ne n, upd_ne n, upd_ne n]; exact e)
        · rintro i x σ H2 T' hx ⟨kk, pp, ff, l, b, seed, rfl, hS, hT, kp⟩ nT
          obtain ⟨p, rfl, p0, p1, i5⟩ := prime_at hx
          refine ⟨T', _, rfl, .inl (.inl upd_same), rfl, _, _, rfl, _, _, rfl, rfl, ?_⟩
          have hS' : ∀ o, (upd H2 T' o) st = some (.lst [.ref c, .int (nth + 1), .int l, .bl b]) := fun o => by rw [upd_ne (ne_of_none hS nT)]; exact hS
          have f1 : ∀ z : Int, 0 ≤ z.fmod p := fun z => Int.fmod_nonneg_of_pos z p0
          have f2 : ∀ z : Int, z.fmod p < p := fun z => Int.fmod_lt_of_pos z p0
          refine ⟨_, rfl, _, rfl, _, _, rfl, rfl, mulOk_l ⟨by decide, by decide⟩, _, rfl, _, _, rfl, rfl, mulOk_r ⟨by omega, by omega⟩, _, _, rfl, rfl, _, rfl, _, _, rfl, rfl, mulOk_l ⟨by decide, by decide⟩, _, _, rfl, rfl,
            _, rfl, _, _, rfl, rfl, mulOk_l ⟨by decide, by decide⟩, _, _, rfl, rfl, _, _, rfl, rfl, mulOk_r ⟨by omega, by omega⟩, .inl ⟨_, rfl, _, rfl, _, _, rfl, rfl, by omega, ?_⟩⟩
          refine ⟨_, rfl, st, _, _, _, rfl, rfl, .inl (.inl (hS' _)), rfl, _, rfl, _, _, rfl, rfl, mulOk_r ⟨by omega, by omega⟩, _, rfl, _, _, rfl, rfl, ⟨by decide, by decide, ?_⟩, .inl ⟨_, rfl, _, rfl, _, _, rfl, rfl, by omega, _, _, rfl, rfl, _, rfl, st, _, 2, 2, rfl, rfl, hS' _, rfl, ?_⟩⟩
          · have g1 := f1 ((seed + 10007 * (i : Int) * (i : Int) + 101 * (i : Int)) * (48271 + 2 * (i : Int)))
            have g2 := f2 ((seed + 10007 * (i : Int) * (i : Int) + 101 * (i : Int)) * (48271 + 2 * (i : Int)))
            omega
          · refine ⟨_, _, _, _, _, _, rfl, upd_same, ?_, fun b' o e n => ?_⟩
            · rw [upd_ne (ne_of hT hS (by intro z; cases z)), upd_ne (ne_of_none hT nT)]
              exact hT
            · rw [upd_ne n]
              exact same_upd nT b' o (kp b' o e n)
        · rintro σ H2 ⟨kk, pp, ff, l, b, seed, rfl, hS, hT, kp⟩
          exact tail b H2 kp ⟨l, hS⟩
      · refine ⟨_, rfl, _, _, rfl, rfl, ⟨by decide, by decide, by decide⟩, _, _, rfl, rfl, _, rfl, st, _, 3, 3, rfl, rfl, upd_same, rfl, ?_⟩
        refine ⟨_, rfl, _, _, rfl, rfl, ⟨by decide, by decide, by decide⟩, _, _, rfl, rfl, _, rfl, st, _, 2, 2, rfl, rfl, upd_same, rfl, ?_⟩
        refine ⟨_, rfl, st, _, _, _, rfl, rfl, .inl (.inl upd_same), rfl, _, rfl, ?_⟩
        refine ite2 (fun h2 => ?_) (fun h2 => ?_)
        · skip
          refine ⟨_, rfl, st, _, 2, 2, rfl, rfl, upd_same, rfl, ?_⟩
          refine ⟨(by show 5 ≤ sizeLine; decide), fun t nt => ?_⟩
          refine ⟨t, _, rfl, .inl (.inl upd_same), for_enumT (K := K) (a := t) (xs := [.int 2147483647, .int 2147483629, .int 2147483587, .int 2147483579, .int 2147483563]) (fun i σ H2 => ∃ kk pp ff l b seed, σ = [some (.ref st), some (.ref c), some (.int nth), some (.int seed), kk, pp, ff] ∧ H2 st = some (.lst [.ref c, .int (nth + 1), .int l, .bl b]) ∧
            H2 t = some (.tup [.int 2147483647, .int 2147483629, .int 2147483587, .int 2147483579, .int 2147483563]) ∧ Keep st H H2) ⟨_, _, _, _, _, _, rfl, (upd_ne (ne_of_none upd_same nt)).trans upd_same, upd_same, ?_⟩ (fun i σ H2 _ ⟨_, _, _, _, _, _, _, _, ht, _⟩ => .inl (.inl ht)) ?_ ?_⟩
          · exact fun b o e n => same_upd nt b o (by rw [upd_ne n, upd_ne n, upd_ne n, upd_ne n]; exact e)
          · rintro i x σ H2 T' hx ⟨kk, pp, ff, l, b, seed, rfl, hS, hT, kp⟩ nT
            obtain ⟨p, rfl, p0, p1, i5⟩ := prime_at hx
            refine ⟨T', _, rfl, .inl (.inl upd_same), rfl, _, _, rfl, _, _, rfl, rfl, ?_⟩
            have hS' : ∀ o, (upd H2 T' o) st = some (.lst [.ref c, .int (nth + 1), .int l, .bl b]) := fun o => by rw [upd_ne (ne_of_none hS nT)]; exact hS
            have f1 : ∀ z : Int, 0 ≤ z.fmod p := fun z => Int.fmod_nonneg_of_pos z p0
            have f2 : ∀ z : Int, z.fmod p < p := fun z => Int.fmod_lt_of_pos z p0
            refine ⟨_, rfl, _, rfl, _, _, rfl, rfl, mulOk_l ⟨by decide, by decide⟩, _, rfl, _, _, rfl, rfl, mulOk_r ⟨by omega, by omega⟩, _, _, rfl, rfl, _, rfl, _, _, rfl, rfl, mulOk_l ⟨by decide, by decide⟩, _, _, rfl, rfl,
              _, rfl, _, _, rfl, rfl, mulOk_l ⟨by decide, by decide⟩, _, _, rfl, rfl, _, _, rfl, rfl, mulOk_r ⟨by omega, by omega⟩, .inl ⟨_, rfl, _, rfl, _, _, rfl, rfl, by omega, ?_⟩⟩
            refine ⟨_, rfl, st, _, _, _, rfl, rfl, .inl (.inl (hS' _)), rfl, _, rfl, _, _, rfl, rfl, mulOk_r ⟨by omega, by omega⟩, _, rfl, _, _, rfl, rfl, ⟨by decide, by decide, ?_⟩, .inl ⟨_, rfl, _, rfl, _, _, rfl, rfl, by omega, _, _, rfl, rfl, _, rfl, st, _, 2, 2, rfl, rfl, hS' _, rfl, ?_⟩⟩
            · have g1 := f1 ((seed + 10007 * (i : Int) * (i : Int) + 101 * (i : Int)) * (48271 + 2 * (i : Int)))
              have g2 := f2 ((seed + 10007 * (i : Int) * (i : Int) + 101 * (i : Int)) * (48271 + 2 * (i : Int)))
              omega
            · refine ⟨_, _, _, _, _, _, rfl, upd_same, ?_, fun b' o e n => ?_⟩
              · rw [upd_ne (ne_of hT hS (by intro z; cases z)), upd_ne (ne_of_none hT nT)]
                exact hT
              · rw [upd_ne n]
                exact same_upd nT b' o (kp b' o e n)
          · rintro σ H2 ⟨kk, pp, ff, l, b, seed, rfl, hS, hT, kp⟩
            exact tail b H2 kp ⟨l, hS⟩
        · exact tail _ _ (fun b o e n => by rw [upd_ne n, upd_ne n, upd_ne n]; exact e) ⟨_, upd_same⟩
def spTake : Sp := fun vs H Q _ => ∃ (st c : Addr) (ns : List Int) (many : Int), vs = [.ref st, .int many] ∧ StAt H st c ns ∧ ns.length ≤ 63 ∧ 0 < many ∧ many.natAbs < 2 ^ 2000 ∧
  ∀ r H', 0 ≤ r → r < many → StAt H' st c ns → Keep st H H' → Q (.int r) H'
theorem ok_law_take (T : Tx K mg) : FnOk P w K mg base CX0 2 T.law_take_a T.law_take_d ["_law_state", "_law_many"] spTake := by
  refine T.law_take_F.ok sc_law_take (fun vs H Q E h => ?_) (fun cdv A outer s H vs Q E hr h => ?_)
  · obtain ⟨st, c, ns, many, rfl, _⟩ := h
    rfl
  · obtain ⟨st, c, ns, many, rfl, hSt, hl, h0, hz, k⟩ := h
    refine ⟨_, (pss_cons (ps_set (i := 2) sc_law_take.nd rfl (Or.inl rfl) pe_int)
  (pss_cons (ps_while PassesOwn.never (PW.pt (pw_and (pt_cmpR op_lt (pv 2) pe_int (nomark _)) (pw_and1 (PW.pt (pw_or (pt_cmpR op_eq (pe_ix ix_list (pv 0) pe_int (fun _ _ => rfl)) pe_int (nomark _)) (pw_or1 (PW.pt (pw_and (pt_val (pe_ix ix_list (pv 0) pe_int (fun _ _ => rfl))) (pw_and1 (pt_cmpR op_lt (pe_ix ix_list (pv 0) pe_int (fun _ _ => rfl)) (pe_op (op_mulG) (pv 1) pe_int) (nomark _)))))))))))
  (pss_cons (ps_expr (pe_call (ok_law_fill T) (hr.mono (by decide)) rfl T.law_fill_m T.law_fill_F.kp T.law_fill_b .nil pass0 (pa_cons (pv 0) pa_nil)))
  (pss_cons (ps_aug (i := 2) sc_law_take.nd rfl (Or.inl rfl) pe_int ip_add)
  (pss_one (ps_if (PW.pt (pw_and (pt_val (pe_ix ix_list (pv 0) pe_int (fun _ _ => rfl))) (pw_and1 (pt_cmpR op_lt (pe_ix ix_list (pv 0) pe_int (fun _ _ => rfl)) (pe_op (op_mulG) (pv 1) pe_int) (nomark _)))))
  (pss_one (ps_asg (pe_op (op_add) (pe_ix ix_list (pv 0) pe_int (fun _ _ => rfl)) (pe_op (op_mulG) (pe_op (op_mulG) (pv 1) pe_int) (pe_op (op_add) pe_int (pe_op (op_modN) (pe_callTy call_int1 (by rfl) T.z_int (by decide +kernel) (pa_cons (pe_ix ix_list (pv 0) pe_int (fun _ _ => rfl)) pa_nil)) pe_int)))) (pg_sub (pv 0) pe_int set_list)))
  pss_nil)))))
  (pss_cons (ps_set (i := 3) sc_law_take.nd rfl (Or.inl rfl) (pe_op (op_modN) (pe_callTy call_int1 (by rfl) T.z_int (by decide +kernel) (pa_cons (pe_ix ix_list (pv 0) pe_int (fun _ _ => rfl)) pa_nil)) (pv 1)))
  (pss_cons (ps_asg (pe_op (op_fdivG) (pe_ix ix_list (pv 0) pe_int (fun _ _ => rfl)) (pv 1)) (pg_sub (pv 0) pe_int set_list))
  (pss_one (ps_ret (pv 3))))))), ?_⟩
    refine while_any (fun m σ H2 => ∃ (l : Int) (d : Option V), σ = [some (.ref st), some (.int many), some (.int l), d] ∧ m = (64 - l).toNat ∧ StAt H2 st c ns ∧ Keep st H H2) ⟨_, 0, none, rfl, rfl, hSt, Keep.refl _ _⟩ ?_ ?_ ?_
    · rintro m σ H2 Q' ⟨l, d, rfl, rfl, ⟨⟨nth, left, mx, hL⟩, hc, hne⟩, kp⟩ hT hF
      refine ⟨_, rfl, _, _, rfl, rfl, _, rfl, ?_⟩
      refine ite2 (fun hlt => ?_) (fun _ => hF)
      have hlt : l < 64 := of_decide_eq_true hlt
      have all : ∀ b, Q' b H2 := fun b => by
        cases b with
        | true => exact hT (by omega)
        | false => exact hF
      refine ⟨_, rfl, st, _, _, _, rfl, rfl, .inl (.inl hL), rfl, rfl, _, rfl, ?_⟩
      refine ite2 (fun _ => all _) (fun _ => ?_)
      refine ⟨_, rfl, st, _, _, _, rfl, rfl, .inl (.inl hL), rfl, _, rfl, ?_⟩
      refine ite2 (fun _ => ?_) (fun _ => all _)
      exact ⟨_, rfl, st, _, _, _, rfl, rfl, .inl (.inl hL), rfl, _, rfl, _, _, rfl, rfl, mulOk_r ⟨by decide, by decide⟩, _, _, rfl, rfl, _, rfl, all _⟩
    · rintro m σ H2 hm ⟨l, d, rfl, rfl, hSt2, kp⟩
      refine ⟨_, rfl, st, c, ns, rfl, hSt2, hl, fun H3 hSt3 kp3 => ?_⟩
      refine ⟨_, rfl, _, _, rfl, rfl, ?_⟩
      obtain ⟨⟨nth, left, mx, hL⟩, hc, hne⟩ := id hSt3
      have fin : ∀ H4, StAt H4 st c ns → Keep st H H4 → ∃ m', m' < (64 - l).toNat ∧ ∃ (l' : Int) (d' : Option V), ([some (.ref st), some (.int many), some (.int (l + 1)), d] : L2.St) = [some (.ref st), some (.int many), some (.int l'), d'] ∧ m' = (64 - l').toNat ∧ StAt H4 st c ns ∧ Keep st H H4 :=
        fun H4 a b => ⟨_, by omega, l + 1, d, rfl, rfl, a, b⟩
      have kp13 := kp.trans kp3
      refine ⟨_, rfl, st, _, _, _, rfl, rfl, .inl (.inl hL), rfl, _, rfl, ?_⟩
      refine ite2 (fun _ => ?_) (fun _ => iteF (fin H3 hSt3 kp13))
      refine ⟨_, rfl, st, _, _, _, rfl, rfl, .inl (.inl hL), rfl, _, rfl, _, _, rfl, rfl, mulOk_r ⟨by decide, by decide⟩, _, _, rfl, rfl, _, rfl, ?_⟩
      refine ite2 (fun _ => ?_) (fun _ => fin H3 hSt3 kp13)
      have g1 := Int.fmod_nonneg_of_pos left (b := 4093) (by decide)
      have g2 := Int.fmod_lt_of_pos left (b := 4093) (by decide)
      refine ⟨_, rfl, st, _, _, _, rfl, rfl, .inl (.inl hL), rfl, _, rfl, _, _, rfl, rfl, mulOk_r ⟨by decide, by decide⟩, _, rfl, st, _, _, _, rfl, rfl, .inl (.inl hL), rfl, .inl ⟨_, rfl, _, _, rfl, rfl, (by show (4093 : Int) ≠ 0; decide), _, _, rfl, rfl, _, _, rfl, rfl, mulOk_r ⟨by omega, by omega⟩,
        _, _, rfl, rfl, _, rfl, st, _, 2, 2, rfl, rfl, hL, rfl, ?_⟩⟩
      exact fin _ hSt3.upd (kp13.trans keep_upd)
    · rintro m σ H2 ⟨l, d, rfl, rfl, hSt2, kp⟩
      obtain ⟨⟨nth, left, mx, hL⟩, hc, hne⟩ := id hSt2
      refine ⟨_, rfl, st, _, _, _, rfl, rfl, .inl (.inl hL), rfl, .inl ⟨_, rfl, _, rfl, _, _, rfl, rfl, by omega, ?_⟩⟩
      refine ⟨_, rfl, st, _, _, _, rfl, rfl, .inl (.inl hL), rfl, _, rfl, _, _, rfl, rfl, gDiv_lt (by omega) hz (by decide) (by decide), _, rfl, st, _, 2, 2, rfl, rfl, hL, rfl, ?_⟩
      exact ⟨_, rfl, k _ _ (Int.fmod_nonneg_of_pos _ h0) (Int.fmod_lt_of_pos _ h0) hSt2.upd (kp.trans keep_upd)⟩
def spOne : Sp := fun vs H Q _ => ∃ (st c t : Addr) (ns : List Int) (xs : List V), vs = [.ref st, .ref t] ∧ StAt H st c ns ∧ ns.length ≤ 63 ∧ H t = some (.lst xs) ∧ t ≠ st ∧ xs ≠ [] ∧ xs.length ≤ 1000 ∧
  ∀ v H', v ∈ xs → StAt H' st c ns → Keep st H H' → Q v H'
theorem ok_law_one (T : Tx K mg) : FnOk P w K mg base CX0 3 T.law_one_a T.law_one_d ["_law_state", "_law_things"] spOne := by
  refine T.law_one_F.ok sc_law_one (fun vs H Q E h => ?_) (fun cdv A outer s H vs Q E hr h => ?_)
  · obtain ⟨st, c, t, ns, xs, rfl, _⟩ := h
    rfl
  · obtain ⟨st, c, t, ns, xs, rfl, hSt, hl, ht, hne, hx, hz, k⟩ := h
    refine ⟨_, (pss_one (ps_ret (pe_ix ix_list (pv 1) (pe_call (ok_law_take T) (hr.mono (by decide)) rfl T.law_take_m T.law_take_F.kp T.law_take_b .nil pass0 (pa_cons (pv 0) (pa_cons (pe_callB (call_len_seq) (by rfl) T.z_len (by decide +kernel) (pa_cons (pv 1) pa_nil)) pa_nil))) (fun _ _ => rfl)))), ?_⟩
    have h0 : 0 < xs.length := List.length_pos_iff.mpr hx
    have p10 : (1000 : Nat) < 2 ^ 2000 := Nat.lt_of_lt_of_le (by decide : 1000 < 2 ^ 10) (Nat.pow_le_pow_right (by decide) (by decide))
    refine ⟨_, rfl, _, rfl, _, rfl, t, xs, rfl, .inl (.inl (.inl ht)), st, c, ns, (xs.length : Int), rfl, hSt, hl, by omega, by omega, fun r H1 r0 r1 s1 k1 => ?_⟩
    obtain ⟨j, rfl⟩ : ∃ j : Nat, r = (j : Int) := ⟨_, (Int.toNat_of_nonneg r0).symm⟩
    have hj : j < xs.length := by omega
    exact ⟨t, xs, j, xs[j], rfl, rfl, .inl (.inl (k1 t _ ht hne)), atI_nat (List.getElem?_eq_getElem hj), k _ H1 (List.getElem_mem hj) s1 k1⟩

end


section
variable {P : Program} {w : World} {K : PySem.W.Frag} {mg : Str → Option Value} {base : Heap}
/-! ### the law's own fractions -/
/-- a pair of ints stands at t -/
def PairAt (H : Hp) (t : Addr) (p : Int × Int) : Prop := H t = some (.tup [.int p.1, .int p.2])
theorem PairAt.same {H H' : Hp} {t : Addr} {p : Int × Int} (h : PairAt H t p) (e : Same H H') : PairAt H' t p := e _ _ h
theorem PairAt.keep {H H' : Hp} {t st c : Addr} {p : Int × Int} {ns : List Int} (h : PairAt H t p) (e : Keep st H H') (hs : StAt H st c ns) : PairAt H' t p :=
  e _ _ h (let ⟨_, _, _, z⟩ := hs.1; ne_of h z (by intro z; cases z))
theorem ExAt.keep {C : Addr} {H H' : Hp} {v : V} {st c : Addr} {p : Int × Int} {ns : List Int} (h : ExAt C H v p) (e : Keep st H H') (hs : StAt H st c ns) : ExAt C H' v p :=
  let ⟨a, dx, r, y⟩ := h; ⟨a, dx, r, e _ _ y (let ⟨_, _, _, z⟩ := hs.1; ne_of y z (by intro z; cases z))⟩
theorem NumAt.keep {C : Addr} {H H' : Hp} {v : V} {st c : Addr} {p : Int × Int} {ns : List Int} (h : NumAt C H v p) (e : Keep st H H') (hs : StAt H st c ns) : NumAt C H' v p := h.elim .inl fun z => .inr (z.keep e hs)
def spGcd : Sp := fun vs H Q _ => ∃ a b : Int, vs = [.int a, .int b] ∧ Q (.int (Int.gcd a b)) H
theorem ok_law_gcd (T : Tx K mg) : FnOk P w K mg base CX0 1 T.law_gcd_a T.law_gcd_d ["_law_a", "_law_b"] spGcd := by
  refine T.law_gcd_F.ok sc_law_gcd (fun vs H Q E h => ?_) (fun cdv A outer s H vs Q E hr h => ?_)
  · obtain ⟨a, b, rfl, _⟩ := h
    rfl
  · obtain ⟨a, b, rfl, k⟩ := h
    refine ⟨_, (pss_cons (ps_while PassesOwn.never (pt_cmpR op_ne (pv 1) pe_int (nomark _))
  (pss_one (ps_par (i := 0) (j := 1) (by rfl) sc_law_gcd.nd rfl rfl (by decide) rfl rfl (pa_cons (pv 1) (pa_cons (pe_op (op_modN) (pv 0) (pv 1)) pa_nil)) (by rfl))))
  (pss_one (ps_ret (pe_ifExp (pt_cmpR op_gt (pv 0) pe_int (nomark _)) (pv 0) (pe_un (un_neg) (pv 0)))))), ?_⟩
    refine ⟨fun m σ H' => ∃ x y : Int, σ = [some (.int x), some (.int y)] ∧ Int.gcd x y = Int.gcd a b ∧ m = y.natAbs ∧ H' = H, ⟨_, a, b, rfl, rfl, rfl, rfl⟩, ?_⟩
    rintro m σ H' ⟨x, y, rfl, hg, rfl, rfl⟩
    refine ⟨_, rfl, rfl, _, rfl, ?_⟩
    by_cases h0 : y = 0
    · subst h0
      refine iteF ?_
      have e : (Int.gcd a b : Int) = (x.natAbs : Int) := by rw [← hg, Int.gcd_zero_right]
      refine ⟨_, rfl, _, _, rfl, rfl, _, rfl, ?_⟩
      rw [e] at k
      refine ite2 (fun hp => ?_) (fun hp => ?_)
      · have hp : (0 : Int) < x := of_decide_eq_true hp
        refine ⟨_, rfl, ?_⟩
        rw [show (x.natAbs : Int) = x by omega] at k
        exact k
      · have hp : ¬ (0 : Int) < x := fun z => hp (decide_eq_true z)
        refine ⟨_, rfl, _, rfl, ?_⟩
        rw [show (x.natAbs : Int) = -x by omega] at k
        exact k
    · rw [show (!decide (V.int y = V.int 0)) = true by simp [h0]]
      refine iteT ?_
      refine ⟨_, fun σ' H' z => z, ?_⟩
      refine ⟨_, rfl, _, rfl, _, rfl, _, _, rfl, rfl, h0, _, _, rfl, ?_⟩
      exact ⟨_, fmod_lt h0, y, x.fmod y, rfl, (gcd_step x y).trans hg, rfl, rfl⟩
def spFrac : Sp := fun vs H Q _ => ∃ a b : Int, vs = [.int a, .int b] ∧ b ≠ 0 ∧ b.natAbs < 2 ^ 8000 ∧ ∀ t H', Same H H' → PairAt H' t (red a b) → Q (.ref t) H'
theorem ok_law_frac (T : Tx K mg) : FnOk P w K mg base CX0 2 T.law_frac_a T.law_frac_d ["_law_over", "_law_under"] spFrac := by
  refine T.law_frac_F.ok sc_law_frac (fun vs H Q E h => ?_) (fun cdv A outer s H vs Q E hr h => ?_)
  · obtain ⟨a, b, rfl, _⟩ := h
    rfl
  · obtain ⟨a, b, rfl, h0, hz, k⟩ := h
    refine ⟨_, (pss_cons (ps_set (i := 2) sc_law_frac.nd rfl (Or.inl rfl) (pe_call (ok_law_gcd T) (hr.mono (by decide)) rfl T.law_gcd_m T.law_gcd_F.kp T.law_gcd_b .nil pass0 (pa_cons (pv 0) (pa_cons (pv 1) pa_nil))))
  (pss_cons (ps_set (i := 2) sc_law_frac.nd rfl (Or.inl rfl) (pe_ifExp (pt_cmpR op_lt (pv 1) pe_int (nomark _)) (pe_un (un_neg) (pv 2)) (pv 2)))
  (pss_one (ps_ret (pe_tup (pa_cons (pe_op (op_fdivG) (pv 0) (pv 2)) (pa_cons (pe_op (op_fdivG) (pv 1) (pv 2)) pa_nil))))))), ?_⟩
    refine ⟨_, rfl, _, rfl, a, b, rfl, ?_⟩
    have gd : ∀ i, GDiv i (red_w a b) := fun i => gDiv_lt (red_w_ne h0) (red_w_sz h0 hz) (by decide) (by decide)
    refine ⟨_, rfl, _, _, rfl, rfl, _, rfl, ?_⟩
    refine ite2 (fun hn => ?_) (fun hn => ?_)
    · have hn : b < 0 := of_decide_eq_true hn
      have e : -(Int.gcd a b : Int) = red_w a b := by unfold red_w; rw [if_pos hn]
      refine ⟨_, rfl, _, rfl, ?_⟩
      refine ⟨_, rfl, _, rfl, _, _, rfl, rfl, e ▸ gd _, _, rfl, _, rfl, _, _, rfl, rfl, e ▸ gd _, (by show 2 ≤ sizeLine; decide), fun t nt => ?_⟩
      refine k t _ (same_upd nt) ?_
      show (upd _ _ _) _ = _
      rw [upd_same]
      show some (HO.tup [V.int (a.fdiv (-(Int.gcd a b : Int))), V.int (b.fdiv (-(Int.gcd a b : Int)))]) = _
      rw [e]
      rfl
    · have hn : ¬ b < 0 := fun z => hn (decide_eq_true z)
      have e : (Int.gcd a b : Int) = red_w a b := by unfold red_w; rw [if_neg hn]
      refine ⟨_, rfl, ?_⟩
      refine ⟨_, rfl, _, rfl, _, _, rfl, rfl, e ▸ gd _, _, rfl, _, rfl, _, _, rfl, rfl, e ▸ gd _, (by show 2 ≤ sizeLine; decide), fun t nt => ?_⟩
      refine k t _ (same_upd nt) ?_
      show (upd _ _ _) _ = _
      rw [upd_same]
      show some (HO.tup [V.int (a.fdiv (Int.gcd a b : Int)), V.int (b.fdiv (Int.gcd a b : Int))]) = _
      rw [e]
      rfl
/-- two pairs: the reduced one of f -/
def spPairs (f : Int × Int → Int × Int → Int × Int) : Sp := fun vs H Q _ => ∃ t1 t2 a b, vs = [.ref t1, .ref t2] ∧ PairAt H t1 a ∧ PairAt H t2 b ∧ a.1.natAbs < 2 ^ 1000 ∧ a.2.natAbs < 2 ^ 1000 ∧ b.1.natAbs < 2 ^ 1000 ∧ b.2.natAbs < 2 ^ 1000 ∧ (f a b).2 ≠ 0 ∧
  ∀ t H', Same H H' → PairAt H' t (red (f a b).1 (f a b).2) → Q (.ref t) H'
theorem spPairs_len {f : Int × Int → Int × Int → Int × Int} {vs : List V} {H : Hp} {Q : VK} {E : XK} (h : spPairs f vs H Q E) : vs.length = 2 := by
  obtain ⟨v, u, a, b, rfl, _⟩ := h
  rfl
theorem ok_law_add (T : Tx K mg) : FnOk P w K mg base CX0 3 T.law_add_a T.law_add_d ["_law_a", "_law_b"] (spPairs fAdd) := by
  refine T.law_add_F.ok sc_law_add (fun vs H Q E h => spPairs_len h) (fun cdv A outer s H vs Q E hr h => ?_)
  obtain ⟨t1, t2, a, b, rfl, h1, h2, z1, z2, z3, z4, h0, k⟩ := h
  refine ⟨_, (pss_one (ps_ret (pe_call (ok_law_frac T) (hr.mono (by decide)) rfl T.law_frac_m T.law_frac_F.kp T.law_frac_b .nil pass0 (pa_cons (pe_op (op_add) (pe_op (op_mulG) (pe_ix ix_tup (pv 0) pe_int (fun _ _ => rfl)) (pe_ix ix_tup (pv 1) pe_int (fun _ _ => rfl))) (pe_op (op_mulG) (pe_ix ix_tup (pv 1) pe_int (fun _ _ => rfl)) (pe_ix ix_tup (pv 0) pe_int (fun _ _ => rfl)))) (pa_cons (pe_op (op_mulG) (pe_ix ix_tup (pv 0) pe_int (fun _ _ => rfl)) (pe_ix ix_tup (pv 1) pe_int (fun _ _ => rfl))) pa_nil))))), ?_⟩
  refine ⟨_, rfl, t1, _, _, _, rfl, rfl, .inl (.inl h1), rfl, _, rfl, t2, _, _, _, rfl, rfl, .inl (.inl h2), rfl, _, _, rfl, rfl, ok1000 z1 z4, _, rfl, t2, _, _, _, rfl, rfl, .inl (.inl h2), rfl, _, rfl, t1, _, _, _, rfl, rfl, .inl (.inl h1), rfl, _, _, rfl, rfl, ok1000 z3 z2, _, _, rfl, rfl, _, rfl, t1, _, _, _, rfl, rfl, .inl (.inl h1), rfl, _, rfl, t2, _, _, _, rfl, rfl, .inl (.inl h2), rfl, _, _, rfl, rfl, ok1000 z2 z4, _, _, rfl, h0, sz_up (sz_mul z2 z4) (by decide), k⟩
theorem ok_law_mul (T : Tx K mg) : FnOk P w K mg base CX0 3 T.law_mul_a T.law_mul_d ["_law_a", "_law_b"] (spPairs fMul) := by
  refine T.law_mul_F.ok sc_law_mul (fun vs H Q E h => spPairs_len h) (fun cdv A outer s H vs Q E hr h => ?_)
  obtain ⟨t1, t2, a, b, rfl, h1, h2, z1, z2, z3, z4, h0, k⟩ := h
  refine ⟨_, (pss_one (ps_ret (pe_call (ok_law_frac T) (hr.mono (by decide)) rfl T.law_frac_m T.law_frac_F.kp T.law_frac_b .nil pass0 (pa_cons (pe_op (op_mulG) (pe_ix ix_tup (pv 0) pe_int (fun _ _ => rfl)) (pe_ix ix_tup (pv 1) pe_int (fun _ _ => rfl))) (pa_cons (pe_op (op_mulG) (pe_ix ix_tup (pv 0) pe_int (fun _ _ => rfl)) (pe_ix ix_tup (pv 1) pe_int (fun _ _ => rfl))) pa_nil))))), ?_⟩
  refine ⟨_, rfl, t1, _, _, _, rfl, rfl, .inl (.inl h1), rfl, _, rfl, t2, _, _, _, rfl, rfl, .inl (.inl h2), rfl, _, _, rfl, rfl, ok1000 z1 z3, _, rfl, t1, _, _, _, rfl, rfl, .inl (.inl h1), rfl, _, rfl, t2, _, _, _, rfl, rfl, .inl (.inl h2), rfl, _, _, rfl, rfl, ok1000 z2 z4, _, _, rfl, h0, sz_up (sz_mul z2 z4) (by decide), k⟩
/-- sizes that drawn fractions keep -/
def Dn (p : Int × Int) : Prop := 0 < p.2 ∧ p.1.natAbs < 2 ^ 130 ∧ p.2.natAbs < 2 ^ 50
theorem Dn.nm {p : Int × Int} (h : Dn p) : Nm p := ⟨h.1, sz_up h.2.1 (by decide), sz_up h.2.2 (by decide)⟩
def spAsNumber (C : Addr) : Sp := fun vs H Q _ => ∃ (st c t : Addr) (ns : List Int) (p : Int × Int), vs = [.ref st, .ref t] ∧ StAt H st c ns ∧ ns.length ≤ 63 ∧ PairAt H t p ∧ Rd p ∧ Nm p ∧ ∀ v H', StAt H' st c ns → Keep st H H' → NumAt C H' v p → Q v H'
theorem p_small : (3 : Int).natAbs < 2 ^ 2000 := Nat.lt_of_lt_of_le (by decide : 3 < 2 ^ 10) (Nat.pow_le_pow_right (by decide) (by decide))
theorem ok_law_as_number (T : Tx K mg) : FnOk P w K mg base CX0 5 T.law_as_number_a T.law_as_number_d ["_law_state", "_law_a"] (spAsNumber T.Exact_a) := by
  refine T.law_as_number_F.ok sc_law_as_number (fun vs H Q E h => ?_) (fun cdv A outer s H vs Q E hr h => ?_)
  · obtain ⟨st, c, t, ns, p, rfl, _⟩ := h
    rfl
  · obtain ⟨st, c, t2, ns, p, rfl, hSt, hl, h2, rd, nm, k⟩ := h
    refine ⟨_, (pss_cons (ps_if (PW.pt (pw_and (pt_cmpR op_eq (pe_ix ix_tup (pv 1) pe_int (fun _ _ => rfl)) pe_int (nomark _)) (pw_and1 (pt_cmpR op_gt (pe_call (ok_law_take T) (hr.mono (by decide)) rfl T.law_take_m T.law_take_F.kp T.law_take_b .nil pass0 (pa_cons (pv 0) (pa_cons pe_int pa_nil))) pe_int (nomark _)))))
  (pss_one (ps_ret (pe_ix ix_tup (pv 1) pe_int (fun _ _ => rfl))))
  pss_nil)
  (pss_cons (ps_set (i := 2) sc_law_as_number.nd rfl (Or.inl rfl) (pe_op (op_add) pe_int (pe_call (ok_law_take T) (hr.mono (by decide)) rfl T.law_take_m T.law_take_F.kp T.law_take_b .nil pass0 (pa_cons (pv 0) (pa_cons pe_int pa_nil)))))
  (pss_one (ps_ret (pe_make T.Exact_mk (ok_Exact_init T) (hr.mono (by decide)) rfl T.Exact_m T.Exact_init_b .nil pass0 (pa_cons (pe_op (op_mulG) (pe_ix ix_tup (pv 1) pe_int (fun _ _ => rfl)) (pv 2)) (pa_cons (pe_op (op_mulG) (pe_ix ix_tup (pv 1) pe_int (fun _ _ => rfl)) (pv 2)) pa_nil))))))), ?_⟩
    -- the second way, from any heap that is behind
    have go : ∀ H1, StAt H1 st c ns → Keep st H H1 → tSeq (tAsg (tOp (rI0 fun i j => .int (i + j)) (tC (.int 1)) (tCall spTake [] E0 (tCons (tVar 0) (tCons (tC (.int 3)) tNil)))) (gName 2))
        (tRet (tMake T.Exact_a (spExInit T.Exact_a) [] E0 (tCons (tOp (rI IntMulOk fun i j => .int (i * j)) (tOp (rIxT K) (tVar 1) (tC (.int 0))) (tVar 2)) (tCons (tOp (rI IntMulOk fun i j => .int (i * j)) (tOp (rIxT K) (tVar 1) (tC (.int 1))) (tVar 2)) tNil))))
        { nx := fun _ H' => Q .non H', rt := Q } [some (.ref st), some (.ref t2), none] H1 := by
      intro H1 s1 k1
      refine ⟨_, rfl, st, c, ns, 3, rfl, s1, hl, by decide, p_small, fun r H2 r0 r1 s2 k2 => ⟨_, _, rfl, rfl, ?_⟩⟩
      have h2 := (h2.keep k1 hSt).keep k2 s1
      have f0 : (1 : Int) + r ≠ 0 := by omega
      have fz : ((1 : Int) + r).natAbs < 2 ^ 1000 := Nat.lt_of_lt_of_le (by omega : ((1 : Int) + r).natAbs < 2 ^ 2) (Nat.pow_le_pow_right (by decide) (by decide))
      refine ⟨_, rfl, t2, _, _, _, rfl, rfl, .inl (.inl h2), rfl, _, rfl, _, _, rfl, rfl, ok1000 nm.2.1 fz, _, rfl, t2, _, _, _, rfl, rfl, .inl (.inl h2), rfl, _, rfl, _, _, rfl, rfl, ok1000 nm.2.2 fz, ?_⟩
      refine mk_ex (Int.mul_ne_zero (Int.ne_of_gt nm.1) f0) (sz_up (sz_mul nm.2.2 fz) (by decide)) fun v H3 s3 h3 => ?_
      rw [red_scale rd f0] at h3
      exact k v H3 (s2.same s3) ((k1.trans k2).trans (Same.keep s3)) (.inr h3)
    refine ⟨_, rfl, t2, _, _, _, rfl, rfl, .inl (.inl h2), rfl, rfl, _, rfl, ?_⟩
    by_cases e1 : p.2 = 1
    · rw [show decide (V.int p.2 = V.int 1) = true by simp [e1]]
      refine iteT ?_
      refine ⟨_, rfl, st, c, ns, 3, rfl, hSt, hl, by decide, p_small, fun r H2 r0 r1 s2 k2 => ⟨_, _, rfl, rfl, _, rfl, ?_⟩⟩
      have h2 := h2.keep k2 hSt
      refine ite2 (fun _ => ?_) (fun _ => go H2 s2 k2)
      exact ⟨_, rfl, t2, _, _, _, rfl, rfl, .inl (.inl h2), rfl, k _ H2 s2 k2 (.inl ⟨rfl, e1⟩)⟩
    · rw [show decide (V.int p.2 = V.int 1) = false by simp [e1]]
      exact iteF (iteF (go H hSt (Keep.refl _ _)))
def spLawPlain (C : Addr) : Sp := fun vs H Q _ => ∃ (t : Addr) (p : Int × Int), vs = [.ref t] ∧ PairAt H t p ∧ Rd p ∧ p.2.natAbs < 2 ^ 8000 ∧ ∀ v H', Same H H' → ToldAt C H' v p → Q v H'
theorem ok_law_plain (T : Tx K mg) : FnOk P w K mg base CX0 5 T.law_plain_a T.law_plain_d ["_law_a"] (spLawPlain T.Exact_a) := by
  refine T.law_plain_F.ok sc_law_plain (fun vs H Q E h => ?_) (fun cdv A outer s H vs Q E hr h => ?_)
  · obtain ⟨t, p, rfl, _⟩ := h
    rfl
  · obtain ⟨t1, p, rfl, h1, rd, sz, k⟩ := h
    refine ⟨_, (pss_one (ps_ret (pe_ifExp (pt_cmpR op_eq (pe_ix ix_tup (pv 0) pe_int (fun _ _ => rfl)) pe_int (nomark _)) (pe_ix ix_tup (pv 0) pe_int (fun _ _ => rfl)) (pe_make T.Exact_mk (ok_Exact_init T) (hr.mono (by decide)) rfl T.Exact_m T.Exact_init_b .nil pass0 (pa_cons (pe_ix ix_tup (pv 0) pe_int (fun _ _ => rfl)) (pa_cons (pe_ix ix_tup (pv 0) pe_int (fun _ _ => rfl)) pa_nil)))))), ?_⟩
    refine ⟨_, rfl, t1, _, _, _, rfl, rfl, .inl (.inl h1), rfl, rfl, _, rfl, ?_⟩
    by_cases e1 : p.2 = 1
    · rw [show decide (V.int p.2 = V.int 1) = true by simp [e1]]
      exact iteT ⟨_, rfl, t1, _, _, _, rfl, rfl, .inl (.inl h1), rfl, k _ H (Same.refl _) (.inl ⟨e1, rfl⟩)⟩
    · rw [show decide (V.int p.2 = V.int 1) = false by simp [e1]]
      refine iteF ?_
      refine ⟨_, rfl, t1, _, _, _, rfl, rfl, .inl (.inl h1), rfl, _, rfl, t1, _, _, _, rfl, rfl, .inl (.inl h1), rfl, ?_⟩
      exact mk_ex (Int.ne_of_gt rd.1) sz fun v H3 s3 h3 => k v H3 s3 (.inr ⟨e1, by rw [red_self rd] at h3; exact h3⟩)

end


section
variable {P : Program} {w : World} {K : PySem.W.Frag} {mg : Str → Option Value} {base : Heap}
/-! ### drawn fractions; an Exact as a pair -/
theorem pow38 : (10 : Int) ^ Int.toNat 38 = 100000000000000000000000000000000000000 := by decide +kernel
theorem pow12 : (10 : Int) ^ Int.toNat 12 = 1000000000000 := by decide +kernel
theorem big_lt {x : Int} {m : Nat} (h : x.natAbs < 2 ^ 200) (hm : 200 ≤ m := by decide) : x.natAbs < 2 ^ m := sz_up h hm
def spSomeFrac : Sp := fun vs H Q _ => ∃ (st c : Addr) (ns : List Int), vs = [.ref st] ∧ StAt H st c ns ∧ ns.length ≤ 63 ∧ ∀ t p H', StAt H' st c ns → Keep st H H' → PairAt H' t p → Rd p → Dn p → Q (.ref t) H'
theorem tops_at {v : V} (h : v ∈ ([.int 4, .int 12, .int 1000, .int ((10 : Int) ^ Int.toNat 12), .int ((10 : Int) ^ Int.toNat 38)] : List V)) : ∃ n : Int, v = .int n ∧ 0 < n ∧ n.natAbs < 2 ^ 128 := by
  rw [pow12, pow38] at h
  simp only [List.mem_cons, List.not_mem_nil, or_false] at h
  rcases h with h | h | h | h | h <;> exact ⟨_, h, by decide, by decide⟩
theorem bots_at {v : V} (h : v ∈ ([.int 1, .int 2, .int 6, .int 1000, .int ((10 : Int) ^ Int.toNat 12)] : List V)) : ∃ n : Int, v = .int n ∧ 0 < n ∧ n.natAbs < 2 ^ 41 := by
  rw [pow12] at h
  simp only [List.mem_cons, List.not_mem_nil, or_false] at h
  rcases h with h | h | h | h | h <;> exact ⟨_, h, by decide, by decide⟩
theorem ok_law_some_frac (T : Tx K mg) : FnOk P w K mg base CX0 4 T.law_some_frac_a T.law_some_frac_d ["_law_state"] spSomeFrac := by
  refine T.law_some_frac_F.ok sc_law_some_frac (fun vs H Q E h => ?_) (fun cdv A outer s H vs Q E hr h => ?_)
  · obtain ⟨st, c, ns, rfl, _⟩ := h
    rfl
  · obtain ⟨st, c, ns, rfl, hSt, hl, k⟩ := h
    refine ⟨_, (pss_cons (ps_set (i := 1) sc_law_some_frac.nd rfl (Or.inl rfl) (pe_call (ok_law_one T) (hr.mono (by decide)) rfl T.law_one_m T.law_one_F.kp T.law_one_b .nil pass0 (pa_cons (pv 0) (pa_cons (pe_lst (pa_cons pe_int (pa_cons pe_int (pa_cons pe_int (pa_cons (pe_op (op_pow) pe_int pe_int) (pa_cons (pe_op (op_pow) pe_int pe_int) pa_nil)))))) pa_nil))))
  (pss_one (ps_ret (pe_call (ok_law_frac T) (hr.mono (by decide)) rfl T.law_frac_m T.law_frac_F.kp T.law_frac_b .nil pass0 (pa_cons (pe_op (op_sub) (pe_call (ok_law_take T) (hr.mono (by decide)) rfl T.law_take_m T.law_take_F.kp T.law_take_b .nil pass0 (pa_cons (pv 0) (pa_cons (pe_op (op_mulG) pe_int (pv 1)) pa_nil))) (pv 1)) (pa_cons (pe_op (op_add) pe_int (pe_call (ok_law_take T) (hr.mono (by decide)) rfl T.law_take_m T.law_take_F.kp T.law_take_b .nil pass0 (pa_cons (pv 0) (pa_cons (pe_call (ok_law_one T) (hr.mono (by decide)) rfl T.law_one_m T.law_one_F.kp T.law_one_b .nil pass0 (pa_cons (pv 0) (pa_cons (pe_lst (pa_cons pe_int (pa_cons pe_int (pa_cons pe_int (pa_cons pe_int (pa_cons (pe_op (op_pow) pe_int pe_int) pa_nil)))))) pa_nil))) pa_nil)))) pa_nil)))))), ?_⟩
    have hp : CPow 10 12 := ⟨by decide, by decide, by decide⟩
    have hp2 : CPow 10 38 := ⟨by decide, by decide, by decide⟩
    refine ⟨_, rfl, _, _, rfl, rfl, hp, _, _, rfl, rfl, hp2, (by show 5 ≤ sizeLine; decide), fun l nl => ?_⟩
    obtain ⟨_, _, _, hL⟩ := id hSt.1
    refine ⟨st, c, l, ns, _, rfl, hSt.same (same_upd nl), hl, upd_same, (ne_of_none hL nl).symm, List.cons_ne_nil _ _, by show 5 ≤ 1000; decide, fun v H1 hv s1 k1 => ?_⟩
    obtain ⟨top, rfl, p0, pz⟩ := tops_at hv
    have k1 : Keep st H H1 := Keep.trans (Same.keep (same_upd nl)) k1
    have z2 : (2 * top).natAbs < 2 ^ 129 := by omega
    refine ⟨_, rfl, _, rfl, _, _, rfl, rfl, mulOk_l ⟨by decide, by decide⟩, st, c, ns, 2 * top, rfl, s1, hl, by omega, sz_up z2 (by decide), fun r H2 r0 r1 s2 k2 => ?_⟩
    refine ⟨_, rfl, _, _, rfl, rfl, _, rfl, _, rfl, _, _, rfl, rfl, hp, (by show 5 ≤ sizeLine; decide), fun l2 nl2 => ?_⟩
    obtain ⟨_, _, _, hL2⟩ := id s2.1
    refine ⟨st, c, l2, ns, _, rfl, s2.same (same_upd nl2), hl, upd_same, (ne_of_none hL2 nl2).symm, List.cons_ne_nil _ _, by show 5 ≤ 1000; decide, fun v H3 hv s3 k3 => ?_⟩
    obtain ⟨bot, rfl, b0, bz⟩ := bots_at hv
    have k3 : Keep st H2 H3 := Keep.trans (Same.keep (same_upd nl2)) k3
    refine ⟨st, c, ns, bot, rfl, s3, hl, b0, sz_up bz (by decide), fun r' H4 r0' r1' s4 k4 => ?_⟩
    have e0 : (1 : Int) + r' ≠ 0 := by omega
    have ez : ((1 : Int) + r').natAbs < 2 ^ 42 := by omega
    refine ⟨_, _, rfl, rfl, r - top, 1 + r', rfl, e0, sz_up ez (by decide), fun t H5 s5 h5 => ?_⟩
    have az : (r - top).natAbs < 2 ^ 129 := by omega
    have rs := red_sz e0 az ez
    have rr := red_rd (a := r - top) e0
    exact k t _ H5 (s4.same s5) ((((k1.trans k2).trans k3).trans k4).trans (Same.keep s5)) h5 rr ⟨rr.1, sz_up rs.1 (by decide), sz_up rs.2 (by decide)⟩
def spAsExact (C : Addr) : Sp := fun vs H Q _ => ∃ v p, vs = [v] ∧ ExAt C H v p ∧ Rd p ∧ ∀ t H', Same H H' → PairAt H' t p → Q (.ref t) H'
theorem ok_law_as_exact (T : Tx K mg) : FnOk P w K mg base CX0 2 T.law_as_exact_a T.law_as_exact_d ["_law_x"] (spAsExact T.Exact_a) := by
  refine T.law_as_exact_F.ok sc_law_as_exact (fun vs H Q E h => ?_) (fun cdv A outer s H vs Q E hr h => ?_)
  · obtain ⟨v, p, rfl, _⟩ := h
    rfl
  · obtain ⟨v, p, rfl, ⟨x, dx, rfl, hx⟩, rd, k⟩ := h
    refine ⟨_, (pss_cons (ps_if (PW.pt (pw_or (pt_not (pt_val (pe_callB call_isi (by rfl) T.z_isinstance (by decide +kernel) (pa_cons (pv 0) (pa_cons (pe_glob (v := .ref T.Exact_a) rfl T.Exact_m rfl) pa_nil))))) (pw_or (pt_not (pt_val (pe_callB call_isi (by rfl) T.z_isinstance (by decide +kernel) (pa_cons (pe_fld (pv 0) rfl) (pa_cons (pe_bltn (v := .ty "int") (by rfl) T.z_int (by decide +kernel) rfl) pa_nil))))) (pw_or1 (pt_not (pt_val (pe_callB call_isi (by rfl) T.z_isinstance (by decide +kernel) (pa_cons (pe_fld (pv 0) rfl) (pa_cons (pe_bltn (v := .ty "int") (by rfl) T.z_int (by decide +kernel) rfl) pa_nil)))))))))
  (pss_one (ps_ret pe_non))
  pss_nil)
  (pss_one (ps_ret (pe_ifExp (PW.pt (pw_and (pt_cmpR op_gt (pe_fld (pv 0) rfl) pe_int (nomark _)) (pw_and1 (pt_cmpR op_eq (pe_call (ok_law_gcd T) (hr.mono (by decide)) rfl T.law_gcd_m T.law_gcd_F.kp T.law_gcd_b .nil pass0 (pa_cons (pe_fld (pv 0) rfl) (pa_cons (pe_fld (pv 0) rfl) pa_nil))) pe_int (nomark _))))) (pe_tup (pa_cons (pe_fld (pv 0) rfl) (pa_cons (pe_fld (pv 0) rfl) pa_nil))) pe_non)))), ?_⟩
    refine ⟨_, rfl, _, _, _, _, true, rfl, .own _, .base (.ins hx T.Exact_cl T.Exact_i1 T.Exact_i2 T.Exact_i3 T.Exact_i4), T.Exact_k0, _, rfl, ?_⟩
    refine iteF ⟨_, rfl, x, _, dx, _, _, rfl, hx, T.Exact_cl, T.Exact_n_over, fl_over, _, _, _, _, true, rfl, .ty "int", .base (.int _), kit_ty (by decide +kernel), _, rfl, ?_⟩
    refine iteF ⟨_, rfl, x, _, dx, _, _, rfl, hx, T.Exact_cl, T.Exact_n_under, fl_under, _, _, _, _, true, rfl, .ty "int", .base (.int _), kit_ty (by decide +kernel), _, rfl, ?_⟩
    refine iteF ?_
    refine ⟨_, rfl, x, _, dx, _, _, rfl, hx, T.Exact_cl, T.Exact_n_under, fl_under, _, _, rfl, rfl, _, rfl, ?_⟩
    rw [show decide ((0 : Int) < p.2) = true from decide_eq_true rd.1]
    refine iteT ?_
    refine ⟨_, rfl, x, _, dx, _, _, rfl, hx, T.Exact_cl, T.Exact_n_over, fl_over, _, rfl, x, _, dx, _, _, rfl, hx, T.Exact_cl, T.Exact_n_under, fl_under, p.1, p.2, rfl, rfl, _, rfl, ?_⟩
    rw [show decide (V.int (Int.gcd p.1 p.2 : Int) = V.int 1) = true by simp [rd.2]]
    refine iteT ?_
    exact ⟨_, rfl, x, _, dx, _, _, rfl, hx, T.Exact_cl, T.Exact_n_over, fl_over, _, rfl, x, _, dx, _, _, rfl, hx, T.Exact_cl, T.Exact_n_under, fl_under, (by show 2 ≤ sizeLine; decide), fun t nt => k t _ (same_upd nt) upd_same⟩

end


/-! ### what is told, held against what is due -/
/-- data: what may be told -/
inductive Dat where
  | non | bl (b : Bool) | int (i : Int) | str (s : Str) | ex (p : Int × Int) | lst (xs : List Dat) | tup (xs : List Dat)
mutual
inductive DtAt (C : Addr) (H : Hp) : V → Dat → Prop
  | non : DtAt C H .non .non
  | bl (b : Bool) : DtAt C H (.bl b) (.bl b)
  | int (i : Int) : DtAt C H (.int i) (.int i)
  | str (s : Str) : DtAt C H (.str s) (.str s)
  | ex {v : V} {p : Int × Int} (h : ExAt C H v p) : DtAt C H v (.ex p)
  | lst {a : Addr} {xs : List V} {ds : List Dat} (h : H a = some (.lst xs)) (z : xs.length ≤ 1000) (d : DtAll C H xs ds) : DtAt C H (.ref a) (.lst ds)
  | tup {a : Addr} {xs : List V} {ds : List Dat} (h : H a = some (.tup xs)) (z : xs.length ≤ 1000) (d : DtAll C H xs ds) : DtAt C H (.ref a) (.tup ds)
inductive DtAll (C : Addr) (H : Hp) : List V → List Dat → Prop
  | nil : DtAll C H [] []
  | cons {v : V} {vs : List V} {d : Dat} {ds : List Dat} (h : DtAt C H v d) (t : DtAll C H vs ds) : DtAll C H (v :: vs) (d :: ds)
end
mutual
theorem DtAt.same {C : Addr} {H H' : Hp} (e : Same H H') : ∀ {v : V} {d : Dat}, DtAt C H v d → DtAt C H' v d
  | _, _, .non => .non
  | _, _, .bl b => .bl b
  | _, _, .int i => .int i
  | _, _, .str s => .str s
  | _, _, .ex h => .ex (h.same e)
  | _, _, .lst h z d => .lst (e _ _ h) z (DtAll.same e d)
  | _, _, .tup h z d => .tup (e _ _ h) z (DtAll.same e d)
theorem DtAll.same {C : Addr} {H H' : Hp} (e : Same H H') : ∀ {vs : List V} {ds : List Dat}, DtAll C H vs ds → DtAll C H' vs ds
  | _, _, .nil => .nil
  | _, _, .cons h t => .cons (DtAt.same e h) (DtAll.same e t)
end
theorem DtAll.len {C : Addr} {H : Hp} : ∀ {vs : List V} {ds : List Dat}, DtAll C H vs ds → vs.length = ds.length
  | _, _, .nil => rfl
  | _, _, .cons _ t => congrArg (· + 1) t.len
theorem DtAll.at {C : Addr} {H : Hp} : ∀ {vs : List V} {ds : List Dat} {i : Nat} {v : V}, DtAll C H vs ds → vs[i]? = some v → ∃ d, ds[i]? = some d ∧ DtAt C H v d
  | _, _, 0, _, .cons h _, e => ⟨_, rfl, (Option.some.inj e) ▸ h⟩
  | _, _, i + 1, _, .cons _ t, e => t.at (i := i) e
  | _, _, _, _, .nil, e => by simp at e
/-- no deeper than n -/
def Dat.dep : Nat → Dat → Prop
  | 0, .lst _ => False
  | 0, .tup _ => False
  | n + 1, .lst ds => ∀ d ∈ ds, Dat.dep n d
  | n + 1, .tup ds => ∀ d ∈ ds, Dat.dep n d
  | _, _ => True
def Dat.isL : Dat → Bool
  | .lst _ => true
  | _ => false
def Dat.isT : Dat → Bool
  | .tup _ => true
  | _ => false
def Dat.isE : Dat → Bool
  | .ex _ => true
  | _ => false
def Dat.isI : Dat → Bool
  | .int _ => true
  | .bl _ => true
  | _ => false
def Dat.isB : Dat → Bool
  | .bl _ => true
  | _ => false
/-- its type, for isinstance -/
def Dat.ty (C : Addr) : Dat → Value
  | .non => .type "NoneType"
  | .bl _ => .type "bool"
  | .int _ => .type "int"
  | .str _ => .type "str"
  | .ex _ => .ref C
  | .lst _ => .type "list"
  | .tup _ => .type "tuple"
section
variable {K : PySem.W.Frag} {mg : Str → Option Value} (T : Tx K mg) {H : Hp} {v : V} {d : Dat}
theorem DtAt.tx (h : DtAt T.Exact_a H v d) : TyX K H v (d.ty T.Exact_a) := by
  cases h with
  | non => exact .base .non
  | bl b => exact .base (.bl b)
  | int i => exact .base (.int i)
  | str s => exact .base (.str s)
  | ex h =>
    obtain ⟨x, dx, rfl, hx⟩ := h
    exact .base (.ins hx T.Exact_cl T.Exact_i1 T.Exact_i2 T.Exact_i3 T.Exact_i4)
  | lst h _ _ => exact .base (.lst h)
  | tup h _ _ => exact .base (.tup h)
theorem kitL (d : Dat) : PySem.W.kitOne K (d.ty T.Exact_a) (.type "list") = some d.isL := by
  cases d <;> first | exact T.Exact_ko_list | exact kit_ty (r := true) (by decide +kernel) | exact kit_ty (r := false) (by decide +kernel)
theorem kitT (d : Dat) : PySem.W.kitOne K (d.ty T.Exact_a) (.type "tuple") = some d.isT := by
  cases d <;> first | exact T.Exact_ko_tuple | exact kit_ty (r := true) (by decide +kernel) | exact kit_ty (r := false) (by decide +kernel)
theorem kitI (d : Dat) : PySem.W.kitOne K (d.ty T.Exact_a) (.type "int") = some d.isI := by
  cases d <;> first | exact T.Exact_ko_int | exact kit_ty (r := true) (by decide +kernel) | exact kit_ty (r := false) (by decide +kernel)
theorem kitB' (d : Dat) : PySem.W.kitOne K (d.ty T.Exact_a) (.type "bool") = some d.isB := by
  cases d <;> first | exact T.Exact_ko_bool | exact kit_ty (r := true) (by decide +kernel) | exact kit_ty (r := false) (by decide +kernel)
theorem kitE (d : Dat) : PySem.W.kitOne K (d.ty T.Exact_a) (.ref T.Exact_a) = some d.isE := by
  cases d <;> first | exact T.Exact_k0 | exact T.Exact_kt_int | exact T.Exact_kt_bool | exact T.Exact_kt_str | exact T.Exact_kt_list | exact T.Exact_kt_tuple | exact T.Exact_kt_NoneType
theorem kitLT (d : Dat) : PySem.W.kitAny K (d.ty T.Exact_a) [.type "list", .type "tuple"] = some (d.isL || d.isT) := by
  refine kitAny_cons (kitL T d) (fun e => ?_) (fun e => by rw [e]; rfl)
  refine kitAny_cons (kitT T d) (fun e' => ?_) (fun e' => by rw [e', Bool.or_true])
  rw [e, e']
  exact kitAny_nil
theorem kitBILT (d : Dat) : PySem.W.kitAny K (d.ty T.Exact_a) [.type "bool", .type "int", .type "list", .type "tuple"] = some (d.isB || d.isI || d.isL || d.isT) := by
  refine kitAny_cons (kitB' T d) (fun e => ?_) (fun e => by rw [e]; rfl)
  refine kitAny_cons (kitI T d) (fun e2 => ?_) (fun e2 => by rw [e2, Bool.or_true]; rfl)
  rw [kitLT T d, e, e2]
  rfl
end
theorem fn_false {P : Program} {w : World} {K : PySem.W.Frag} {mg : Str → Option Value} {base : Heap} {CX : CXT} {k : Nat} {f : Addr} {fd : FuncData} {ps : List Str} : FnOk P w K mg base CX k f fd ps (fun _ _ _ _ => False) :=
  ⟨fun _ _ _ _ h => h.elim, fun _ _ _ _ _ _ _ _ _ _ _ _ _ h => h.elim⟩
/-- no list, no tuple, no Exact: the same thing twice -/
def spSameLeaf (C : Addr) : Sp := fun vs H Q _ => ∃ v u d, vs = [v, u] ∧ DtAt C H v d ∧ DtAt C H u d ∧ d.isL = false ∧ d.isT = false ∧ d.isE = false ∧ ∀ H', Same H H' → Q (.bl true) H'
section
variable {P : Program} {w : World} {K : PySem.W.Frag} {mg : Str → Option Value} {base : Heap}
theorem leaf_eq {C : Addr} {H : Hp} {v u : V} {d : Dat} (h1 : DtAt C H v d) (h2 : DtAt C H u d) (a : d.isL = false) (b : d.isT = false) (c : d.isE = false) : v = u ∧ scal v u = true := by
  cases h1 with
  | non => cases h2; exact ⟨rfl, rfl⟩
  | bl x => cases h2; exact ⟨rfl, rfl⟩
  | int x => cases h2; exact ⟨rfl, rfl⟩
  | str x => cases h2; exact ⟨rfl, rfl⟩
  | ex h => cases c
  | lst _ _ _ => cases a
  | tup _ _ _ => cases b
theorem ok_law_same (T : Tx K mg) : FnOk P w K mg base CX0 1 T.law_same_a T.law_same_d ["_law_found", "_law_due"] (spSameLeaf T.Exact_a) := by
  refine T.law_same_F.ok sc_law_same (fun vs H Q E h => ?_) (fun cdv A outer s H vs Q E hr h => ?_)
  · obtain ⟨v, u, d, rfl, _⟩ := h
    rfl
  · obtain ⟨v, u, d, rfl, hv, hu, a, b, c, k⟩ := h
    have REC : FnOk P w K mg base CX0 0 T.law_same_a T.law_same_d ["_law_found", "_law_due"] (fun _ _ _ _ => False) := fn_false
    have hrR := hr.mono (Nat.zero_le _)
    refine ⟨_, (pss_cons (ps_if (pt_val (pe_callB call_isiT (by rfl) T.z_isinstance (by decide +kernel) (pa_cons (pv 1) (pa_cons (pe_tup (pa_cons (pe_bltn (v := .ty "list") (by rfl) T.z_list (by decide +kernel) rfl) (pa_cons (pe_bltn (v := .ty "tuple") (by rfl) T.z_tuple (by decide +kernel) rfl) pa_nil))) pa_nil))))
  (pss_cons (ps_if (PW.pt (pw_or (pt_cmpR op_ne (pe_callB call_isi (by rfl) T.z_isinstance (by decide +kernel) (pa_cons (pv 0) (pa_cons (pe_bltn (v := .ty "list") (by rfl) T.z_list (by decide +kernel) rfl) pa_nil))) (pe_callB call_isi (by rfl) T.z_isinstance (by decide +kernel) (pa_cons (pv 1) (pa_cons (pe_bltn (v := .ty "list") (by rfl) T.z_list (by decide +kernel) rfl) pa_nil))) (nomark _)) (pw_or1 (pt_cmpR op_ne (pe_callB call_isi (by rfl) T.z_isinstance (by decide +kernel) (pa_cons (pv 0) (pa_cons (pe_bltn (v := .ty "tuple") (by rfl) T.z_tuple (by decide +kernel) rfl) pa_nil))) (pe_callB call_isi (by rfl) T.z_isinstance (by decide +kernel) (pa_cons (pv 1) (pa_cons (pe_bltn (v := .ty "tuple") (by rfl) T.z_tuple (by decide +kernel) rfl) pa_nil))) (nomark _)))))
  (pss_one (ps_ret pe_bl))
  pss_nil)
  (pss_one (ps_ret (pe_and (pe_cmpR op_eq (pe_callB (call_len_seq) (by rfl) T.z_len (by decide +kernel) (pa_cons (pv 0) pa_nil)) (pe_callB (call_len_seq) (by rfl) T.z_len (by decide +kernel) (pa_cons (pv 1) pa_nil)) (nomark _)) (pe_one (pe_callB (cr_all rfl) (by rfl) T.z_all (by decide +kernel) (pa_cons (pe_lc (g := gTup K 2 (gCons (gName 2) (gCons (gName 3) gNil))) (tt := tYes) (own := [("_law_a", 2), ("_law_b", 3)]) rfl sc_law_same.nd (RZ.pi_zipA (by rfl) T.z_zip (pa_cons (pv 0) (pa_cons (pv 1) pa_nil))) (blkOk_by (own := [("_law_a", 2), ("_law_b", 3)]) (N := ["_law_found", "_law_due", "_law_a", "_law_b"]) (sc := defScope s_law_same) (by decide +kernel))
   (fun _ _ _ _ _ => pg_tup (by rfl) (pgs_cons (pg_name (i := 2) sc_law_same.nd rfl (Or.inl rfl)) (pgs_cons (pg_name (i := 3) sc_law_same.nd rfl (Or.inl rfl)) pgs_nil))) (fun _ _ _ _ _ => pts_nil) (fun _ _ _ _ _ => (pe_call REC hrR rfl T.law_same_m T.law_same_F.kp T.law_same_b .nil pass0 (pa_cons (pv 2) (pa_cons (pv 3) pa_nil))))) pa_nil)))))))
  pss_nil)
  (pss_cons (ps_if (pt_val (pe_callB call_isi (by rfl) T.z_isinstance (by decide +kernel) (pa_cons (pv 1) (pa_cons (pe_bltn (v := .ty "int") (by rfl) T.z_int (by decide +kernel) rfl) pa_nil))))
  (pss_one (ps_ret (pe_and (pe_callB call_isi (by rfl) T.z_isinstance (by decide +kernel) (pa_cons (pv 0) (pa_cons (pe_bltn (v := .ty "int") (by rfl) T.z_int (by decide +kernel) rfl) pa_nil))) (pe_and (pe_cmpR op_eq (pe_callB call_isi (by rfl) T.z_isinstance (by decide +kernel) (pa_cons (pv 0) (pa_cons (pe_bltn (v := .ty "bool") (by rfl) T.z_bool (by decide +kernel) rfl) pa_nil))) (pe_callB call_isi (by rfl) T.z_isinstance (by decide +kernel) (pa_cons (pv 1) (pa_cons (pe_bltn (v := .ty "bool") (by rfl) T.z_bool (by decide +kernel) rfl) pa_nil))) (nomark _)) (pe_one (pe_cmpR op_eq (pv 0) (pv 1) (nomark _)))))))
  pss_nil)
  (pss_one (ps_ret (pe_and (pe_cmpR op_isBl (pe_callB call_isiT (by rfl) T.z_isinstance (by decide +kernel) (pa_cons (pv 0) (pa_cons (pe_tup (pa_cons (pe_bltn (v := .ty "bool") (by rfl) T.z_bool (by decide +kernel) rfl) (pa_cons (pe_bltn (v := .ty "int") (by rfl) T.z_int (by decide +kernel) rfl) (pa_cons (pe_bltn (v := .ty "list") (by rfl) T.z_list (by decide +kernel) rfl) (pa_cons (pe_bltn (v := .ty "tuple") (by rfl) T.z_tuple (by decide +kernel) rfl) pa_nil))))) pa_nil))) pe_bl (nomark _)) (pe_one (pe_cmpR op_eq (pv 0) (pv 1) (nomark _)))))))), ?_⟩
    refine ⟨_, rfl, (by show 2 ≤ sizeLine; decide), fun t nt => ?_⟩
    have s1 := same_upd (o := .tup [.ty "list", .ty "tuple"]) nt
    have hu1 := hu.same s1
    refine ⟨_, _, _, _, _, _, rfl, upd_same, .cons (.ty "list") (.cons (.ty "tuple") .nil), hu1.tx T, kitLT T d, _, rfl, ?_⟩
    rw [a, b]
    refine iteF ?_
    refine ⟨_, rfl, _, _, _, _, _, rfl, .ty "int", hu1.tx T, kitI T d, _, rfl, ?_⟩
    have hv1 := hv.same s1
    obtain ⟨e1, e2⟩ := leaf_eq hv hu a b c
    cases hi : d.isI with
    | true =>
      refine iteT ?_
      refine ⟨_, rfl, _, _, _, _, _, rfl, .ty "int", hv1.tx T, kitI T d, _, rfl, ?_⟩
      rw [hi]
      refine iteT ?_
      refine ⟨_, rfl, _, _, _, _, _, rfl, .ty "bool", hv1.tx T, kitB' T d, _, rfl, _, _, _, _, _, rfl, .ty "bool", hu1.tx T, kitB' T d, rfl, _, rfl, ?_⟩
      rw [decide_eq_true rfl]
      refine iteT ?_
      refine ⟨_, rfl, _, rfl, e2, ?_⟩
      rw [decide_eq_true e1]
      exact k _ s1
    | false =>
      refine iteF ?_
      refine ⟨_, rfl, (by show 4 ≤ sizeLine; decide), fun t' nt' => ?_⟩
      have s2 := same_upd (o := .tup [.ty "bool", .ty "int", .ty "list", .ty "tuple"]) nt'
      refine ⟨_, _, _, _, _, _, rfl, upd_same, .cons (.ty "bool") (.cons (.ty "int") (.cons (.ty "list") (.cons (.ty "tuple") .nil))), (hv1.same s2).tx T, kitBILT T d, ?_⟩
      have hb : d.isB = false := by cases d <;> first | rfl | cases hi
      rw [a, b, hi, hb]
      refine ⟨_, _, rfl, rfl, _, rfl, ?_⟩
      rw [decide_eq_true (show (false || false || false || false) = false from rfl)]
      refine iteT ?_
      refine ⟨_, rfl, _, rfl, e2, ?_⟩
      rw [decide_eq_true e1]
      exact k _ (s1.trans s2)
/-- two things told alike, n deep at most -/
def spTold (C : Addr) (n : Nat) : Sp := fun vs H Q _ => ∃ v u d, vs = [v, u] ∧ DtAt C H v d ∧ DtAt C H u d ∧ d.dep n ∧ ∀ H', Same H H' → Q (.bl true) H'
def spToldR (C : Addr) : Nat → Sp
  | 0 => fun _ _ _ _ => False
  | n + 1 => spTold C n
theorem all_true : ∀ n : Nat, (List.replicate n true).all id = true
  | 0 => rfl
  | n + 1 => by rw [List.replicate_succ]; exact all_true n
theorem bls_snoc (n : Nat) : (List.replicate n true).map V.bl ++ [V.bl true] = (List.replicate (n + 1) true).map V.bl := by
  rw [List.replicate_succ', List.map_append]
  rfl
theorem ok_law_is_told (T : Tx K mg) : ∀ n : Nat, FnOk P w K mg base CX0 (2 + n) T.law_is_told_a T.law_is_told_d ["_law_x", "_law_due"] (spTold T.Exact_a n) := by
  intro n
  have REC : FnOk P w K mg base CX0 (1 + n) T.law_is_told_a T.law_is_told_d ["_law_x", "_law_due"] (spToldR T.Exact_a n) := by
    cases n with
    | zero => exact fn_false
    | succ n => exact (ok_law_is_told T n).mono (by omega)
  refine (T.law_is_told_F.ok (k := 1 + n) sc_law_is_told (fun vs H Q E h => ?_) (fun cdv A outer s H vs Q E hr h => ?_)).mono (by omega)
  · obtain ⟨v, u, d, rfl, _⟩ := h
    rfl
  · obtain ⟨v, u, d, rfl, hv, hu, hd, k⟩ := h
    have hrR := hr
    replace hr := hr.mono (Nat.le_add_right _ _)
    refine ⟨_, (pss_cons (ps_if (pt_val (pe_callB call_isiT (by rfl) T.z_isinstance (by decide +kernel) (pa_cons (pv 1) (pa_cons (pe_tup (pa_cons (pe_bltn (v := .ty "list") (by rfl) T.z_list (by decide +kernel) rfl) (pa_cons (pe_bltn (v := .ty "tuple") (by rfl) T.z_tuple (by decide +kernel) rfl) pa_nil))) pa_nil))))
  (pss_cons (ps_if (PW.pt (pw_or (pt_cmpR op_ne (pe_callB call_isi (by rfl) T.z_isinstance (by decide +kernel) (pa_cons (pv 0) (pa_cons (pe_bltn (v := .ty "list") (by rfl) T.z_list (by decide +kernel) rfl) pa_nil))) (pe_callB call_isi (by rfl) T.z_isinstance (by decide +kernel) (pa_cons (pv 1) (pa_cons (pe_bltn (v := .ty "list") (by rfl) T.z_list (by decide +kernel) rfl) pa_nil))) (nomark _)) (pw_or1 (pt_cmpR op_ne (pe_callB call_isi (by rfl) T.z_isinstance (by decide +kernel) (pa_cons (pv 0) (pa_cons (pe_bltn (v := .ty "tuple") (by rfl) T.z_tuple (by decide +kernel) rfl) pa_nil))) (pe_callB call_isi (by rfl) T.z_isinstance (by decide +kernel) (pa_cons (pv 1) (pa_cons (pe_bltn (v := .ty "tuple") (by rfl) T.z_tuple (by decide +kernel) rfl) pa_nil))) (nomark _)))))
  (pss_one (ps_ret pe_bl))
  pss_nil)
  (pss_one (ps_ret (pe_and (pe_cmpR op_eq (pe_callB (call_len_seq) (by rfl) T.z_len (by decide +kernel) (pa_cons (pv 0) pa_nil)) (pe_callB (call_len_seq) (by rfl) T.z_len (by decide +kernel) (pa_cons (pv 1) pa_nil)) (nomark _)) (pe_one (pe_callB (cr_all rfl) (by rfl) T.z_all (by decide +kernel) (pa_cons (pe_lc (g := gTup K 2 (gCons (gName 2) (gCons (gName 3) gNil))) (tt := tYes) (own := [("_law_a", 2), ("_law_b", 3)]) rfl sc_law_is_told.nd (RZ.pi_zipA (by rfl) T.z_zip (pa_cons (pv 0) (pa_cons (pv 1) pa_nil))) (blkOk_by (own := [("_law_a", 2), ("_law_b", 3)]) (N := ["_law_x", "_law_due", "_law_a", "_law_b"]) (sc := defScope s_law_is_told) (by decide +kernel))
   (fun _ _ _ _ _ => pg_tup (by rfl) (pgs_cons (pg_name (i := 2) sc_law_is_told.nd rfl (Or.inl rfl)) (pgs_cons (pg_name (i := 3) sc_law_is_told.nd rfl (Or.inl rfl)) pgs_nil))) (fun _ _ _ _ _ => pts_nil) (fun _ _ _ _ _ => (pe_call REC hrR rfl T.law_is_told_m T.law_is_told_F.kp T.law_is_told_b .nil pass0 (pa_cons (pv 2) (pa_cons (pv 3) pa_nil))))) pa_nil)))))))
  pss_nil)
  (pss_cons (ps_if (pt_val (pe_callB call_isi (by rfl) T.z_isinstance (by decide +kernel) (pa_cons (pv 1) (pa_cons (pe_glob (v := .ref T.Exact_a) rfl T.Exact_m rfl) pa_nil))))
  (pss_one (ps_ret (pe_and (pe_callB call_isi (by rfl) T.z_isinstance (by decide +kernel) (pa_cons (pv 0) (pa_cons (pe_glob (v := .ref T.Exact_a) rfl T.Exact_m rfl) pa_nil))) (pe_and (pe_cmpR op_eq (pe_fld (pv 0) rfl) (pe_fld (pv 1) rfl) (nomark _)) (pe_one (pe_cmpR op_eq (pe_fld (pv 0) rfl) (pe_fld (pv 1) rfl) (nomark _)))))))
  pss_nil)
  (pss_one (ps_ret (pe_call (ok_law_same T) (hr.mono (by decide)) rfl T.law_same_m T.law_same_F.kp T.law_same_b .nil pass0 (pa_cons (pv 0) (pa_cons (pv 1) pa_nil))))))), ?_⟩
    refine ⟨_, rfl, (by show 2 ≤ sizeLine; decide), fun t nt => ?_⟩
    have s1 := same_upd (o := .tup [.ty "list", .ty "tuple"]) nt
    have hu1 := hu.same s1
    have hv1 := hv.same s1
    refine ⟨_, _, _, _, _, _, rfl, upd_same, .cons (.ty "list") (.cons (.ty "tuple") .nil), hu1.tx T, kitLT T d, _, rfl, ?_⟩
    generalize upd H t (HO.tup [V.ty "list", V.ty "tuple"]) = H1 at s1 hu1 hv1 ⊢
    cases hv with
    | non =>
      refine iteF ?_
      refine ⟨_, rfl, _, _, _, _, _, rfl, .own _, hu1.tx T, kitE T _, _, rfl, ?_⟩
      refine iteF ?_
      exact ⟨_, rfl, _, rfl, _, _, _, rfl, hv1, hu1, rfl, rfl, rfl, fun H' e => k _ (s1.trans e)⟩
    | bl x =>
      refine iteF ?_
      refine ⟨_, rfl, _, _, _, _, _, rfl, .own _, hu1.tx T, kitE T _, _, rfl, ?_⟩
      refine iteF ?_
      exact ⟨_, rfl, _, rfl, _, _, _, rfl, hv1, hu1, rfl, rfl, rfl, fun H' e => k _ (s1.trans e)⟩
    | int x =>
      refine iteF ?_
      refine ⟨_, rfl, _, _, _, _, _, rfl, .own _, hu1.tx T, kitE T _, _, rfl, ?_⟩
      refine iteF ?_
      exact ⟨_, rfl, _, rfl, _, _, _, rfl, hv1, hu1, rfl, rfl, rfl, fun H' e => k _ (s1.trans e)⟩
    | str x =>
      refine iteF ?_
      refine ⟨_, rfl, _, _, _, _, _, rfl, .own _, hu1.tx T, kitE T _, _, rfl, ?_⟩
      refine iteF ?_
      exact ⟨_, rfl, _, rfl, _, _, _, rfl, hv1, hu1, rfl, rfl, rfl, fun H' e => k _ (s1.trans e)⟩
    | @ex _ p h =>
      refine iteF ?_
      refine ⟨_, rfl, _, _, _, _, _, rfl, .own _, hu1.tx T, kitE T (.ex p), _, rfl, ?_⟩
      refine iteT ?_
      refine ⟨_, rfl, _, _, _, _, _, rfl, .own _, hv1.tx T, kitE T (.ex p), _, rfl, ?_⟩
      refine iteT ?_
      cases hu1 with
      | ex hu2 =>
        obtain ⟨y, dy, rfl, hy⟩ := hu2
        obtain ⟨x, dx, rfl, hx⟩ := h.same s1
        refine ⟨_, rfl, x, _, dx, _, _, rfl, hx, T.Exact_cl, T.Exact_n_over, fl_over, _, rfl, y, _, dy, _, _, rfl, hy, T.Exact_cl, T.Exact_n_over, fl_over, rfl, _, rfl, ?_⟩
        rw [decide_eq_true rfl]
        refine iteT ?_
        refine ⟨_, rfl, x, _, dx, _, _, rfl, hx, T.Exact_cl, T.Exact_n_under, fl_under, _, rfl, y, _, dy, _, _, rfl, hy, T.Exact_cl, T.Exact_n_under, fl_under, rfl, ?_⟩
        rw [decide_eq_true rfl]
        exact k _ s1
    | @lst a xs ds ha zx dv =>
      cases hu with
      | @lst b ys _ hb zy du =>
        refine iteT ?_
        refine ⟨_, rfl, _, _, _, _, _, rfl, .ty "list", hv1.tx T, kitL T _, _, rfl, _, _, _, _, _, rfl, .ty "list", hu1.tx T, kitL T _, rfl, _, rfl, ?_⟩
        rw [decide_eq_true rfl]
        refine iteF ?_
        refine ⟨_, rfl, _, _, _, _, _, rfl, .ty "tuple", hv1.tx T, kitT T _, _, rfl, _, _, _, _, _, rfl, .ty "tuple", hu1.tx T, kitT T _, rfl, _, rfl, ?_⟩
        rw [decide_eq_true rfl]
        refine iteF ?_
        have el : xs.length = ys.length := dv.len.trans du.len.symm
        have ha1 := s1 _ _ ha
        have hb1 := s1 _ _ hb
        refine ⟨_, rfl, a, xs, rfl, .inl (.inl (.inl ha1)), _, rfl, b, ys, rfl, .inl (.inl (.inl hb1)), rfl, _, rfl, ?_⟩
        rw [decide_eq_true (congrArg (fun n : Nat => V.int (n : Int)) el)]
        refine iteT ?_
        refine ⟨_, rfl, _, rfl, a, b, xs, ys, rfl, .inl ⟨.inl (.inl ha1), .inl (.inl hb1), fun D nD => lc_it (walk_zip (K := K) (a := a) (b := b) (xs := xs) (ys := ys) rfl) (fun i H2 => Same H H2 ∧ Same H1 H2 ∧ H2 D = some (.lst ((List.replicate i true).map V.bl)))
          ⟨s1.trans (same_upd nD), same_upd nD, upd_same⟩ (fun i H2 _ e => ⟨.inl (.inl (e.2.1 _ _ ha1)), .inl (.inl (e.2.1 _ _ hb1))⟩) ?_ ?_⟩⟩
        · rintro i x H2 H3 hi ⟨e1, e2, eD⟩ ⟨Tp, x1, y1, rfl, nT, rfl, hx1, hy1⟩
          refine ⟨Tp, _, rfl, .inl (.inl upd_same), rfl, _, _, rfl, _, _, rfl, rfl, rfl, yes_of ?_⟩
          obtain ⟨dd, hdd, r1⟩ := dv.at hx1
          obtain ⟨de, hde, r2⟩ := du.at hy1
          rw [hdd] at hde
          cases hde
          have e3 := e1.trans (same_upd (o := .tup [x1, y1]) nT)
          refine ⟨_, rfl, _, rfl, ?_⟩
          cases n with
          | zero => exact hd.elim
          | succ n =>
            refine ⟨_, _, dd, rfl, r1.same e3, r2.same e3, hd dd (List.mem_of_getElem? hdd), fun H4 e4 => ⟨_, e4 D _ (by rw [upd_ne (ne_of_none eD nT)]; exact eD), ?_, ?_⟩⟩
            · rw [List.length_map, List.length_replicate]
              exact small1000 (by omega)
            · have nDH : H D = none := s1.free nD
              exact ⟨fun c o e => by rw [upd_ne (ne_of_none e nDH)]; exact e4 _ _ (e3 _ _ e), fun c o e => by rw [upd_ne (ne_of_none e nD)]; exact e4 _ _ (same_upd nT _ _ (e2 _ _ e)), by rw [upd_same, bls_snoc]⟩
        · rintro H2 ⟨e1, e2, eD⟩
          refine ⟨D, _, rfl, .inl (.inl eD), ?_⟩
          rw [all_true]
          exact k _ e1
    | @tup a xs ds ha zx dv =>
      cases hu with
      | @tup b ys _ hb zy du =>
        refine iteT ?_
        refine ⟨_, rfl, _, _, _, _, _, rfl, .ty "list", hv1.tx T, kitL T _, _, rfl, _, _, _, _, _, rfl, .ty "list", hu1.tx T, kitL T _, rfl, _, rfl, ?_⟩
        rw [decide_eq_true rfl]
        refine iteF ?_
        refine ⟨_, rfl, _, _, _, _, _, rfl, .ty "tuple", hv1.tx T, kitT T _, _, rfl, _, _, _, _, _, rfl, .ty "tuple", hu1.tx T, kitT T _, rfl, _, rfl, ?_⟩
        rw [decide_eq_true rfl]
        refine iteF ?_
        have el : xs.length = ys.length := dv.len.trans du.len.symm
        have ha1 := s1 _ _ ha
        have hb1 := s1 _ _ hb
        refine ⟨_, rfl, a, xs, rfl, .inr (.inl (.inl ha1)), _, rfl, b, ys, rfl, .inr (.inl (.inl hb1)), rfl, _, rfl, ?_⟩
        rw [decide_eq_true (congrArg (fun n : Nat => V.int (n : Int)) el)]
        refine iteT ?_
        refine ⟨_, rfl, _, rfl, a, b, xs, ys, rfl, .inr ⟨.inl (.inl ha1), .inl (.inl hb1), fun D nD => lc_it (walk_zipT (K := K) (a := a) (b := b) (xs := xs) (ys := ys) rfl) (fun i H2 => Same H H2 ∧ Same H1 H2 ∧ H2 D = some (.lst ((List.replicate i true).map V.bl)))
          ⟨s1.trans (same_upd nD), same_upd nD, upd_same⟩ (fun i H2 _ e => ⟨.inl (.inl (e.2.1 _ _ ha1)), .inl (.inl (e.2.1 _ _ hb1))⟩) ?_ ?_⟩⟩
        · rintro i x H2 H3 hi ⟨e1, e2, eD⟩ ⟨Tp, x1, y1, rfl, nT, rfl, hx1, hy1⟩
          refine ⟨Tp, _, rfl, .inl (.inl upd_same), rfl, _, _, rfl, _, _, rfl, rfl, rfl, yes_of ?_⟩
          obtain ⟨dd, hdd, r1⟩ := dv.at hx1
          obtain ⟨de, hde, r2⟩ := du.at hy1
          rw [hdd] at hde
          cases hde
          have e3 := e1.trans (same_upd (o := .tup [x1, y1]) nT)
          refine ⟨_, rfl, _, rfl, ?_⟩
          cases n with
          | zero => exact hd.elim
          | succ n =>
            refine ⟨_, _, dd, rfl, r1.same e3, r2.same e3, hd dd (List.mem_of_getElem? hdd), fun H4 e4 => ⟨_, e4 D _ (by rw [upd_ne (ne_of_none eD nT)]; exact eD), ?_, ?_⟩⟩
            · rw [List.length_map, List.length_replicate]
              exact small1000 (by omega)
            · have nDH : H D = none := s1.free nD
              exact ⟨fun c o e => by rw [upd_ne (ne_of_none e nDH)]; exact e4 _ _ (e3 _ _ e), fun c o e => by rw [upd_ne (ne_of_none e nD)]; exact e4 _ _ (same_upd nT _ _ (e2 _ _ e)), by rw [upd_same, bls_snoc]⟩
        · rintro H2 ⟨e1, e2, eD⟩
          refine ⟨D, _, rfl, .inl (.inl eD), ?_⟩
          rw [all_true]
          exact k _ e1
end



/-! ### pairs as data; what the operators give, told by both kinds of operands -/
def dp (p : Int × Int) : PyData := .tuple [.int p.1, .int p.2]
theorem dpPair {K : PySem.W.Frag} {H : Hp} {t : Addr} {p : Int × Int} (h : PairAt H t p) : Dp K H (.ref t) (dp p) := .tup (.inl (.inl h)) (.cons (.int _) (.cons (.int _) .nil))
theorem dp_shaped (p : Int × Int) : SeqAt.shaped (dp p) = true := rfl
theorem eqv_self {d : PyData} (h : SeqAt.shaped d = true) : PyData.eqv d d = true := SeqAt.eqv_refl d (SeqAt.canLay_of_shaped h)
theorem sqT_same {K : PySem.W.Frag} {H H' : Hp} {a : Addr} {xs : List V} (e : Same H H') (h : SqT K H a xs) : SqT K H' a xs := by
  rcases h with (h | ⟨o, h⟩) | h
  · exact .inl (.inl (e _ _ h))
  · exact .inl (.inr ⟨o, e _ _ h⟩)
  · exact .inr h
mutual
theorem dp_same {K : PySem.W.Frag} {H H' : Hp} (e : Same H H') : ∀ {v : V} {d : PyData}, Dp K H v d → Dp K H' v d
  | _, _, .non => .non
  | _, _, .bl b => .bl b
  | _, _, .int i => .int i
  | _, _, .str s => .str s
  | _, _, .lst h d => .lst (e.seq h) (dpAll_same e d)
  | _, _, .tup h d => .tup (sqT_same e h) (dpAll_same e d)
theorem dpAll_same {K : PySem.W.Frag} {H H' : Hp} (e : Same H H') : ∀ {vs : List V} {ds : List PyData}, DpAll K H vs ds → DpAll K H' vs ds
  | _, _, .nil => .nil
  | _, _, .cons h t => .cons (dp_same e h) (dpAll_same e t)
end
theorem dpAll_snoc {K : PySem.W.Frag} {H : Hp} : ∀ {vs : List V} {ds : List PyData} {v : V} {d : PyData}, DpAll K H vs ds → Dp K H v d → DpAll K H (vs ++ [v]) (ds ++ [d])
  | _, _, _, _, .nil, h => .cons h .nil
  | _, _, _, _, .cons a t, h => .cons a (dpAll_snoc t h)
theorem dpAll_len {K : PySem.W.Frag} {H : Hp} : ∀ {vs : List V} {ds : List PyData}, DpAll K H vs ds → vs.length = ds.length
  | _, _, .nil => rfl
  | _, _, .cons _ t => congrArg (· + 1) (dpAll_len t)
section
variable {C : Addr} {H : Hp} {x y : V} {a b : Int × Int} {Q : VK} {E : XK}
theorem rd_xy {f : Int × Int → Int × Int → Int × Int} (hx : ExAt C H x a) (hy : NumAt C H y b) (na : Nm a) (nb : Nm b) (k : ∀ v' H', Same H H' → ExAt C H' v' (red (f a b).1 (f a b).2) → Q v' H') : rGyD C (spBin C f) E x y H Q := by
  obtain ⟨p, dx, rfl, hp⟩ := id hx
  refine ⟨p, dx, _, rfl, hp, ?_, _, _, a, b, rfl, hx, hy, na, nb, k⟩
  rcases hy.cases with ⟨rfl, _⟩ | ⟨q, dy, rfl, hq⟩
  · exact .inr ⟨_, rfl⟩
  · exact .inl ⟨q, dy, _, rfl, hq⟩
/-- the other way round: an Exact goes by its own method, an int by the other one's turned one -/
theorem rd_yx {f g h : Int × Int → Int × Int → Int × Int} (hx : ExAt C H x a) (hy : NumAt C H y b) (na : Nm a) (nb : Nm b) (e1 : f b a = h b a) (e2 : g a b = h b a) (k : ∀ v' H', Same H H' → ExAt C H' v' (red (h b a).1 (h b a).2) → Q v' H') :
    rGyD C (spBin C f) E y x H Q ∨ rGyR C (spBin C g) E y x H Q := by
  rcases hy.cases with ⟨rfl, h1⟩ | ⟨q, dy, rfl, hq⟩
  · obtain ⟨p, dx, rfl, hp⟩ := id hx
    exact .inr ⟨_, p, dx, _, rfl, rfl, hp, _, _, a, b, rfl, hx, hy, na, nb, by rw [e2]; exact k⟩
  · exact .inl (rd_xy ⟨q, dy, rfl, hq⟩ (.inr hx) nb na (by rw [e1]; exact k))
theorem rdop_neg {spn : Sp} (hs : spn = spNeg C) (hx : ExAt C H x a) (na : Nm a) (k : ∀ v' H', Same H H' → ExAt C H' v' (red (-a.1) a.2) → Q v' H') : rGyN C spn E x H Q := by
  subst hs
  obtain ⟨p, dx, rfl, hp⟩ := id hx
  exact ⟨p, dx, _, rfl, hp, _, a, rfl, hx, na, k⟩
end
theorem fAdd_c (a b : Int × Int) : fAdd b a = fAdd a b := by
  unfold fAdd
  rw [Int.add_comm, Int.mul_comm b.2 a.2]
theorem fMul_c (a b : Int × Int) : fMul b a = fMul a b := by
  unfold fMul
  rw [Int.mul_comm b.1 a.1, Int.mul_comm b.2 a.2]
theorem fRsub_c (a b : Int × Int) : fRsub a b = fSub b a := by
  unfold fRsub fSub
  rw [Int.mul_comm b.2 a.2]
theorem fAdd_neg (a b : Int × Int) : fAdd a (-b.1, b.2) = fSub a b := by
  show (a.1 * b.2 + -b.1 * a.2, a.2 * b.2) = (a.1 * b.2 - b.1 * a.2, a.2 * b.2)
  rw [Int.neg_mul, Int.sub_eq_add_neg]
theorem fMul_minus (a : Int × Int) : fMul (-1, 1) a = (-a.1, a.2) := by
  show (-1 * a.1, 1 * a.2) = (-a.1, a.2)
  rw [Int.one_mul, Int.neg_mul, Int.one_mul]
theorem nm_neg {a : Int × Int} (h : Nm a) : Nm (-a.1, a.2) := ⟨h.1, sz_neg h.2.1, h.2.2⟩
theorem nm_minus : Nm ((-1, 1) : Int × Int) := ⟨by decide, Nat.lt_of_lt_of_le (by decide : 1 < 2 ^ 2) (Nat.pow_le_pow_right (by decide) (by decide)), Nat.lt_of_lt_of_le (by decide : 1 < 2 ^ 2) (Nat.pow_le_pow_right (by decide) (by decide))⟩
inductive PrAll (H : Hp) : List V → List (Int × Int) → Prop
  | nil : PrAll H [] []
  | cons {t : Addr} {p : Int × Int} {vs : List V} {ps : List (Int × Int)} (h : PairAt H t p) (r : PrAll H vs ps) : PrAll H (.ref t :: vs) (p :: ps)
theorem PrAll.mono {H H' : Hp} (f : ∀ t p, PairAt H t p → PairAt H' t p) : ∀ {vs : List V} {ps : List (Int × Int)}, PrAll H vs ps → PrAll H' vs ps
  | _, _, .nil => .nil
  | _, _, .cons h r => .cons (f _ _ h) (r.mono f)
theorem PrAll.snoc {H : Hp} {t : Addr} {p : Int × Int} (h : PairAt H t p) : ∀ {vs : List V} {ps : List (Int × Int)}, PrAll H vs ps → PrAll H (vs ++ [.ref t]) (ps ++ [p])
  | _, _, .nil => .cons h .nil
  | _, _, .cons a r => .cons a (r.snoc h)
theorem PrAll.len {H : Hp} : ∀ {vs : List V} {ps : List (Int × Int)}, PrAll H vs ps → vs.length = ps.length
  | _, _, .nil => rfl
  | _, _, .cons _ r => congrArg (· + 1) r.len
theorem PrAll.dp {K : PySem.W.Frag} {H : Hp} : ∀ {vs : List V} {ps : List (Int × Int)}, PrAll H vs ps → DpAll K H vs (ps.map dp)
  | _, _, .nil => .nil
  | _, _, .cons h r => .cons (dpPair h) r.dp
/-- a pair stands where a list is written -/
theorem PairAt.upd {H : Hp} {t D : Addr} {p : Int × Int} {xs : List V} {o : HO} (h : PairAt H t p) (hD : H D = some (.lst xs)) : PairAt (upd H D o) t p := by
  have : t ≠ D := ne_of h hD (by intro z; cases z)
  show (L2.upd H D o) t = _
  rw [upd_ne this]
  exact h
/-- a told number as data -/
def dtT (p : Int × Int) : Dat := if p.2 = 1 then .int p.1 else .ex p
theorem ToldAt.dt {C : Addr} {H : Hp} {v : V} {p : Int × Int} (h : ToldAt C H v p) : DtAt C H v (dtT p) := by
  unfold dtT
  rcases h with ⟨h1, rfl⟩ | ⟨h1, h2⟩
  · rw [if_pos h1]
    exact .int _
  · rw [if_neg h1]
    exact .ex h2
theorem dtT_dep (p : Int × Int) : Dat.dep 0 (dtT p) := by
  unfold dtT
  split <;> trivial



section
variable {P : Program} {w : World} {K : PySem.W.Frag} {mg : Str → Option Value} {base : Heap}
def spLaw (K : PySem.W.Frag) : Sp := fun vs H Q _ => ∃ (a : Addr) (ns : List Int), vs = [.ref a] ∧ SqL K H a (ns.map V.int) ∧ ns.length ≤ 63 ∧ ∀ H', Q (.bl true) H'
theorem signs_at {v : V} (h : v ∈ ([.int 1, .int (-1), .int 3, .int (-7)] : List V)) : ∃ n : Int, v = .int n ∧ n ≠ 0 ∧ n.natAbs < 2 ^ 1000 := by
  have p : (8 : Nat) < 2 ^ 1000 := Nat.lt_of_lt_of_le (by decide : 8 < 2 ^ 4) (Nat.pow_le_pow_right (by decide) (by decide))
  simp only [List.mem_cons, List.not_mem_nil, or_false] at h
  rcases h with h | h | h | h <;> exact ⟨_, h, by decide, Nat.lt_of_le_of_lt (by decide) p⟩
theorem ok_law (T : Tx K mg) : FnOk P w K mg base CX0 9 T.law_a T.law_d ["_law_script"] (spLaw K) := by
  refine T.law_F.ok sc_law (fun vs H Q E h => ?_) (fun cdv A outer s H vs Q E hr h => ?_)
  · obtain ⟨a, ns, rfl, _⟩ := h
    rfl
  · obtain ⟨a0, ns, rfl, hS, hl, k⟩ := h
    refine ⟨_, (pss_cons (ps_set (i := 1) sc_law.nd rfl (Or.inl rfl) (pe_call (ok_law_fresh T) (hr.mono (by decide)) rfl T.law_fresh_m T.law_fresh_F.kp T.law_fresh_b .nil pass0 (pa_cons (pv 0) pa_nil)))
  (pss_cons (ps_for PassesOwn.never rfl (pi_range1 rfl T.z_range (pa_cons pe_int pa_nil)) (pg_name (i := 2) sc_law.nd rfl (Or.inl rfl))
  (pss_cons (ps_par (i := 3) (j := 4) (by rfl) sc_law.nd rfl rfl (by decide) rfl rfl (pa_cons (pe_call (ok_law_some_frac T) (hr.mono (by decide)) rfl T.law_some_frac_m T.law_some_frac_F.kp T.law_some_frac_b .nil pass0 (pa_cons (pv 1) pa_nil)) (pa_cons (pe_call (ok_law_some_frac T) (hr.mono (by decide)) rfl T.law_some_frac_m T.law_some_frac_F.kp T.law_some_frac_b .nil pass0 (pa_cons (pv 1) pa_nil)) pa_nil)) (by rfl))
  (pss_cons (ps_set (i := 5) sc_law.nd rfl (Or.inl rfl) (pe_call (ok_law_one T) (hr.mono (by decide)) rfl T.law_one_m T.law_one_F.kp T.law_one_b .nil pass0 (pa_cons (pv 1) (pa_cons (pe_lst (pa_cons pe_int (pa_cons (pe_un (un_neg) pe_int) (pa_cons pe_int (pa_cons (pe_un (un_neg) pe_int) pa_nil))))) pa_nil))))
  (pss_cons (ps_set (i := 6) sc_law.nd rfl (Or.inl rfl) (pe_make T.Exact_mk (ok_Exact_init T) (hr.mono (by decide)) rfl T.Exact_m T.Exact_init_b .nil pass0 (pa_cons (pe_op (op_mulG) (pe_ix ix_tup (pv 3) pe_int (fun _ _ => rfl)) (pv 5)) (pa_cons (pe_op (op_mulG) (pe_ix ix_tup (pv 3) pe_int (fun _ _ => rfl)) (pv 5)) pa_nil))))
  (pss_cons (ps_set (i := 7) sc_law.nd rfl (Or.inl rfl) (pe_call (ok_law_as_number T) (hr.mono (by decide)) rfl T.law_as_number_m T.law_as_number_F.kp T.law_as_number_b .nil pass0 (pa_cons (pv 1) (pa_cons (pv 4) pa_nil))))
  (pss_cons (ps_if (PW.pt (pw_or (pt_cmpR (op_neD hr.units) (pe_call (ok_law_as_exact T) (hr.mono (by decide)) rfl T.law_as_exact_m T.law_as_exact_F.kp T.law_as_exact_b .nil pass0 (pa_cons (pv 6) pa_nil)) (pv 3) (nomark _)) (pw_or1 (pt_cmpR (op_neD hr.units) (pe_call (ok_law_as_exact T) (hr.mono (by decide)) rfl T.law_as_exact_m T.law_as_exact_F.kp T.law_as_exact_b .nil pass0 (pa_cons (pe_make T.Exact_mk (ok_Exact_init T) (hr.mono (by decide)) rfl T.Exact_m T.Exact_init_b .nil pass0 (pa_cons (pe_ix ix_tup (pv 3) pe_int (fun _ _ => rfl)) (pa_cons (pe_ix ix_tup (pv 3) pe_int (fun _ _ => rfl)) pa_nil))) pa_nil)) (pv 3) (nomark _)))))
  (pss_one (ps_ret pe_bl))
  pss_nil)
  (pss_cons (ps_set (i := 8) sc_law.nd rfl (Or.inl rfl) (pe_lst (pa_cons (pe_op (op_gyD T.op_add (ok_Exact_add T) (hr.mono (by decide)) T.Exact_add_b pass0) (pv 6) (pv 7)) (pa_cons (pe_op ((op_gyD T.op_add (ok_Exact_add T) (hr.mono (by decide)) T.Exact_add_b pass0).or (op_gyRadd T.op_add (ok_Exact_radd T) (hr.mono (by decide)) T.Exact_radd_b pass0)) (pv 7) (pv 6)) (pa_cons (pe_op (op_gyD T.op_sub (ok_Exact_sub T) (hr.mono (by decide)) T.Exact_sub_b pass0) (pv 6) (pv 7)) (pa_cons (pe_op ((op_gyD T.op_sub (ok_Exact_sub T) (hr.mono (by decide)) T.Exact_sub_b pass0).or (op_gyRsub T.op_sub (ok_Exact_rsub T) (hr.mono (by decide)) T.Exact_rsub_b pass0)) (pv 7) (pv 6)) (pa_cons (pe_op (op_gyD T.op_mul (ok_Exact_mul T) (hr.mono (by decide)) T.Exact_mul_b pass0) (pv 6) (pv 7)) (pa_cons (pe_op ((op_gyD T.op_mul (ok_Exact_mul T) (hr.mono (by decide)) T.Exact_mul_b pass0).or (op_gyRmul T.op_mul (ok_Exact_rmul T) (hr.mono (by decide)) T.Exact_rmul_b pass0)) (pv 7) (pv 6)) (pa_cons (pe_un (un_gyN T.Exact_neg_M.at_ T.Exact_neg_M.fn (ok_Exact_neg T) (hr.mono (by decide)) T.Exact_neg_b pass0) (pv 6)) pa_nil)))))))))
  (pss_cons (ps_set (i := 9) sc_law.nd rfl (Or.inl rfl) (pe_tup (pa_cons (pe_un (un_neg) pe_int) (pa_cons pe_int pa_nil))))
  (pss_cons (ps_set (i := 10) sc_law.nd rfl (Or.inl rfl) (pe_lst (pa_cons (pe_call (ok_law_add T) (hr.mono (by decide)) rfl T.law_add_m T.law_add_F.kp T.law_add_b .nil pass0 (pa_cons (pv 3) (pa_cons (pv 4) pa_nil))) (pa_cons (pe_call (ok_law_add T) (hr.mono (by decide)) rfl T.law_add_m T.law_add_F.kp T.law_add_b .nil pass0 (pa_cons (pv 3) (pa_cons (pv 4) pa_nil))) (pa_cons (pe_call (ok_law_add T) (hr.mono (by decide)) rfl T.law_add_m T.law_add_F.kp T.law_add_b .nil pass0 (pa_cons (pv 3) (pa_cons (pe_call (ok_law_mul T) (hr.mono (by decide)) rfl T.law_mul_m T.law_mul_F.kp T.law_mul_b .nil pass0 (pa_cons (pv 9) (pa_cons (pv 4) pa_nil))) pa_nil))) (pa_cons (pe_call (ok_law_add T) (hr.mono (by decide)) rfl T.law_add_m T.law_add_F.kp T.law_add_b .nil pass0 (pa_cons (pv 4) (pa_cons (pe_call (ok_law_mul T) (hr.mono (by decide)) rfl T.law_mul_m T.law_mul_F.kp T.law_mul_b .nil pass0 (pa_cons (pv 9) (pa_cons (pv 3) pa_nil))) pa_nil))) pa_nil))))))
  (pss_cons (ps_set (i := 10) sc_law.nd rfl (Or.inl rfl) (pe_op (op_cat) (pv 10) (pe_lst (pa_cons (pe_call (ok_law_mul T) (hr.mono (by decide)) rfl T.law_mul_m T.law_mul_F.kp T.law_mul_b .nil pass0 (pa_cons (pv 3) (pa_cons (pv 4) pa_nil))) (pa_cons (pe_call (ok_law_mul T) (hr.mono (by decide)) rfl T.law_mul_m T.law_mul_F.kp T.law_mul_b .nil pass0 (pa_cons (pv 3) (pa_cons (pv 4) pa_nil))) (pa_cons (pe_call (ok_law_mul T) (hr.mono (by decide)) rfl T.law_mul_m T.law_mul_F.kp T.law_mul_b .nil pass0 (pa_cons (pv 9) (pa_cons (pv 3) pa_nil))) pa_nil))))))
  (pss_cons (ps_if (pt_cmpR (op_neD hr.units) (pe_lc (g := gName 12) (tt := tYes) (own := [("_law_one_here", 12)]) rfl sc_law.nd (pi_list (pv 8)) (blkOk_by (own := [("_law_one_here", 12)]) (N := ["_law_script", "_law_state", "_law_turn", "_law_a", "_law_b", "_law_sign", "_law_x", "_law_y", "_law_found", "_law_minus", "_law_due", "_law_told", "_law_one_here"]) (sc := defScope s_law) (by decide +kernel))
   (fun _ _ _ _ _ => pg_name (i := 12) sc_law.nd rfl (Or.inl rfl)) (fun _ _ _ _ _ => pts_nil) (fun _ _ _ _ _ => (pe_call (ok_law_as_exact T) (hr.mono (by decide)) rfl T.law_as_exact_m T.law_as_exact_F.kp T.law_as_exact_b .nil pass0 (pa_cons (pv 12) pa_nil)))) (pv 10) (nomark _))
  (pss_one (ps_ret pe_bl))
  pss_nil)
  (pss_cons (ps_if (PW.pt (pw_and (pt_cmpR op_ne (pe_ix ix_tup (pv 4) pe_int (fun _ _ => rfl)) pe_int (nomark _)) (pw_and1 (pt_cmpR (op_neD hr.units) (pe_call (ok_law_as_exact T) (hr.mono (by decide)) rfl T.law_as_exact_m T.law_as_exact_F.kp T.law_as_exact_b .nil pass0 (pa_cons (pe_meth (pv 6) T.Exact_cl T.Exact_by_M (ok_Exact_by T) (hr.mono (by decide)) T.Exact_by_b .nil pass0 (pa_cons (pv 7) pa_nil)) pa_nil)) (pe_call (ok_law_mul T) (hr.mono (by decide)) rfl T.law_mul_m T.law_mul_F.kp T.law_mul_b .nil pass0 (pa_cons (pv 3) (pa_cons (pe_tup (pa_cons (pe_ix ix_tup (pv 4) pe_int (fun _ _ => rfl)) (pa_cons (pe_ix ix_tup (pv 4) pe_int (fun _ _ => rfl)) pa_nil))) pa_nil))) (nomark _)))))
  (pss_one (ps_ret pe_bl))
  pss_nil)
  (pss_cons (ps_set (i := 11) sc_law.nd rfl (Or.inl rfl) (pe_lst (pa_cons (pe_call (ok_plain T) (hr.mono (by decide)) rfl T.plain_m T.plain_F.kp T.plain_b .nil pass0 (pa_cons (pv 6) pa_nil)) (pa_cons (pe_call (ok_plain T) (hr.mono (by decide)) rfl T.plain_m T.plain_F.kp T.plain_b .nil pass0 (pa_cons (pv 7) pa_nil)) (pa_cons (pe_call (ok_plain T) (hr.mono (by decide)) rfl T.plain_m T.plain_F.kp T.plain_b .nil pass0 (pa_cons (pe_make T.Exact_mk (ok_Exact_init T) (hr.mono (by decide)) rfl T.Exact_m T.Exact_init_bd2 (dvs := [.int 1]) T.Exact_init_v2 pass0 (pa_cons (pe_ix ix_tup (pv 4) pe_int (fun _ _ => rfl)) pa_nil)) pa_nil)) pa_nil)))))
  (pss_one (ps_if (pt_not (pt_val (pe_call (ok_law_is_told T 1) (hr.mono (by decide)) rfl T.law_is_told_m T.law_is_told_F.kp T.law_is_told_b .nil pass0 (pa_cons (pv 11) (pa_cons (pe_lst (pa_cons (pe_call (ok_law_plain T) (hr.mono (by decide)) rfl T.law_plain_m T.law_plain_F.kp T.law_plain_b .nil pass0 (pa_cons (pv 3) pa_nil)) (pa_cons (pe_call (ok_law_plain T) (hr.mono (by decide)) rfl T.law_plain_m T.law_plain_F.kp T.law_plain_b .nil pass0 (pa_cons (pv 4) pa_nil)) (pa_cons (pe_ix ix_tup (pv 4) pe_int (fun _ _ => rfl)) pa_nil)))) pa_nil)))))
  (pss_one (ps_ret pe_bl))
  pss_nil)))))))))))))))
  (pss_one (ps_ret pe_bl)))), ?_⟩
    refine ⟨_, rfl, a0, ns, rfl, hS, hl, fun st c H0 s0 hSt0 => ?_⟩
    refine ⟨8, rfl, by decide, by decide, for_range (n := 8) (fun i σ H1 => (∃ v2 v3 v4 v5 v6 v7 v8 v9 v10 v11 v12, σ = [some (.ref a0), some (.ref st), v2, v3, v4, v5, v6, v7, v8, v9, v10, v11, v12]) ∧ StAt H1 st c ns)
      ⟨⟨none, none, none, none, none, none, none, none, none, none, none, rfl⟩, hSt0⟩ ?_ (fun σ H1 _ => k H1)⟩
    rintro i σ H1 hi ⟨⟨v2, v3, v4, v5, v6, v7, v8, v9, v10, v11, v12, rfl⟩, hSt⟩
    -- a, b
    refine ⟨_, rfl, st, c, ns, rfl, hSt, hl, fun ta pa H2 s2 k2 ha ra da => ⟨_, rfl, st, c, ns, rfl, s2, hl, fun tb pb H3 s3 k3 hb rb db => ⟨_, _, rfl, ?_⟩⟩⟩
    have na := da.nm
    have nb := db.nm
    have ha := ha.keep k3 s2
    -- sign
    refine ⟨_, rfl, _, rfl, _, rfl, (by show 4 ≤ sizeLine; decide), fun l nl => ?_⟩
    obtain ⟨_, _, _, hL⟩ := id s3.1
    refine ⟨st, c, l, ns, _, rfl, s3.same (same_upd nl), hl, upd_same, (ne_of_none hL nl).symm, List.cons_ne_nil _ _, by show 4 ≤ 1000; decide, fun v H4 hv s4 k4 => ?_⟩
    obtain ⟨sg, rfl, sg0, sgz⟩ := signs_at hv
    have k4 : Keep st H3 H4 := Keep.trans (Same.keep (same_upd nl)) k4
    have ha := ha.keep k4 s3
    have hb := hb.keep k4 s3
    -- x
    refine ⟨_, rfl, ta, _, _, _, rfl, rfl, .inl (.inl ha), rfl, _, rfl, _, _, rfl, rfl, ok1000 na.2.1 sgz, _, rfl, ta, _, _, _, rfl, rfl, .inl (.inl ha), rfl, _, rfl, _, _, rfl, rfl, ok1000 na.2.2 sgz, ?_⟩
    refine fun x dx nx nd _ => mk_ex1 nx nd (Int.mul_ne_zero (Int.ne_of_gt na.1) sg0) (sz_up (sz_mul na.2.2 sgz) (by decide)) fun H5 s5 hx => ?_
    rw [red_scale ra sg0] at hx
    generalize V.ref x = x at hx ⊢
    have ha := ha.same s5
    have hb := hb.same s5
    have s4 := s4.same s5
    -- y
    refine ⟨_, rfl, _, rfl, st, c, tb, ns, pb, rfl, s4, hl, hb, rb, nb, fun y H6 s6 k6 hy => ?_⟩
    have hx := hx.keep k6 s4
    have ha := ha.keep k6 s4
    have hb := hb.keep k6 s4
    -- x as a pair is a; so is Exact(a[0], a[1])
    refine ⟨_, rfl, x, pa, rfl, hx, ra, fun t1 H7 s7 h7 => ⟨_, rfl, dp pa, dp pa, dpPair h7, dpPair (ha.same s7), rfl, rfl, _, rfl, ?_⟩⟩
    rw [eqv_self (dp_shaped pa)]
    refine iteF ?_
    have ha := ha.same s7
    have hb := hb.same s7
    have hx := hx.same s7
    have hy := hy.same s7
    have s6 := s6.same s7
    refine ⟨_, rfl, ta, _, _, _, rfl, rfl, .inl (.inl ha), rfl, _, rfl, ta, _, _, _, rfl, rfl, .inl (.inl ha), rfl, ?_⟩
    refine fun e de ne nde _ => mk_ex1 ne nde (Int.ne_of_gt na.1) (sz_up na.2.2 (by decide)) fun H8 s8 he => ?_
    rw [red_self ra] at he
    generalize V.ref e = e at he ⊢
    refine ⟨e, pa, rfl, he, ra, fun t2 H9 s9 h9 => ⟨_, rfl, dp pa, dp pa, dpPair h9, dpPair ((ha.same s8).same s9), rfl, rfl, _, rfl, ?_⟩⟩
    rw [eqv_self (dp_shaped pa)]
    refine iteF ?_
    have s89 := s8.trans s9
    have ha := ha.same s89
    have hb := hb.same s89
    have hx := hx.same s89
    have hy := hy.same s89
    have s6 := s6.same s89
    -- what is found
    refine ⟨_, rfl, _, rfl, rd_xy hx hy na nb fun f1 G1 g1 q1 => ?_⟩
    refine ⟨_, rfl, _, rfl, rd_yx (h := fAdd) (hx.same g1) (hy.same g1) na nb rfl (fAdd_c pb pa) fun f2 G2 g2 q2 => ?_⟩
    have g12 := g1.trans g2
    refine ⟨_, rfl, _, rfl, rd_xy (hx.same g12) (hy.same g12) na nb fun f3 G3 g3 q3 => ?_⟩
    have g13 := g12.trans g3
    refine ⟨_, rfl, _, rfl, rd_yx (h := fSub) (hx.same g13) (hy.same g13) na nb rfl (fRsub_c pa pb) fun f4 G4 g4 q4 => ?_⟩
    have g14 := g13.trans g4
    refine ⟨_, rfl, _, rfl, rd_xy (hx.same g14) (hy.same g14) na nb fun f5 G5 g5 q5 => ?_⟩
    have g15 := g14.trans g5
    refine ⟨_, rfl, _, rfl, rd_yx (h := fMul) (hx.same g15) (hy.same g15) na nb rfl (fMul_c pb pa) fun f6 G6 g6 q6 => ?_⟩
    have g16 := g15.trans g6
    refine ⟨_, rfl, rdop_neg rfl (hx.same g16) na fun f7 G7 g7 q7 => ?_⟩
    have g17 := g16.trans g7
    refine ⟨(by show 7 ≤ sizeLine; decide), fun lf nlf => ?_⟩
    rw [fAdd_c] at q2
    rw [fMul_c] at q6
    rw [red_neg ra] at q7
    have sF := same_upd (o := .lst [f1, f2, f3, f4, f5, f6, f7]) nlf
    have hF : (upd G7 lf (.lst [f1, f2, f3, f4, f5, f6, f7])) lf = some (.lst [f1, f2, f3, f4, f5, f6, f7]) := upd_same
    have hEx : ∀ v p, (v, p) ∈ [(f1, red (fAdd pa pb).1 (fAdd pa pb).2), (f2, red (fAdd pa pb).1 (fAdd pa pb).2), (f3, red (fSub pa pb).1 (fSub pa pb).2), (f4, red (fSub pb pa).1 (fSub pb pa).2), (f5, red (fMul pa pb).1 (fMul pa pb).2), (f6, red (fMul pa pb).1 (fMul pa pb).2), (f7, (-pa.1, pa.2))] →
        ExAt T.Exact_a (upd G7 lf (.lst [f1, f2, f3, f4, f5, f6, f7])) v p ∧ Rd p := by
      have ne : ∀ u v : Int × Int, Nm u → Nm v → u.2 * v.2 ≠ 0 := fun u v hu hv => Int.ne_of_gt (Int.mul_pos hu.1 hv.1)
      intro v p h
      simp only [List.mem_cons, List.not_mem_nil, or_false, Prod.mk.injEq] at h
      rcases h with ⟨rfl, rfl⟩ | ⟨rfl, rfl⟩ | ⟨rfl, rfl⟩ | ⟨rfl, rfl⟩ | ⟨rfl, rfl⟩ | ⟨rfl, rfl⟩ | ⟨rfl, rfl⟩
      · exact ⟨(((((((q1.same g2).same g3).same g4).same g5).same g6).same g7).same sF), red_rd (ne _ _ na nb)⟩
      · exact ⟨((((((q2.same g3).same g4).same g5).same g6).same g7).same sF), red_rd (ne _ _ na nb)⟩
      · exact ⟨(((((q3.same g4).same g5).same g6).same g7).same sF), red_rd (ne _ _ na nb)⟩
      · exact ⟨((((q4.same g5).same g6).same g7).same sF), red_rd (ne _ _ nb na)⟩
      · exact ⟨(((q5.same g6).same g7).same sF), red_rd (ne _ _ na nb)⟩
      · exact ⟨((q6.same g7).same sF), red_rd (ne _ _ na nb)⟩
      · exact ⟨(q7.same sF), rd_neg ra⟩
    have sA := (s89.trans g17).trans sF
    have sB := g17.trans sF
    have ha := ha.same sB
    have hb := hb.same sB
    have hx := hx.same sB
    have hy := hy.same sB
    have s6 := s6.same sB
    generalize upd G7 lf (.lst [f1, f2, f3, f4, f5, f6, f7]) = HF at hF hEx ha hb hx hy s6 ⊢
    clear q1 q2 q3 q4 q5 q6 q7 sA sB sF g1 g2 g3 g4 g5 g6 g7 g12 g13 g14 g15 g16 g17 nlf
    -- minus
    refine ⟨_, rfl, (by show 2 ≤ sizeLine; decide), fun tm ntm => ?_⟩
    have sM := same_upd (o := .tup [.int (-1), .int 1]) ntm
    have hm : PairAt (upd HF tm (.tup [.int (-1), .int 1])) tm (-1, 1) := upd_same
    have hF := sM _ _ hF
    have hEx : ∀ v p, _ → _ := fun v p h => (⟨(hEx v p h).1.same sM, (hEx v p h).2⟩ : ExAt T.Exact_a _ v p ∧ Rd p)
    have ha := ha.same sM
    have hb := hb.same sM
    have hx := hx.same sM
    have hy := hy.same sM
    have s6 := s6.same sM
    have nz : ∀ u v : Int × Int, Nm u → Nm v → u.2 * v.2 ≠ 0 := fun u v hu hv => Int.ne_of_gt (Int.mul_pos hu.1 hv.1)
    -- what is due
    refine ⟨_, rfl, _, rfl, ta, tb, pa, pb, rfl, ha, hb, na.2.1, na.2.2, nb.2.1, nb.2.2, nz _ _ na nb, fun d1 D1 g1 q1 => ?_⟩
    refine ⟨_, rfl, _, rfl, ta, tb, pa, pb, rfl, ha.same g1, hb.same g1, na.2.1, na.2.2, nb.2.1, nb.2.2, nz _ _ na nb, fun d2 D2 g2 q2 => ?_⟩
    have g12 := g1.trans g2
    refine ⟨_, rfl, _, rfl, _, rfl, tm, tb, (-1, 1), pb, rfl, hm.same g12, hb.same g12, nm_minus.2.1, nm_minus.2.2, nb.2.1, nb.2.2, nz _ _ nm_minus nb, fun mb D3 g3 hmb => ?_⟩
    rw [fMul_minus, red_neg rb] at hmb
    have g13 := g12.trans g3
    refine ⟨ta, mb, pa, (-pb.1, pb.2), rfl, ha.same g13, hmb, na.2.1, na.2.2, (nm_neg nb).2.1, nb.2.2, nz _ _ na (nm_neg nb), fun d3 D4 g4 q3 => ?_⟩
    rw [fAdd_neg] at q3
    have g14 := g13.trans g4
    refine ⟨_, rfl, _, rfl, _, rfl, tm, ta, (-1, 1), pa, rfl, hm.same g14, ha.same g14, nm_minus.2.1, nm_minus.2.2, na.2.1, na.2.2, nz _ _ nm_minus na, fun ma D5 g5 hma => ?_⟩
    rw [fMul_minus, red_neg ra] at hma
    have g15 := g14.trans g5
    refine ⟨tb, ma, pb, (-pa.1, pa.2), rfl, hb.same g15, hma, nb.2.1, nb.2.2, (nm_neg na).2.1, na.2.2, nz _ _ nb (nm_neg na), fun d4 D6 g6 q4 => ?_⟩
    rw [fAdd_neg] at q4
    have g16 := g15.trans g6
    refine ⟨(by show 4 ≤ sizeLine; decide), fun l1 nl1 => ?_⟩
    have sL1 := same_upd (o := .lst [.ref d1, .ref d2, .ref d3, .ref d4]) nl1
    have hL1 : (upd D6 l1 (.lst [.ref d1, .ref d2, .ref d3, .ref d4])) l1 = some (.lst [.ref d1, .ref d2, .ref d3, .ref d4]) := upd_same
    generalize upd D6 l1 (.lst [.ref d1, .ref d2, .ref d3, .ref d4]) = D7 at sL1 hL1 ⊢
    have g17 := g16.trans sL1
    -- due + [..]
    refine ⟨_, rfl, _, rfl, _, rfl, ta, tb, pa, pb, rfl, ha.same g17, hb.same g17, na.2.1, na.2.2, nb.2.1, nb.2.2, nz _ _ na nb, fun d5 D8 g8 q5 => ?_⟩
    have g18 := g17.trans g8
    refine ⟨_, rfl, _, rfl, ta, tb, pa, pb, rfl, ha.same g18, hb.same g18, na.2.1, na.2.2, nb.2.1, nb.2.2, nz _ _ na nb, fun d6 D9 g9 q6 => ?_⟩
    have g19 := g18.trans g9
    refine ⟨_, rfl, _, rfl, tm, ta, (-1, 1), pa, rfl, hm.same g19, ha.same g19, nm_minus.2.1, nm_minus.2.2, na.2.1, na.2.2, nz _ _ nm_minus na, fun d7 D10 g10 q7 => ?_⟩
    rw [fMul_minus, red_neg ra] at q7
    have g20 := g19.trans g10
    refine ⟨(by show 3 ≤ sizeLine; decide), fun l2 nl2 => ?_⟩
    have sL2 := same_upd (o := .lst [.ref d5, .ref d6, .ref d7]) nl2
    have hL2 : (upd D10 l2 (.lst [.ref d5, .ref d6, .ref d7])) l2 = some (.lst [.ref d5, .ref d6, .ref d7]) := upd_same
    generalize upd D10 l2 (.lst [.ref d5, .ref d6, .ref d7]) = D11 at sL2 hL2 ⊢
    have g21 := g20.trans sL2
    have g7_11 := (((g8.trans g9).trans g10).trans sL2)
    refine ⟨l1, l2, _, _, rfl, rfl, g7_11 _ _ hL1, hL2, (by show 7 ≤ sizeLine; decide), fun ld nld => ?_⟩
    rw [show (HO.lst ([V.ref d1, V.ref d2, V.ref d3, V.ref d4] ++ [V.ref d5, V.ref d6, V.ref d7])) = HO.lst [.ref d1, .ref d2, .ref d3, .ref d4, .ref d5, .ref d6, .ref d7] from rfl]
    have sL3 := same_upd (o := .lst [.ref d1, .ref d2, .ref d3, .ref d4, .ref d5, .ref d6, .ref d7]) nld
    have g22 := g21.trans sL3
    have e7 := g7_11.trans sL3
    have hDue : Dp K (upd D11 ld (.lst [.ref d1, .ref d2, .ref d3, .ref d4, .ref d5, .ref d6, .ref d7])) (.ref ld) (.list ([red (fAdd pa pb).1 (fAdd pa pb).2, red (fAdd pa pb).1 (fAdd pa pb).2, red (fSub pa pb).1 (fSub pa pb).2, red (fSub pb pa).1 (fSub pb pa).2, red (fMul pa pb).1 (fMul pa pb).2, red (fMul pa pb).1 (fMul pa pb).2, (-pa.1, pa.2)].map dp)) :=
      .lst (.inl (.inl upd_same)) (.cons (dpPair ((((((q1.same g2).same g3).same g4).same g5).same g6).same (sL1.trans e7))) (.cons (dpPair (((((q2.same g3).same g4).same g5).same g6).same (sL1.trans e7))) (.cons (dpPair (((q3.same g5).same g6).same (sL1.trans e7))) (.cons (dpPair (q4.same (sL1.trans e7)))
        (.cons (dpPair (q5.same (((g9.trans g10).trans sL2).trans sL3))) (.cons (dpPair (q6.same ((g10.trans sL2).trans sL3))) (.cons (dpPair (q7.same (sL2.trans sL3))) .nil)))))))
    have hF := g22 _ _ hF
    have hEx : ∀ v p, _ → _ := fun v p h => (⟨(hEx v p h).1.same g22, (hEx v p h).2⟩ : ExAt T.Exact_a _ v p ∧ Rd p)
    have ha := ha.same g22
    have hb := hb.same g22
    have hx := hx.same g22
    have hy := hy.same g22
    have s6 := s6.same g22
    generalize upd D11 ld (.lst [.ref d1, .ref d2, .ref d3, .ref d4, .ref d5, .ref d6, .ref d7]) = HD at hF hEx ha hb hx hy s6 hDue ⊢
    clear q1 q2 q3 q4 q5 q6 q7 g22 g21 g20 g19 g18 g17 g16 g15 g14 g13 g12 e7 sL1 sL2 sL3 hL1 hL2 hmb hma g1 g2 g3 g4 g5 g6 g8 g9 g10 g7_11 nl1 nl2 nld
    -- the found ones as pairs
    refine ⟨_, rfl, lf, rfl, ⟨_, .inl (.inl hF)⟩, fun Dl nD => lc_list (K := K) (a := lf) (xs := [f1, f2, f3, f4, f5, f6, f7]) (fun i H2 => ∃ acc, H2 Dl = some (.lst acc) ∧ PrAll H2 acc (([red (fAdd pa pb).1 (fAdd pa pb).2, red (fAdd pa pb).1 (fAdd pa pb).2, red (fSub pa pb).1 (fSub pa pb).2, red (fSub pb pa).1 (fSub pb pa).2, red (fMul pa pb).1 (fMul pa pb).2, red (fMul pa pb).1 (fMul pa pb).2, (-pa.1, pa.2)] : List (Int × Int)).take i) ∧ Same HD H2)
      ⟨[], upd_same, .nil, same_upd nD⟩ (fun i H2 _ ⟨_, _, _, e⟩ => .inl (.inl (e _ _ hF))) ?_ ?_⟩
    · rintro i' x' H2 hxi ⟨acc, hD, pr, e⟩
      obtain ⟨p, hp, hm'⟩ : ∃ p, ([red (fAdd pa pb).1 (fAdd pa pb).2, red (fAdd pa pb).1 (fAdd pa pb).2, red (fSub pa pb).1 (fSub pa pb).2, red (fSub pb pa).1 (fSub pb pa).2, red (fMul pa pb).1 (fMul pa pb).2, red (fMul pa pb).1 (fMul pa pb).2, (-pa.1, pa.2)] : List (Int × Int))[i']? = some p ∧ (x', p) ∈ [(f1, red (fAdd pa pb).1 (fAdd pa pb).2), (f2, red (fAdd pa pb).1 (fAdd pa pb).2), (f3, red (fSub pa pb).1 (fSub pa pb).2), (f4, red (fSub pb pa).1 (fSub pb pa).2), (f5, red (fMul pa pb).1 (fMul pa pb).2), (f6, red (fMul pa pb).1 (fMul pa pb).2), (f7, (-pa.1, pa.2))] := by
        match i', hxi with
        | 0, h => cases h; exact ⟨_, rfl, by simp⟩
        | 1, h => cases h; exact ⟨_, rfl, by simp⟩
        | 2, h => cases h; exact ⟨_, rfl, by simp⟩
        | 3, h => cases h; exact ⟨_, rfl, by simp⟩
        | 4, h => cases h; exact ⟨_, rfl, by simp⟩
        | 5, h => cases h; exact ⟨_, rfl, by simp⟩
        | 6, h => cases h; exact ⟨_, rfl, by simp⟩
      obtain ⟨q1, q2⟩ := hEx _ _ hm'
      refine ⟨rfl, yes_of ?_⟩
      refine ⟨_, rfl, x', p, rfl, q1.same e, q2, fun t H3 s3 h3 => ⟨acc, s3 _ _ hD, ?_, acc ++ [.ref t], upd_same, ?_, ?_⟩⟩
      · have hl7 := pr.len
        rw [List.length_take] at hl7
        refine small1000 ?_
        have : i' < 7 := (List.getElem?_eq_some_iff.mp hxi).1
        omega
      · rw [List.take_succ, hp]
        exact (PrAll.snoc (h3.upd (s3 _ _ hD)) (pr.mono fun t p z => (z.same s3).upd (s3 _ _ hD)))
      · exact fun b o z => by rw [upd_ne (ne_of_none z nD)]; exact s3 _ _ (e _ _ z)
    rintro HG ⟨acc, hD, pr, eG⟩
    replace pr : PrAll HG acc [red (fAdd pa pb).1 (fAdd pa pb).2, red (fAdd pa pb).1 (fAdd pa pb).2, red (fSub pa pb).1 (fSub pa pb).2, red (fSub pb pa).1 (fSub pb pa).2, red (fMul pa pb).1 (fMul pa pb).2, red (fMul pa pb).1 (fMul pa pb).2, (-pa.1, pa.2)] := pr
    refine ⟨_, rfl, .list (List.map dp [red (fAdd pa pb).1 (fAdd pa pb).2, red (fAdd pa pb).1 (fAdd pa pb).2, red (fSub pa pb).1 (fSub pa pb).2, red (fSub pb pa).1 (fSub pb pa).2, red (fMul pa pb).1 (fMul pa pb).2, red (fMul pa pb).1 (fMul pa pb).2, (-pa.1, pa.2)]), .list (List.map dp [red (fAdd pa pb).1 (fAdd pa pb).2, red (fAdd pa pb).1 (fAdd pa pb).2, red (fSub pa pb).1 (fSub pa pb).2, red (fSub pb pa).1 (fSub pb pa).2, red (fMul pa pb).1 (fMul pa pb).2, red (fMul pa pb).1 (fMul pa pb).2, (-pa.1, pa.2)]), .lst (.inl (.inl hD)) pr.dp, dp_same eG hDue, rfl, rfl, _, rfl, ?_⟩
    rw [eqv_self (d := .list (List.map dp [red (fAdd pa pb).1 (fAdd pa pb).2, red (fAdd pa pb).1 (fAdd pa pb).2, red (fSub pa pb).1 (fSub pa pb).2, red (fSub pb pa).1 (fSub pb pa).2, red (fMul pa pb).1 (fMul pa pb).2, red (fMul pa pb).1 (fMul pa pb).2, (-pa.1, pa.2)])) rfl]
    refine iteF ?_
    have ha := ha.same eG
    have hb := hb.same eG
    have hx := hx.same eG
    have hy := hy.same eG
    have s6 := s6.same eG
    clear hEx hDue hF hD pr
    -- the told ones, from any heap that is behind
    have last : ∀ HQ, Same HG HQ → tSeq (tAsg (tLst (tCons (tCall (spPlain T.Exact_a) [] E0 (tCons (tVar 6) tNil)) (tCons (tCall (spPlain T.Exact_a) [] E0 (tCons (tVar 7) tNil)) (tCons (tCall (spPlain T.Exact_a) [] E0 (tCons (tMake T.Exact_a (spExInit T.Exact_a) [.int 1] E0 (tCons (tOp (rIxT K) (tVar 4) (tC (.int 0))) tNil)) tNil)) tNil)))) (gName 11))
        (tIfS (tNot (tB (tCall (spTold T.Exact_a 1) [] E0 (tCons (tVar 11) (tCons (tLst (tCons (tCall (spLawPlain T.Exact_a) [] E0 (tCons (tVar 3) tNil)) (tCons (tCall (spLawPlain T.Exact_a) [] E0 (tCons (tVar 4) tNil)) (tCons (tOp (rIxT K) (tVar 4) (tC (.int 0))) tNil)))) tNil))))) (tRet (tC (.bl false))) tNext)
        { nx := fun σ H1 => (∃ v2 v3 v4 v5 v6 v7 v8 v9 v10 v11 v12, σ = [some (.ref a0), some (.ref st), v2, v3, v4, v5, v6, v7, v8, v9, v10, v11, v12]) ∧ StAt H1 st c ns, ct := fun σ H1 => (∃ v2 v3 v4 v5 v6 v7 v8 v9 v10 v11 v12, σ = [some (.ref a0), some (.ref st), v2, v3, v4, v5, v6, v7, v8, v9, v10, v11, v12]) ∧ StAt H1 st c ns, bk := fun _ H' => Q .non H', rt := Q }
        [some (.ref a0), some (.ref st), some (.int (0 + (i : Nat))), some (.ref ta), some (.ref tb), some (.int sg), some x, some y, some (.ref lf), some (.ref tm), some (.ref ld), v11, v12] HQ := by
      intro HQ sQ
      have ha := ha.same sQ
      have hb := hb.same sQ
      have hx := hx.same sQ
      have hy := hy.same sQ
      have s6 := s6.same sQ
      refine ⟨_, rfl, x, pa, rfl, .inr hx, ra, sz_up na.2.2 (by decide), fun u1 J1 g1 t1 => ⟨_, rfl, y, pb, rfl, hy.same g1, rb, sz_up nb.2.2 (by decide), fun u2 J2 g2 t2 => ?_⟩⟩
      have g12 := g1.trans g2
      refine ⟨_, rfl, tb, _, _, _, rfl, rfl, .inl (.inl (hb.same g12)), rfl, fun e de ne nde _ => mk_ex1 (A := pb.1) (B := 1) ne nde (by decide) (Nat.lt_of_lt_of_le (by decide : (1 : Int).natAbs < 2 ^ 2) (Nat.pow_le_pow_right (by decide) (by decide))) fun J3 g3 he => ?_⟩
      have re : red pb.1 1 = (pb.1, 1) := red_self (rd_int pb.1)
      rw [re] at he
      refine ⟨.ref e, (pb.1, 1), rfl, .inr he, rd_int _, Nat.lt_of_lt_of_le (by show (1 : Int).natAbs < 2 ^ 2; decide) (Nat.pow_le_pow_right (by decide) (by decide)), fun u3 J4 g4 t3 => ⟨(by show 3 ≤ sizeLine; decide), fun lt nlt => ?_⟩⟩
      have h3 : u3 = .int pb.1 := t3.elim (fun z => z.2) fun z => absurd rfl z.1
      subst h3
      have sL := same_upd (o := .lst [u1, u2, .int pb.1]) nlt
      have g14 := (g12.trans g3).trans g4
      have hL : (upd J4 lt (.lst [u1, u2, .int pb.1])) lt = some (.lst [u1, u2, .int pb.1]) := upd_same
      have w1 := t1.same (((g2.trans g3).trans g4).trans sL)
      have w2 := t2.same ((g3.trans g4).trans sL)
      have g15 := g14.trans sL
      generalize upd J4 lt (.lst [u1, u2, .int pb.1]) = J5 at hL w1 w2 g15 ⊢
      have ha := ha.same g15
      have hb := hb.same g15
      have s6 := s6.same g15
      refine ⟨_, rfl, _, rfl, ta, pa, rfl, ha, ra, sz_up na.2.2 (by decide), fun z1 J6 g6 y1 => ⟨_, rfl, tb, pb, rfl, hb.same g6, rb, sz_up nb.2.2 (by decide), fun z2 J7 g7 y2 => ?_⟩⟩
      have g67 := g6.trans g7
      refine ⟨_, rfl, tb, _, _, _, rfl, rfl, .inl (.inl (hb.same g67)), rfl, (by show 3 ≤ sizeLine; decide), fun lz nlz => ?_⟩
      have sZ := same_upd (o := .lst [z1, z2, .int pb.1]) nlz
      refine ⟨.ref lt, .ref lz, .lst [dtT pa, dtT pb, .int pb.1], rfl, .lst (sZ _ _ (g67 _ _ hL)) (by show 3 ≤ 1000; decide) (.cons (w1.same (g67.trans sZ)).dt (.cons (w2.same (g67.trans sZ)).dt (.cons (.int _) .nil))),
        .lst upd_same (by show 3 ≤ 1000; decide) (.cons (y1.same (g7.trans sZ)).dt (.cons (y2.same sZ).dt (.cons (.int _) .nil))), ?_, fun J8 g8 => ⟨_, rfl, ?_⟩⟩
      · intro d hd
        simp only [List.mem_cons, List.not_mem_nil, or_false] at hd
        rcases hd with rfl | rfl | rfl
        · exact dtT_dep _
        · exact dtT_dep _
        · trivial
      · exact iteF ⟨⟨_, _, _, _, _, _, _, _, _, _, _, rfl⟩, s6.same ((g67.trans sZ).trans g8)⟩
    -- the quotient
    refine ⟨_, rfl, tb, _, _, _, rfl, rfl, .inl (.inl hb), rfl, rfl, _, rfl, ?_⟩
    by_cases h0 : pb.1 = 0
    · rw [show (!decide (V.int pb.1 = V.int 0)) = false by simp [h0]]
      exact iteF (iteF (last HG (Same.refl _)))
    · rw [show (!decide (V.int pb.1 = V.int 0)) = true by simp [h0]]
      refine iteT ?_
      have ne : (fBy pa pb).2 ≠ 0 := Int.mul_ne_zero (Int.ne_of_gt na.1) h0
      obtain ⟨xa, xd, rfl, hxa⟩ := id hx
      refine ⟨_, rfl, xa, xd, _, rfl, hxa, fl_no (by decide +kernel) (by decide +kernel), _, rfl, _, y, pa, pb, rfl, hx, hy, na, nb, h0, fun v J1 g1 h1 => ⟨v, _, rfl, h1, red_rd ne, fun t J2 g2 h2 => ?_⟩⟩
      have g12 := g1.trans g2
      refine ⟨_, rfl, _, rfl, tb, _, _, _, rfl, rfl, .inl (.inl (hb.same g12)), rfl, _, rfl, tb, _, _, _, rfl, rfl, .inl (.inl (hb.same g12)), rfl, (by show 2 ≤ sizeLine; decide), fun tq ntq => ?_⟩
      have sq := same_upd (o := .tup [.int pb.2, .int pb.1]) ntq
      refine ⟨ta, tq, pa, (pb.2, pb.1), rfl, (ha.same g12).same sq, upd_same, na.2.1, na.2.2, nb.2.2, nb.2.1, ne, fun t5 J3 g3 h3 => ?_⟩
      refine ⟨dp _, dp _, dpPair ((h2.same sq).same g3), dpPair h3, rfl, rfl, _, rfl, ?_⟩
      rw [show PyData.eqv (dp (red (fBy pa pb).1 (fBy pa pb).2)) (dp (red (fMul pa (pb.2, pb.1)).1 (fMul pa (pb.2, pb.1)).2)) = true from eqv_self (dp_shaped _)]
      exact iteF (last J3 ((g12.trans sq).trans g3))
end


theorem all_mk {l : PySem.W.OpenLaw} {w : World} {K : PySem.W.Frag} {h : Heap} {mg : Str → Option Value} {fa : Addr} (X : K.In h) (G : h.Ns mainGlobals mg) (hfa : mg "law" = some (.ref fa))
    {Exact_a is_whole_a Exact_init_a Exact_add_a Exact_radd_a Exact_sub_a Exact_rsub_a Exact_mul_a Exact_rmul_a Exact_neg_a Exact_by_a divisor_a parts_a plain_a law_fresh_a law_fill_a law_take_a law_one_a law_same_a law_gcd_a law_frac_a law_add_a law_mul_a law_as_number_a law_plain_a law_is_told_a law_some_frac_a law_as_exact_a law_a : Addr}
    {od_is_whole an_is_whole od_Exact_init an_Exact_init od_Exact_add an_Exact_add od_Exact_radd an_Exact_radd od_Exact_sub an_Exact_sub od_Exact_rsub an_Exact_rsub od_Exact_mul an_Exact_mul od_Exact_rmul an_Exact_rmul od_Exact_neg an_Exact_neg od_Exact_by an_Exact_by od_divisor an_divisor od_parts an_parts od_plain an_plain od_law_fresh an_law_fresh od_law_fill an_law_fill od_law_take an_law_take od_law_one an_law_one od_law_same an_law_same od_law_gcd an_law_gcd od_law_frac an_law_frac od_law_add an_law_add od_law_mul an_law_mul od_law_as_number an_law_as_number od_law_plain an_law_plain od_law_is_told an_law_is_told od_law_some_frac an_law_some_frac od_law_as_exact an_law_as_exact od_law an_law : Option Addr}
    {sl_is_whole sl_Exact_init sl_Exact_add sl_Exact_radd sl_Exact_sub sl_Exact_rsub sl_Exact_mul sl_Exact_rmul sl_Exact_neg sl_Exact_by sl_divisor sl_parts sl_plain sl_law_fresh sl_law_fill sl_law_take sl_law_one sl_law_same sl_law_gcd sl_law_frac sl_law_add sl_law_mul sl_law_as_number sl_law_plain sl_law_is_told sl_law_some_frac sl_law_as_exact sl_law : Array (Option Value)}
    {oc_is_whole kV_is_whole dc_is_whole pm_is_whole cd_is_whole ct_is_whole oc_Exact_init kV_Exact_init dc_Exact_init pm_Exact_init cd_Exact_init ct_Exact_init oc_Exact_add kV_Exact_add dc_Exact_add pm_Exact_add cd_Exact_add ct_Exact_add oc_Exact_radd kV_Exact_radd dc_Exact_radd pm_Exact_radd cd_Exact_radd ct_Exact_radd oc_Exact_sub kV_Exact_sub dc_Exact_sub pm_Exact_sub cd_Exact_sub ct_Exact_sub oc_Exact_rsub kV_Exact_rsub dc_Exact_rsub pm_Exact_rsub cd_Exact_rsub ct_Exact_rsub oc_Exact_mul kV_Exact_mul dc_Exact_mul pm_Exact_mul cd_Exact_mul ct_Exact_mul oc_Exact_rmul kV_Exact_rmul dc_Exact_rmul pm_Exact_rmul cd_Exact_rmul ct_Exact_rmul oc_Exact_neg kV_Exact_neg dc_Exact_neg pm_Exact_neg cd_Exact_neg ct_Exact_neg oc_Exact_by kV_Exact_by dc_Exact_by pm_Exact_by cd_Exact_by ct_Exact_by oc_divisor kV_divisor dc_divisor pm_divisor cd_divisor ct_divisor oc_parts kV_parts dc_parts pm_parts cd_parts ct_parts oc_plain kV_plain dc_plain pm_plain cd_plain ct_plain oc_law_fresh kV_law_fresh dc_law_fresh pm_law_fresh cd_law_fresh ct_law_fresh oc_law_fill kV_law_fill dc_law_fill pm_law_fill cd_law_fill ct_law_fill oc_law_take kV_law_take dc_law_take pm_law_take cd_law_take ct_law_take oc_law_one kV_law_one dc_law_one pm_law_one cd_law_one ct_law_one oc_law_same kV_law_same dc_law_same pm_law_same cd_law_same ct_law_same oc_law_gcd kV_law_gcd dc_law_gcd pm_law_gcd cd_law_gcd ct_law_gcd oc_law_frac kV_law_frac dc_law_frac pm_law_frac cd_law_frac ct_law_frac oc_law_add kV_law_add dc_law_add pm_law_add cd_law_add ct_law_add oc_law_mul kV_law_mul dc_law_mul pm_law_mul cd_law_mul ct_law_mul oc_law_as_number kV_law_as_number dc_law_as_number pm_law_as_number cd_law_as_number ct_law_as_number oc_law_plain kV_law_plain dc_law_plain pm_law_plain cd_law_plain ct_law_plain oc_law_is_told kV_law_is_told dc_law_is_told pm_law_is_told cd_law_is_told ct_law_is_told oc_law_some_frac kV_law_some_frac dc_law_some_frac pm_law_some_frac cd_law_some_frac ct_law_some_frac oc_law_as_exact kV_law_as_exact dc_law_as_exact pm_law_as_exact cd_law_as_exact ct_law_as_exact oc_law kV_law dc_law pm_law cd_law ct_law : Value}
    {dT_Exact_init : Addr} {tc_Exact_init : Value} {td_Exact_init : Option Addr} {tn_Exact_init : Nat} {ts_Exact_init : Array (Option Value)} {tt_Exact_init_0 : Tok}
    {fo1_add fo2_add fo1_sub fo2_sub fo1_mul fo2_mul : Option Value}
    (g_Exact : PySem.W.nsIn K mainGlobals "Exact" = some (some (.ref Exact_a)))
    (pg_Exact : PySem.W.plainGet K Exact_a Str.empty = true)
    (hd_Exact : PySem.W.hasDictIn K Exact_a = true)
    (po_Exact : PySem.W.plainOver K Exact_a = true)
    (sa_Exact : PySem.W.findIn K (.ref Exact_a) "__setattr__" = some (some (.builtin "object.__setattr__")))
    (n_Exact_over : PySem.W.findIn K (.ref Exact_a) "over" = some none)
    (n_Exact_under : PySem.W.findIn K (.ref Exact_a) "under" = some none)
    (i1_Exact : PySem.W.findIn K (.ref Exact_a) "__class__" = some (some (.builtin "object.__class__")))
    (i2_Exact : PySem.W.specialIn K (.builtin "object.__class__") "__get__" = some (some (.builtin "getset_descriptor.__get__")))
    (i3_Exact : PySem.W.takesIn K (.builtin "object.__class__") = some true)
    (i4_Exact : PySem.W.mroIn K Exact_a (.type "object") = some true)
    (ic_Exact : PySem.W.isClsIn K Exact_a = true)
    (ty_Exact : PySem.W.typeIn K (.ref Exact_a) = some (.type "type"))
    (u_int_Exact : PySem.W.subIn K (.type "int") (.ref Exact_a) = some false)
    (d_int_Exact : PySem.W.subIn K (.ref Exact_a) (.type "int") = some false)
    (u_bool_Exact : PySem.W.subIn K (.type "bool") (.ref Exact_a) = some false)
    (d_bool_Exact : PySem.W.subIn K (.ref Exact_a) (.type "bool") = some false)
    (u_str_Exact : PySem.W.subIn K (.type "str") (.ref Exact_a) = some false)
    (u_list_Exact : PySem.W.subIn K (.type "list") (.ref Exact_a) = some false)
    (d_list_Exact : PySem.W.subIn K (.ref Exact_a) (.type "list") = some false)
    (u_tuple_Exact : PySem.W.subIn K (.type "tuple") (.ref Exact_a) = some false)
    (d_tuple_Exact : PySem.W.subIn K (.ref Exact_a) (.type "tuple") = some false)
    (u_NoneType_Exact : PySem.W.subIn K (.type "NoneType") (.ref Exact_a) = some false)
    (od_add : PySem.W.findIn K (.ref Exact_a) (PySem.dunder Operator.Add.info.2) = some (some (.ref Exact_add_a)))
    (or_add : PySem.W.findIn K (.ref Exact_a) (dunderR Operator.Add.info.2) = some (some (.ref Exact_radd_a)))
    (o1_add : PySem.W.findIn K (.type "int") (PySem.dunder Operator.Add.info.2) = some fo1_add)
    (o2_add : PySem.W.findIn K (.type "int") (dunderR Operator.Add.info.2) = some fo2_add)
    (osf_add : PySem.W.selfFirst K Exact_a = true)
    (oup_add : PySem.W.subIn K (.type "int") (.ref Exact_a) = some false)
    (odn_add : PySem.W.subIn K (.ref Exact_a) (.type "int") = some false)
    (od_sub : PySem.W.findIn K (.ref Exact_a) (PySem.dunder Operator.Sub.info.2) = some (some (.ref Exact_sub_a)))
    (or_sub : PySem.W.findIn K (.ref Exact_a) (dunderR Operator.Sub.info.2) = some (some (.ref Exact_rsub_a)))
    (o1_sub : PySem.W.findIn K (.type "int") (PySem.dunder Operator.Sub.info.2) = some fo1_sub)
    (o2_sub : PySem.W.findIn K (.type "int") (dunderR Operator.Sub.info.2) = some fo2_sub)
    (osf_sub : PySem.W.selfFirst K Exact_a = true)
    (oup_sub : PySem.W.subIn K (.type "int") (.ref Exact_a) = some false)
    (odn_sub : PySem.W.subIn K (.ref Exact_a) (.type "int") = some false)
    (od_mul : PySem.W.findIn K (.ref Exact_a) (PySem.dunder Operator.Mult.info.2) = some (some (.ref Exact_mul_a)))
    (or_mul : PySem.W.findIn K (.ref Exact_a) (dunderR Operator.Mult.info.2) = some (some (.ref Exact_rmul_a)))
    (o1_mul : PySem.W.findIn K (.type "int") (PySem.dunder Operator.Mult.info.2) = some fo1_mul)
    (o2_mul : PySem.W.findIn K (.type "int") (dunderR Operator.Mult.info.2) = some fo2_mul)
    (osf_mul : PySem.W.selfFirst K Exact_a = true)
    (oup_mul : PySem.W.subIn K (.type "int") (.ref Exact_a) = some false)
    (odn_mul : PySem.W.subIn K (.ref Exact_a) (.type "int") = some false)
    (g_is_whole : PySem.W.nsIn K mainGlobals "is_whole" = some (some (.ref is_whole_a)))
    (l_is_whole : K.lookup is_whole_a = some ⟨oc_is_whole, od_is_whole, .func (PySem.W.fnOf "is_whole" "is_whole" (defArgs s_is_whole) (defBody s_is_whole) (defScope s_is_whole) .none kV_is_whole dc_is_whole pm_is_whole an_is_whole cd_is_whole ct_is_whole), sl_is_whole⟩)
    (c_is_whole : PySem.W.codeIn K cd_is_whole "is_whole" = true)
    (k_is_whole : PySem.W.keepIn K (.ref is_whole_a) = true)
    (g_Exact_init : PySem.W.findIn K (.ref Exact_a) "__init__" = some (some (.ref Exact_init_a)))
    (i_Exact_init : PySem.W.isFn K (.ref Exact_init_a) = true)
    (l_Exact_init : K.lookup Exact_init_a = some ⟨oc_Exact_init, od_Exact_init, .func (PySem.W.fnOf "__init__" "Exact.__init__" (defArgs s_Exact_init) (defBody s_Exact_init) (defScope s_Exact_init) (.ref dT_Exact_init) kV_Exact_init dc_Exact_init pm_Exact_init an_Exact_init cd_Exact_init ct_Exact_init), sl_Exact_init⟩)
    (c_Exact_init : PySem.W.codeIn K cd_Exact_init "Exact.__init__" = true)
    (k_Exact_init : PySem.W.keepIn K (.ref Exact_init_a) = true)
    (t_Exact_init : K.lookup dT_Exact_init = some ⟨tc_Exact_init, td_Exact_init, .seq (List.toArray [Value.int 1 tt_Exact_init_0]) tn_Exact_init, ts_Exact_init⟩)
    (mk_Exact : PySem.W.makesIn K Exact_a = true)
    (kc_Exact : PySem.W.keepIn K (.ref Exact_a) = true)
    (g_Exact_add : PySem.W.findIn K (.ref Exact_a) "__add__" = some (some (.ref Exact_add_a)))
    (i_Exact_add : PySem.W.isFn K (.ref Exact_add_a) = true)
    (l_Exact_add : K.lookup Exact_add_a = some ⟨oc_Exact_add, od_Exact_add, .func (PySem.W.fnOf "__add__" "Exact.__add__" (defArgs s_Exact_add) (defBody s_Exact_add) (defScope s_Exact_add) .none kV_Exact_add dc_Exact_add pm_Exact_add an_Exact_add cd_Exact_add ct_Exact_add), sl_Exact_add⟩)
    (c_Exact_add : PySem.W.codeIn K cd_Exact_add "Exact.__add__" = true)
    (k_Exact_add : PySem.W.keepIn K (.ref Exact_add_a) = true)
    (g_Exact_radd : PySem.W.findIn K (.ref Exact_a) "__radd__" = some (some (.ref Exact_radd_a)))
    (i_Exact_radd : PySem.W.isFn K (.ref Exact_radd_a) = true)
    (l_Exact_radd : K.lookup Exact_radd_a = some ⟨oc_Exact_radd, od_Exact_radd, .func (PySem.W.fnOf "__radd__" "Exact.__radd__" (defArgs s_Exact_radd) (defBody s_Exact_radd) (defScope s_Exact_radd) .none kV_Exact_radd dc_Exact_radd pm_Exact_radd an_Exact_radd cd_Exact_radd ct_Exact_radd), sl_Exact_radd⟩)
    (c_Exact_radd : PySem.W.codeIn K cd_Exact_radd "Exact.__radd__" = true)
    (k_Exact_radd : PySem.W.keepIn K (.ref Exact_radd_a) = true)
    (g_Exact_sub : PySem.W.findIn K (.ref Exact_a) "__sub__" = some (some (.ref Exact_sub_a)))
    (i_Exact_sub : PySem.W.isFn K (.ref Exact_sub_a) = true)
    (l_Exact_sub : K.lookup Exact_sub_a = some ⟨oc_Exact_sub, od_Exact_sub, .func (PySem.W.fnOf "__sub__" "Exact.__sub__" (defArgs s_Exact_sub) (defBody s_Exact_sub) (defScope s_Exact_sub) .none kV_Exact_sub dc_Exact_sub pm_Exact_sub an_Exact_sub cd_Exact_sub ct_Exact_sub), sl_Exact_sub⟩)
    (c_Exact_sub : PySem.W.codeIn K cd_Exact_sub "Exact.__sub__" = true)
    (k_Exact_sub : PySem.W.keepIn K (.ref Exact_sub_a) = true)
    (g_Exact_rsub : PySem.W.findIn K (.ref Exact_a) "__rsub__" = some (some (.ref Exact_rsub_a)))
    (i_Exact_rsub : PySem.W.isFn K (.ref Exact_rsub_a) = true)
    (l_Exact_rsub : K.lookup Exact_rsub_a = some ⟨oc_Exact_rsub, od_Exact_rsub, .func (PySem.W.fnOf "__rsub__" "Exact.__rsub__" (defArgs s_Exact_rsub) (defBody s_Exact_rsub) (defScope s_Exact_rsub) .none kV_Exact_rsub dc_Exact_rsub pm_Exact_rsub an_Exact_rsub cd_Exact_rsub ct_Exact_rsub), sl_Exact_rsub⟩)
    (c_Exact_rsub : PySem.W.codeIn K cd_Exact_rsub "Exact.__rsub__" = true)
    (k_Exact_rsub : PySem.W.keepIn K (.ref Exact_rsub_a) = true)
    (g_Exact_mul : PySem.W.findIn K (.ref Exact_a) "__mul__" = some (some (.ref Exact_mul_a)))
    (i_Exact_mul : PySem.W.isFn K (.ref Exact_mul_a) = true)
    (l_Exact_mul : K.lookup Exact_mul_a = some ⟨oc_Exact_mul, od_Exact_mul, .func (PySem.W.fnOf "__mul__" "Exact.__mul__" (defArgs s_Exact_mul) (defBody s_Exact_mul) (defScope s_Exact_mul) .none kV_Exact_mul dc_Exact_mul pm_Exact_mul an_Exact_mul cd_Exact_mul ct_Exact_mul), sl_Exact_mul⟩)
    (c_Exact_mul : PySem.W.codeIn K cd_Exact_mul "Exact.__mul__" = true)
    (k_Exact_mul : PySem.W.keepIn K (.ref Exact_mul_a) = true)
    (g_Exact_rmul : PySem.W.findIn K (.ref Exact_a) "__rmul__" = some (some (.ref Exact_rmul_a)))
    (i_Exact_rmul : PySem.W.isFn K (.ref Exact_rmul_a) = true)
    (l_Exact_rmul : K.lookup Exact_rmul_a = some ⟨oc_Exact_rmul, od_Exact_rmul, .func (PySem.W.fnOf "__rmul__" "Exact.__rmul__" (defArgs s_Exact_rmul) (defBody s_Exact_rmul) (defScope s_Exact_rmul) .none kV_Exact_rmul dc_Exact_rmul pm_Exact_rmul an_Exact_rmul cd_Exact_rmul ct_Exact_rmul), sl_Exact_rmul⟩)
    (c_Exact_rmul : PySem.W.codeIn K cd_Exact_rmul "Exact.__rmul__" = true)
    (k_Exact_rmul : PySem.W.keepIn K (.ref Exact_rmul_a) = true)
    (g_Exact_neg : PySem.W.findIn K (.ref Exact_a) "__neg__" = some (some (.ref Exact_neg_a)))
    (i_Exact_neg : PySem.W.isFn K (.ref Exact_neg_a) = true)
    (l_Exact_neg : K.lookup Exact_neg_a = some ⟨oc_Exact_neg, od_Exact_neg, .func (PySem.W.fnOf "__neg__" "Exact.__neg__" (defArgs s_Exact_neg) (defBody s_Exact_neg) (defScope s_Exact_neg) .none kV_Exact_neg dc_Exact_neg pm_Exact_neg an_Exact_neg cd_Exact_neg ct_Exact_neg), sl_Exact_neg⟩)
    (c_Exact_neg : PySem.W.codeIn K cd_Exact_neg "Exact.__neg__" = true)
    (k_Exact_neg : PySem.W.keepIn K (.ref Exact_neg_a) = true)
    (g_Exact_by : PySem.W.findIn K (.ref Exact_a) "by" = some (some (.ref Exact_by_a)))
    (i_Exact_by : PySem.W.isFn K (.ref Exact_by_a) = true)
    (l_Exact_by : K.lookup Exact_by_a = some ⟨oc_Exact_by, od_Exact_by, .func (PySem.W.fnOf "by" "Exact.by" (defArgs s_Exact_by) (defBody s_Exact_by) (defScope s_Exact_by) .none kV_Exact_by dc_Exact_by pm_Exact_by an_Exact_by cd_Exact_by ct_Exact_by), sl_Exact_by⟩)
    (c_Exact_by : PySem.W.codeIn K cd_Exact_by "Exact.by" = true)
    (k_Exact_by : PySem.W.keepIn K (.ref Exact_by_a) = true)
    (g_divisor : PySem.W.nsIn K mainGlobals "divisor" = some (some (.ref divisor_a)))
    (l_divisor : K.lookup divisor_a = some ⟨oc_divisor, od_divisor, .func (PySem.W.fnOf "divisor" "divisor" (defArgs s_divisor) (defBody s_divisor) (defScope s_divisor) .none kV_divisor dc_divisor pm_divisor an_divisor cd_divisor ct_divisor), sl_divisor⟩)
    (c_divisor : PySem.W.codeIn K cd_divisor "divisor" = true)
    (k_divisor : PySem.W.keepIn K (.ref divisor_a) = true)
    (g_parts : PySem.W.nsIn K mainGlobals "parts" = some (some (.ref parts_a)))
    (l_parts : K.lookup parts_a = some ⟨oc_parts, od_parts, .func (PySem.W.fnOf "parts" "parts" (defArgs s_parts) (defBody s_parts) (defScope s_parts) .none kV_parts dc_parts pm_parts an_parts cd_parts ct_parts), sl_parts⟩)
    (c_parts : PySem.W.codeIn K cd_parts "parts" = true)
    (k_parts : PySem.W.keepIn K (.ref parts_a) = true)
    (g_plain : PySem.W.nsIn K mainGlobals "plain" = some (some (.ref plain_a)))
    (l_plain : K.lookup plain_a = some ⟨oc_plain, od_plain, .func (PySem.W.fnOf "plain" "plain" (defArgs s_plain) (defBody s_plain) (defScope s_plain) .none kV_plain dc_plain pm_plain an_plain cd_plain ct_plain), sl_plain⟩)
    (c_plain : PySem.W.codeIn K cd_plain "plain" = true)
    (k_plain : PySem.W.keepIn K (.ref plain_a) = true)
    (g_law_fresh : PySem.W.nsIn K mainGlobals "_law_fresh" = some (some (.ref law_fresh_a)))
    (l_law_fresh : K.lookup law_fresh_a = some ⟨oc_law_fresh, od_law_fresh, .func (PySem.W.fnOf "_law_fresh" "_law_fresh" (defArgs s_law_fresh) (defBody s_law_fresh) (defScope s_law_fresh) .none kV_law_fresh dc_law_fresh pm_law_fresh an_law_fresh cd_law_fresh ct_law_fresh), sl_law_fresh⟩)
    (c_law_fresh : PySem.W.codeIn K cd_law_fresh "_law_fresh" = true)
    (k_law_fresh : PySem.W.keepIn K (.ref law_fresh_a) = true)
    (g_law_fill : PySem.W.nsIn K mainGlobals "_law_fill" = some (some (.ref law_fill_a)))
    (l_law_fill : K.lookup law_fill_a = some ⟨oc_law_fill, od_law_fill, .func (PySem.W.fnOf "_law_fill" "_law_fill" (defArgs s_law_fill) (defBody s_law_fill) (defScope s_law_fill) .none kV_law_fill dc_law_fill pm_law_fill an_law_fill cd_law_fill ct_law_fill), sl_law_fill⟩)
    (c_law_fill : PySem.W.codeIn K cd_law_fill "_law_fill" = true)
    (k_law_fill : PySem.W.keepIn K (.ref law_fill_a) = true)
    (g_law_take : PySem.W.nsIn K mainGlobals "_law_take" = some (some (.ref law_take_a)))
    (l_law_take : K.lookup law_take_a = some ⟨oc_law_take, od_law_take, .func (PySem.W.fnOf "_law_take" "_law_take" (defArgs s_law_take) (defBody s_law_take) (defScope s_law_take) .none kV_law_take dc_law_take pm_law_take an_law_take cd_law_take ct_law_take), sl_law_take⟩)
    (c_law_take : PySem.W.codeIn K cd_law_take "_law_take" = true)
    (k_law_take : PySem.W.keepIn K (.ref law_take_a) = true)
    (g_law_one : PySem.W.nsIn K mainGlobals "_law_one" = some (some (.ref law_one_a)))
    (l_law_one : K.lookup law_one_a = some ⟨oc_law_one, od_law_one, .func (PySem.W.fnOf "_law_one" "_law_one" (defArgs s_law_one) (defBody s_law_one) (defScope s_law_one) .none kV_law_one dc_law_one pm_law_one an_law_one cd_law_one ct_law_one), sl_law_one⟩)
    (c_law_one : PySem.W.codeIn K cd_law_one "_law_one" = true)
    (k_law_one : PySem.W.keepIn K (.ref law_one_a) = true)
    (g_law_same : PySem.W.nsIn K mainGlobals "_law_same" = some (some (.ref law_same_a)))
    (l_law_same : K.lookup law_same_a = some ⟨oc_law_same, od_law_same, .func (PySem.W.fnOf "_law_same" "_law_same" (defArgs s_law_same) (defBody s_law_same) (defScope s_law_same) .none kV_law_same dc_law_same pm_law_same an_law_same cd_law_same ct_law_same), sl_law_same⟩)
    (c_law_same : PySem.W.codeIn K cd_law_same "_law_same" = true)
    (k_law_same : PySem.W.keepIn K (.ref law_same_a) = true)
    (g_law_gcd : PySem.W.nsIn K mainGlobals "_law_gcd" = some (some (.ref law_gcd_a)))
    (l_law_gcd : K.lookup law_gcd_a = some ⟨oc_law_gcd, od_law_gcd, .func (PySem.W.fnOf "_law_gcd" "_law_gcd" (defArgs s_law_gcd) (defBody s_law_gcd) (defScope s_law_gcd) .none kV_law_gcd dc_law_gcd pm_law_gcd an_law_gcd cd_law_gcd ct_law_gcd), sl_law_gcd⟩)
    (c_law_gcd : PySem.W.codeIn K cd_law_gcd "_law_gcd" = true)
    (k_law_gcd : PySem.W.keepIn K (.ref law_gcd_a) = true)
    (g_law_frac : PySem.W.nsIn K mainGlobals "_law_frac" = some (some (.ref law_frac_a)))
    (l_law_frac : K.lookup law_frac_a = some ⟨oc_law_frac, od_law_frac, .func (PySem.W.fnOf "_law_frac" "_law_frac" (defArgs s_law_frac) (defBody s_law_frac) (defScope s_law_frac) .none kV_law_frac dc_law_frac pm_law_frac an_law_frac cd_law_frac ct_law_frac), sl_law_frac⟩)
    (c_law_frac : PySem.W.codeIn K cd_law_frac "_law_frac" = true)
    (k_law_frac : PySem.W.keepIn K (.ref law_frac_a) = true)
    (g_law_add : PySem.W.nsIn K mainGlobals "_law_add" = some (some (.ref law_add_a)))
    (l_law_add : K.lookup law_add_a = some ⟨oc_law_add, od_law_add, .func (PySem.W.fnOf "_law_add" "_law_add" (defArgs s_law_add) (defBody s_law_add) (defScope s_law_add) .none kV_law_add dc_law_add pm_law_add an_law_add cd_law_add ct_law_add), sl_law_add⟩)
    (c_law_add : PySem.W.codeIn K cd_law_add "_law_add" = true)
    (k_law_add : PySem.W.keepIn K (.ref law_add_a) = true)
    (g_law_mul : PySem.W.nsIn K mainGlobals "_law_mul" = some (some (.ref law_mul_a)))
    (l_law_mul : K.lookup law_mul_a = some ⟨oc_law_mul, od_law_mul, .func (PySem.W.fnOf "_law_mul" "_law_mul" (defArgs s_law_mul) (defBody s_law_mul) (defScope s_law_mul) .none kV_law_mul dc_law_mul pm_law_mul an_law_mul cd_law_mul ct_law_mul), sl_law_mul⟩)
    (c_law_mul : PySem.W.codeIn K cd_law_mul "_law_mul" = true)
    (k_law_mul : PySem.W.keepIn K (.ref law_mul_a) = true)
    (g_law_as_number : PySem.W.nsIn K mainGlobals "_law_as_number" = some (some (.ref law_as_number_a)))
    (l_law_as_number : K.lookup law_as_number_a = some ⟨oc_law_as_number, od_law_as_number, .func (PySem.W.fnOf "_law_as_number" "_law_as_number" (defArgs s_law_as_number) (defBody s_law_as_number) (defScope s_law_as_number) .none kV_law_as_number dc_law_as_number pm_law_as_number an_law_as_number cd_law_as_number ct_law_as_number), sl_law_as_number⟩)
    (c_law_as_number : PySem.W.codeIn K cd_law_as_number "_law_as_number" = true)
    (k_law_as_number : PySem.W.keepIn K (.ref law_as_number_a) = true)
    (g_law_plain : PySem.W.nsIn K mainGlobals "_law_plain" = some (some (.ref law_plain_a)))
    (l_law_plain : K.lookup law_plain_a = some ⟨oc_law_plain, od_law_plain, .func (PySem.W.fnOf "_law_plain" "_law_plain" (defArgs s_law_plain) (defBody s_law_plain) (defScope s_law_plain) .none kV_law_plain dc_law_plain pm_law_plain an_law_plain cd_law_plain ct_law_plain), sl_law_plain⟩)
    (c_law_plain : PySem.W.codeIn K cd_law_plain "_law_plain" = true)
    (k_law_plain : PySem.W.keepIn K (.ref law_plain_a) = true)
    (g_law_is_told : PySem.W.nsIn K mainGlobals "_law_is_told" = some (some (.ref law_is_told_a)))
    (l_law_is_told : K.lookup law_is_told_a = some ⟨oc_law_is_told, od_law_is_told, .func (PySem.W.fnOf "_law_is_told" "_law_is_told" (defArgs s_law_is_told) (defBody s_law_is_told) (defScope s_law_is_told) .none kV_law_is_told dc_law_is_told pm_law_is_told an_law_is_told cd_law_is_told ct_law_is_told), sl_law_is_told⟩)
    (c_law_is_told : PySem.W.codeIn K cd_law_is_told "_law_is_told" = true)
    (k_law_is_told : PySem.W.keepIn K (.ref law_is_told_a) = true)
    (g_law_some_frac : PySem.W.nsIn K mainGlobals "_law_some_frac" = some (some (.ref law_some_frac_a)))
    (l_law_some_frac : K.lookup law_some_frac_a = some ⟨oc_law_some_frac, od_law_some_frac, .func (PySem.W.fnOf "_law_some_frac" "_law_some_frac" (defArgs s_law_some_frac) (defBody s_law_some_frac) (defScope s_law_some_frac) .none kV_law_some_frac dc_law_some_frac pm_law_some_frac an_law_some_frac cd_law_some_frac ct_law_some_frac), sl_law_some_frac⟩)
    (c_law_some_frac : PySem.W.codeIn K cd_law_some_frac "_law_some_frac" = true)
    (k_law_some_frac : PySem.W.keepIn K (.ref law_some_frac_a) = true)
    (g_law_as_exact : PySem.W.nsIn K mainGlobals "_law_as_exact" = some (some (.ref law_as_exact_a)))
    (l_law_as_exact : K.lookup law_as_exact_a = some ⟨oc_law_as_exact, od_law_as_exact, .func (PySem.W.fnOf "_law_as_exact" "_law_as_exact" (defArgs s_law_as_exact) (defBody s_law_as_exact) (defScope s_law_as_exact) .none kV_law_as_exact dc_law_as_exact pm_law_as_exact an_law_as_exact cd_law_as_exact ct_law_as_exact), sl_law_as_exact⟩)
    (c_law_as_exact : PySem.W.codeIn K cd_law_as_exact "_law_as_exact" = true)
    (k_law_as_exact : PySem.W.keepIn K (.ref law_as_exact_a) = true)
    (g_law : PySem.W.nsIn K mainGlobals "law" = some (some (.ref law_a)))
    (l_law : K.lookup law_a = some ⟨oc_law, od_law, .func (PySem.W.fnOf "law" "law" (defArgs s_law) (defBody s_law) (defScope s_law) .none kV_law dc_law pm_law an_law cd_law ct_law), sl_law⟩)
    (c_law : PySem.W.codeIn K cd_law "law" = true)
    (k_law : PySem.W.keepIn K (.ref law_a) = true)
    (hz_abs : PySem.W.nsIn K mainGlobals "abs" = some none)
    (hz_all : PySem.W.nsIn K mainGlobals "all" = some none)
    (hz_bool : PySem.W.nsIn K mainGlobals "bool" = some none)
    (hz_enumerate : PySem.W.nsIn K mainGlobals "enumerate" = some none)
    (hz_int : PySem.W.nsIn K mainGlobals "int" = some none)
    (hz_isinstance : PySem.W.nsIn K mainGlobals "isinstance" = some none)
    (hz_len : PySem.W.nsIn K mainGlobals "len" = some none)
    (hz_list : PySem.W.nsIn K mainGlobals "list" = some none)
    (hz_range : PySem.W.nsIn K mainGlobals "range" = some none)
    (hz_tuple : PySem.W.nsIn K mainGlobals "tuple" = some none)
    (hz_zip : PySem.W.nsIn K mainGlobals "zip" = some none)
    : ∃ fd : FuncData, (∀ (s : Shared) (v : Value), BindsTo s fd ⟨[v], []⟩ [("_law_script", v)]) ∧ ∀ base : Heap, K.In base → base.Ns mainGlobals mg → FnOk l.prog w K mg base CX0 9 fa fd ["_law_script"] (spLaw K) := by
  have e := hfa.symm.trans (PySem.W.mg_of X G g_law)
  cases e
  have F_Exact_init := (⟨⟨_, _, _, _, _, _, _, _, _, _, rfl, l_Exact_init, c_Exact_init, .inr ⟨List.cons_ne_nil _ _, dT_Exact_init, _, _, _, rfl, t_Exact_init, rfl, .cons ⟨_, rfl⟩ .nil⟩, .inl rfl⟩, k_Exact_init⟩ : FunD K "__init__" "Exact.__init__" (defArgs s_Exact_init) (defBody s_Exact_init) (defScope s_Exact_init) [V.int 1] [] Exact_init_a _)
  obtain ⟨ds_Exact_init, vs_Exact_init, b_Exact_init⟩ := F_Exact_init.binds1 (ps := ["self", "over", "under"]) 3 1 (List.cons_ne_nil _ _) rfl fun _ _ _ _ _ _ _ us its h1 h2 => match us, its, h1, h2 with | [_, _, _], [_], _, _ => ⟨_, rfl, rfl⟩
  cases vs_Exact_init
  obtain ⟨ds2_Exact_init, vs2_Exact_init, b2_Exact_init⟩ := F_Exact_init.binds1 (ps := ["self", "over", "under"]) 2 0 (List.cons_ne_nil _ _) rfl fun _ _ _ _ _ _ _ us its h1 h2 => match us, its, h1, h2 with | [_, _], [_], _, _ => ⟨_, rfl, rfl⟩
  let T : Tx K mg := {
    Exact_a := Exact_a
    Exact_m := PySem.W.mg_of X G g_Exact
    Exact_cl := ⟨pg_Exact, hd_Exact, po_Exact, sa_Exact⟩
    Exact_n_over := n_Exact_over
    Exact_n_under := n_Exact_under
    Exact_i1 := i1_Exact
    Exact_i2 := i2_Exact
    Exact_i3 := i3_Exact
    Exact_i4 := i4_Exact
    Exact_k0 := kit_self
    Exact_kt_int := kit_to ic_Exact ty_Exact u_int_Exact
    Exact_ko_int := kit_ob (by decide +kernel) d_int_Exact
    Exact_kt_bool := kit_to ic_Exact ty_Exact u_bool_Exact
    Exact_ko_bool := kit_ob (by decide +kernel) d_bool_Exact
    Exact_kt_str := kit_to ic_Exact ty_Exact u_str_Exact
    Exact_kt_list := kit_to ic_Exact ty_Exact u_list_Exact
    Exact_ko_list := kit_ob (by decide +kernel) d_list_Exact
    Exact_kt_tuple := kit_to ic_Exact ty_Exact u_tuple_Exact
    Exact_ko_tuple := kit_ob (by decide +kernel) d_tuple_Exact
    Exact_kt_NoneType := kit_to ic_Exact ty_Exact u_NoneType_Exact
    op_add := ⟨osf_add, od_add, i_Exact_add, or_add, i_Exact_radd, ⟨_, o1_add⟩, ⟨_, o2_add⟩, oup_add, odn_add⟩
    op_sub := ⟨osf_sub, od_sub, i_Exact_sub, or_sub, i_Exact_rsub, ⟨_, o1_sub⟩, ⟨_, o2_sub⟩, oup_sub, odn_sub⟩
    op_mul := ⟨osf_mul, od_mul, i_Exact_mul, or_mul, i_Exact_rmul, ⟨_, o1_mul⟩, ⟨_, o2_mul⟩, oup_mul, odn_mul⟩
    is_whole_a := is_whole_a
    is_whole_d := _
    is_whole_F := fun_mk (st := s_is_whole) l_is_whole c_is_whole k_is_whole
    is_whole_b := (fun_mk (st := s_is_whole) l_is_whole c_is_whole k_is_whole).binds (ps := ["thing"]) fun _ _ _ _ _ _ us hl => match us, hl with | [_], _ => rfl
    is_whole_m := PySem.W.mg_of X G g_is_whole
    Exact_init_a := Exact_init_a
    Exact_init_d := _
    Exact_init_F := F_Exact_init
    Exact_init_b := b_Exact_init
    Exact_init_ds2 := ds2_Exact_init
    Exact_init_v2 := vs2_Exact_init
    Exact_init_bd2 := b2_Exact_init
    Exact_init_M := ⟨g_Exact_init, i_Exact_init, k_Exact_init⟩
    Exact_mk := ⟨mk_Exact, g_Exact_init, i_Exact_init, kc_Exact⟩
    Exact_add_a := Exact_add_a
    Exact_add_d := _
    Exact_add_F := fun_mk (st := s_Exact_add) l_Exact_add c_Exact_add k_Exact_add
    Exact_add_b := (fun_mk (st := s_Exact_add) l_Exact_add c_Exact_add k_Exact_add).binds (ps := ["self", "other"]) fun _ _ _ _ _ _ us hl => match us, hl with | [_, _], _ => rfl
    Exact_add_M := ⟨g_Exact_add, i_Exact_add, k_Exact_add⟩
    Exact_radd_a := Exact_radd_a
    Exact_radd_d := _
    Exact_radd_F := fun_mk (st := s_Exact_radd) l_Exact_radd c_Exact_radd k_Exact_radd
    Exact_radd_b := (fun_mk (st := s_Exact_radd) l_Exact_radd c_Exact_radd k_Exact_radd).binds (ps := ["self", "other"]) fun _ _ _ _ _ _ us hl => match us, hl with | [_, _], _ => rfl
    Exact_radd_M := ⟨g_Exact_radd, i_Exact_radd, k_Exact_radd⟩
    Exact_sub_a := Exact_sub_a
    Exact_sub_d := _
    Exact_sub_F := fun_mk (st := s_Exact_sub) l_Exact_sub c_Exact_sub k_Exact_sub
    Exact_sub_b := (fun_mk (st := s_Exact_sub) l_Exact_sub c_Exact_sub k_Exact_sub).binds (ps := ["self", "other"]) fun _ _ _ _ _ _ us hl => match us, hl with | [_, _], _ => rfl
    Exact_sub_M := ⟨g_Exact_sub, i_Exact_sub, k_Exact_sub⟩
    Exact_rsub_a := Exact_rsub_a
    Exact_rsub_d := _
    Exact_rsub_F := fun_mk (st := s_Exact_rsub) l_Exact_rsub c_Exact_rsub k_Exact_rsub
    Exact_rsub_b := (fun_mk (st := s_Exact_rsub) l_Exact_rsub c_Exact_rsub k_Exact_rsub).binds (ps := ["self", "other"]) fun _ _ _ _ _ _ us hl => match us, hl with | [_, _], _ => rfl
    Exact_rsub_M := ⟨g_Exact_rsub, i_Exact_rsub, k_Exact_rsub⟩
    Exact_mul_a := Exact_mul_a
    Exact_mul_d := _
    Exact_mul_F := fun_mk (st := s_Exact_mul) l_Exact_mul c_Exact_mul k_Exact_mul
    Exact_mul_b := (fun_mk (st := s_Exact_mul) l_Exact_mul c_Exact_mul k_Exact_mul).binds (ps := ["self", "other"]) fun _ _ _ _ _ _ us hl => match us, hl with | [_, _], _ => rfl
    Exact_mul_M := ⟨g_Exact_mul, i_Exact_mul, k_Exact_mul⟩
    Exact_rmul_a := Exact_rmul_a
    Exact_rmul_d := _
    Exact_rmul_F := fun_mk (st := s_Exact_rmul) l_Exact_rmul c_Exact_rmul k_Exact_rmul
    Exact_rmul_b := (fun_mk (st := s_Exact_rmul) l_Exact_rmul c_Exact_rmul k_Exact_rmul).binds (ps := ["self", "other"]) fun _ _ _ _ _ _ us hl => match us, hl with | [_, _], _ => rfl
    Exact_rmul_M := ⟨g_Exact_rmul, i_Exact_rmul, k_Exact_rmul⟩
    Exact_neg_a := Exact_neg_a
    Exact_neg_d := _
    Exact_neg_F := fun_mk (st := s_Exact_neg) l_Exact_neg c_Exact_neg k_Exact_neg
    Exact_neg_b := (fun_mk (st := s_Exact_neg) l_Exact_neg c_Exact_neg k_Exact_neg).binds (ps := ["self"]) fun _ _ _ _ _ _ us hl => match us, hl with | [_], _ => rfl
    Exact_neg_M := ⟨g_Exact_neg, i_Exact_neg, k_Exact_neg⟩
    Exact_by_a := Exact_by_a
    Exact_by_d := _
    Exact_by_F := fun_mk (st := s_Exact_by) l_Exact_by c_Exact_by k_Exact_by
    Exact_by_b := (fun_mk (st := s_Exact_by) l_Exact_by c_Exact_by k_Exact_by).binds (ps := ["self", "other"]) fun _ _ _ _ _ _ us hl => match us, hl with | [_, _], _ => rfl
    Exact_by_M := ⟨g_Exact_by, i_Exact_by, k_Exact_by⟩
    divisor_a := divisor_a
    divisor_d := _
    divisor_F := fun_mk (st := s_divisor) l_divisor c_divisor k_divisor
    divisor_b := (fun_mk (st := s_divisor) l_divisor c_divisor k_divisor).binds (ps := ["one", "other"]) fun _ _ _ _ _ _ us hl => match us, hl with | [_, _], _ => rfl
    divisor_m := PySem.W.mg_of X G g_divisor
    parts_a := parts_a
    parts_d := _
    parts_F := fun_mk (st := s_parts) l_parts c_parts k_parts
    parts_b := (fun_mk (st := s_parts) l_parts c_parts k_parts).binds (ps := ["number"]) fun _ _ _ _ _ _ us hl => match us, hl with | [_], _ => rfl
    parts_m := PySem.W.mg_of X G g_parts
    plain_a := plain_a
    plain_d := _
    plain_F := fun_mk (st := s_plain) l_plain c_plain k_plain
    plain_b := (fun_mk (st := s_plain) l_plain c_plain k_plain).binds (ps := ["number"]) fun _ _ _ _ _ _ us hl => match us, hl with | [_], _ => rfl
    plain_m := PySem.W.mg_of X G g_plain
    law_fresh_a := law_fresh_a
    law_fresh_d := _
    law_fresh_F := fun_mk (st := s_law_fresh) l_law_fresh c_law_fresh k_law_fresh
    law_fresh_b := (fun_mk (st := s_law_fresh) l_law_fresh c_law_fresh k_law_fresh).binds (ps := ["_law_script"]) fun _ _ _ _ _ _ us hl => match us, hl with | [_], _ => rfl
    law_fresh_m := PySem.W.mg_of X G g_law_fresh
    law_fill_a := law_fill_a
    law_fill_d := _
    law_fill_F := fun_mk (st := s_law_fill) l_law_fill c_law_fill k_law_fill
    law_fill_b := (fun_mk (st := s_law_fill) l_law_fill c_law_fill k_law_fill).binds (ps := ["_law_state"]) fun _ _ _ _ _ _ us hl => match us, hl with | [_], _ => rfl
    law_fill_m := PySem.W.mg_of X G g_law_fill
    law_take_a := law_take_a
    law_take_d := _
    law_take_F := fun_mk (st := s_law_take) l_law_take c_law_take k_law_take
    law_take_b := (fun_mk (st := s_law_take) l_law_take c_law_take k_law_take).binds (ps := ["_law_state", "_law_many"]) fun _ _ _ _ _ _ us hl => match us, hl with | [_, _], _ => rfl
    law_take_m := PySem.W.mg_of X G g_law_take
    law_one_a := law_one_a
    law_one_d := _
    law_one_F := fun_mk (st := s_law_one) l_law_one c_law_one k_law_one
    law_one_b := (fun_mk (st := s_law_one) l_law_one c_law_one k_law_one).binds (ps := ["_law_state", "_law_things"]) fun _ _ _ _ _ _ us hl => match us, hl with | [_, _], _ => rfl
    law_one_m := PySem.W.mg_of X G g_law_one
    law_same_a := law_same_a
    law_same_d := _
    law_same_F := fun_mk (st := s_law_same) l_law_same c_law_same k_law_same
    law_same_b := (fun_mk (st := s_law_same) l_law_same c_law_same k_law_same).binds (ps := ["_law_found", "_law_due"]) fun _ _ _ _ _ _ us hl => match us, hl with | [_, _], _ => rfl
    law_same_m := PySem.W.mg_of X G g_law_same
    law_gcd_a := law_gcd_a
    law_gcd_d := _
    law_gcd_F := fun_mk (st := s_law_gcd) l_law_gcd c_law_gcd k_law_gcd
    law_gcd_b := (fun_mk (st := s_law_gcd) l_law_gcd c_law_gcd k_law_gcd).binds (ps := ["_law_a", "_law_b"]) fun _ _ _ _ _ _ us hl => match us, hl with | [_, _], _ => rfl
    law_gcd_m := PySem.W.mg_of X G g_law_gcd
    law_frac_a := law_frac_a
    law_frac_d := _
    law_frac_F := fun_mk (st := s_law_frac) l_law_frac c_law_frac k_law_frac
    law_frac_b := (fun_mk (st := s_law_frac) l_law_frac c_law_frac k_law_frac).binds (ps := ["_law_over", "_law_under"]) fun _ _ _ _ _ _ us hl => match us, hl with | [_, _], _ => rfl
    law_frac_m := PySem.W.mg_of X G g_law_frac
    law_add_a := law_add_a
    law_add_d := _
    law_add_F := fun_mk (st := s_law_add) l_law_add c_law_add k_law_add
    law_add_b := (fun_mk (st := s_law_add) l_law_add c_law_add k_law_add).binds (ps := ["_law_a", "_law_b"]) fun _ _ _ _ _ _ us hl => match us, hl with | [_, _], _ => rfl
    law_add_m := PySem.W.mg_of X G g_law_add
    law_mul_a := law_mul_a
    law_mul_d := _
    law_mul_F := fun_mk (st := s_law_mul) l_law_mul c_law_mul k_law_mul
    law_mul_b := (fun_mk (st := s_law_mul) l_law_mul c_law_mul k_law_mul).binds (ps := ["_law_a", "_law_b"]) fun _ _ _ _ _ _ us hl => match us, hl with | [_, _], _ => rfl
    law_mul_m := PySem.W.mg_of X G g_law_mul
    law_as_number_a := law_as_number_a
    law_as_number_d := _
    law_as_number_F := fun_mk (st := s_law_as_number) l_law_as_number c_law_as_number k_law_as_number
    law_as_number_b := (fun_mk (st := s_law_as_number) l_law_as_number c_law_as_number k_law_as_number).binds (ps := ["_law_state", "_law_a"]) fun _ _ _ _ _ _ us hl => match us, hl with | [_, _], _ => rfl
    law_as_number_m := PySem.W.mg_of X G g_law_as_number
    law_plain_a := law_plain_a
    law_plain_d := _
    law_plain_F := fun_mk (st := s_law_plain) l_law_plain c_law_plain k_law_plain
    law_plain_b := (fun_mk (st := s_law_plain) l_law_plain c_law_plain k_law_plain).binds (ps := ["_law_a"]) fun _ _ _ _ _ _ us hl => match us, hl with | [_], _ => rfl
    law_plain_m := PySem.W.mg_of X G g_law_plain
    law_is_told_a := law_is_told_a
    law_is_told_d := _
    law_is_told_F := fun_mk (st := s_law_is_told) l_law_is_told c_law_is_told k_law_is_told
    law_is_told_b := (fun_mk (st := s_law_is_told) l_law_is_told c_law_is_told k_law_is_told).binds (ps := ["_law_x", "_law_due"]) fun _ _ _ _ _ _ us hl => match us, hl with | [_, _], _ => rfl
    law_is_told_m := PySem.W.mg_of X G g_law_is_told
    law_some_frac_a := law_some_frac_a
    law_some_frac_d := _
    law_some_frac_F := fun_mk (st := s_law_some_frac) l_law_some_frac c_law_some_frac k_law_some_frac
    law_some_frac_b := (fun_mk (st := s_law_some_frac) l_law_some_frac c_law_some_frac k_law_some_frac).binds (ps := ["_law_state"]) fun _ _ _ _ _ _ us hl => match us, hl with | [_], _ => rfl
    law_some_frac_m := PySem.W.mg_of X G g_law_some_frac
    law_as_exact_a := law_as_exact_a
    law_as_exact_d := _
    law_as_exact_F := fun_mk (st := s_law_as_exact) l_law_as_exact c_law_as_exact k_law_as_exact
    law_as_exact_b := (fun_mk (st := s_law_as_exact) l_law_as_exact c_law_as_exact k_law_as_exact).binds (ps := ["_law_x"]) fun _ _ _ _ _ _ us hl => match us, hl with | [_], _ => rfl
    law_as_exact_m := PySem.W.mg_of X G g_law_as_exact
    law_a := fa
    law_d := _
    law_F := fun_mk (st := s_law) l_law c_law k_law
    law_b := (fun_mk (st := s_law) l_law c_law k_law).binds (ps := ["_law_script"]) fun _ _ _ _ _ _ us hl => match us, hl with | [_], _ => rfl
    law_m := PySem.W.mg_of X G g_law
    z_abs := PySem.W.mg_none_of X G hz_abs
    z_all := PySem.W.mg_none_of X G hz_all
    z_bool := PySem.W.mg_none_of X G hz_bool
    z_enumerate := PySem.W.mg_none_of X G hz_enumerate
    z_int := PySem.W.mg_none_of X G hz_int
    z_isinstance := PySem.W.mg_none_of X G hz_isinstance
    z_len := PySem.W.mg_none_of X G hz_len
    z_list := PySem.W.mg_none_of X G hz_list
    z_range := PySem.W.mg_none_of X G hz_range
    z_tuple := PySem.W.mg_none_of X G hz_tuple
    z_zip := PySem.W.mg_none_of X G hz_zip }
  exact ⟨T.law_d, fun s v => .of_eq rfl, fun base _ _ => ok_law T⟩
theorem walk {l : PySem.W.OpenLaw} {q : Program} {loose : List Str} {XP : (Str → Option Value) → Heap → Prop} {YP : World → Heap → Prop} {d : DefRec} {K : Params → PySem.W.Frag} (hn : l.most = some 63) (hdf : d.params.defaults = [])
    (hY : ∀ (w : World) (h : Heap), YP w h → (K w.params).In h)
    (F : ∀ (w : World) (mg : Str → Option Value) (fa : Addr) (h : Heap), (K w.params).In h → h.Ns mainGlobals mg → mg d.name = some (.ref fa) →
      ∃ fd : FuncData, (∀ (s : Shared) (u : Value), BindsTo s fd ⟨[u], []⟩ [("_law_script", u)]) ∧ ∀ base : Heap, (K w.params).In base → base.Ns mainGlobals mg → FnOk l.prog w (K w.params) mg base CX0 9 fa fd ["_law_script"] (spLaw (K w.params))) :
    PySem.W.WalkO q loose XP YP l.row.toRowW d [] (fun f vs => PySem.call f vs) :=
  L2.walk_of (n := 63) (k := 9) (x := "_law_script") (CX := fun _ => CX0) (sp := fun w => spLaw (K w.params)) hn (by decide) hdf ⟨rfl, by decide, by decide⟩ hY F (fun _ _ a ns hl _ hS => ⟨a, ns, rfl, hS, hl, fun _ => rfl⟩) fun _ _ _ _ _ z => z
end Gy
open PySem PySem.W PyProof.Rows
set_option maxRecDepth 100000 in
set_option maxHeartbeats 0 in
theorem PySem.Challenge.cw_surelevels_k02_numbers_told_holds : PySem.Challenge.rw_surelevels_k02_numbers_told.Holds := by
  w_on; o_law; k_head; (case hw => w_witness2)
  k_fill
  refine Gy.walk (l := PySem.Challenge.rw_surelevels_k02_numbers_told) rfl rfl (fun w h Y => PySem.W.kIn_of Y) ?F
  case F =>
    intro w mg fa h KX G hmg
    refine' Gy.all_mk KX G hmg ?g_Exact ?pg_Exact ?hd_Exact ?po_Exact ?sa_Exact ?n_Exact_over ?n_Exact_under ?i1_Exact ?i2_Exact ?i3_Exact ?i4_Exact ?ic_Exact ?ty_Exact ?u_int_Exact ?d_int_Exact ?u_bool_Exact ?d_bool_Exact ?u_str_Exact ?u_list_Exact ?d_list_Exact ?u_tuple_Exact ?d_tuple_Exact ?u_NoneType_Exact ?od_add ?or_add ?o1_add ?o2_add ?osf_add ?oup_add ?odn_add ?od_sub ?or_sub ?o1_sub ?o2_sub ?osf_sub ?oup_sub ?odn_sub ?od_mul ?or_mul ?o1_mul ?o2_mul ?osf_mul ?oup_mul ?odn_mul ?g_is_whole ?l_is_whole ?c_is_whole ?k_is_whole ?g_Exact_init ?i_Exact_init ?l_Exact_init ?c_Exact_init ?k_Exact_init ?t_Exact_init ?mk_Exact ?kc_Exact ?g_Exact_add ?i_Exact_add ?l_Exact_add ?c_Exact_add ?k_Exact_add ?g_Exact_radd ?i_Exact_radd ?l_Exact_radd ?c_Exact_radd ?k_Exact_radd ?g_Exact_sub ?i_Exact_sub ?l_Exact_sub ?c_Exact_sub ?k_Exact_sub ?g_Exact_rsub ?i_Exact_rsub ?l_Exact_rsub ?c_Exact_rsub ?k_Exact_rsub ?g_Exact_mul ?i_Exact_mul ?l_Exact_mul ?c_Exact_mul ?k_Exact_mul ?g_Exact_rmul ?i_Exact_rmul ?l_Exact_rmul ?c_Exact_rmul ?k_Exact_rmul ?g_Exact_neg ?i_Exact_neg ?l_Exact_neg ?c_Exact_neg ?k_Exact_neg ?g_Exact_by ?i_Exact_by ?l_Exact_by ?c_Exact_by ?k_Exact_by ?g_divisor ?l_divisor ?c_divisor ?k_divisor ?g_parts ?l_parts ?c_parts ?k_parts ?g_plain ?l_plain ?c_plain ?k_plain ?g_law_fresh ?l_law_fresh ?c_law_fresh ?k_law_fresh ?g_law_fill ?l_law_fill ?c_law_fill ?k_law_fill ?g_law_take ?l_law_take ?c_law_take ?k_law_take ?g_law_one ?l_law_one ?c_law_one ?k_law_one ?g_law_same ?l_law_same ?c_law_same ?k_law_same ?g_law_gcd ?l_law_gcd ?c_law_gcd ?k_law_gcd ?g_law_frac ?l_law_frac ?c_law_frac ?k_law_frac ?g_law_add ?l_law_add ?c_law_add ?k_law_add ?g_law_mul ?l_law_mul ?c_law_mul ?k_law_mul ?g_law_as_number ?l_law_as_number ?c_law_as_number ?k_law_as_number ?g_law_plain ?l_law_plain ?c_law_plain ?k_law_plain ?g_law_is_told ?l_law_is_told ?c_law_is_told ?k_law_is_told ?g_law_some_frac ?l_law_some_frac ?c_law_some_frac ?k_law_some_frac ?g_law_as_exact ?l_law_as_exact ?c_law_as_exact ?k_law_as_exact ?g_law ?l_law ?c_law ?k_law ?hz_abs ?hz_all ?hz_bool ?hz_enumerate ?hz_int ?hz_isinstance ?hz_len ?hz_list ?hz_range ?hz_tuple ?hz_zip
    (case g_Exact => k_is); (case pg_Exact => k_is); (case hd_Exact => k_is); (case po_Exact => k_is); (case sa_Exact => k_is); (case n_Exact_over => k_is); (case n_Exact_under => k_is); (case i1_Exact => k_is)
    (case i2_Exact => k_is); (case i3_Exact => k_is); (case i4_Exact => k_is); (case ic_Exact => k_is); (case ty_Exact => k_is); (case u_int_Exact => k_is); (case d_int_Exact => k_is); (case u_bool_Exact => k_is)
    (case d_bool_Exact => k_is); (case u_str_Exact => k_is); (case u_list_Exact => k_is); (case d_list_Exact => k_is); (case u_tuple_Exact => k_is); (case d_tuple_Exact => k_is); (case u_NoneType_Exact => k_is); (case od_add => k_is)
    (case or_add => k_is); (case o1_add => k_is); (case o2_add => k_is); (case osf_add => k_is); (case oup_add => k_is); (case odn_add => k_is); (case od_sub => k_is); (case or_sub => k_is)
    (case o1_sub => k_is); (case o2_sub => k_is); (case osf_sub => k_is); (case oup_sub => k_is); (case odn_sub => k_is); (case od_mul => k_is); (case or_mul => k_is); (case o1_mul => k_is)
    (case o2_mul => k_is); (case osf_mul => k_is); (case oup_mul => k_is); (case odn_mul => k_is); (case g_is_whole => k_is); (case l_is_whole => k_is); (case c_is_whole => k_is); (case k_is_whole => k_is)
    (case g_Exact_init => k_is); (case i_Exact_init => k_is); (case l_Exact_init => k_is); (case c_Exact_init => k_is); (case k_Exact_init => k_is); (case t_Exact_init => k_is); (case mk_Exact => k_is); (case kc_Exact => k_is)
    (case g_Exact_add => k_is); (case i_Exact_add => k_is); (case l_Exact_add => k_is); (case c_Exact_add => k_is); (case k_Exact_add => k_is); (case g_Exact_radd => k_is); (case i_Exact_radd => k_is); (case l_Exact_radd => k_is)
    (case c_Exact_radd => k_is); (case k_Exact_radd => k_is); (case g_Exact_sub => k_is); (case i_Exact_sub => k_is); (case l_Exact_sub => k_is); (case c_Exact_sub => k_is); (case k_Exact_sub => k_is); (case g_Exact_rsub => k_is)
    (case i_Exact_rsub => k_is); (case l_Exact_rsub => k_is); (case c_Exact_rsub => k_is); (case k_Exact_rsub => k_is); (case g_Exact_mul => k_is); (case i_Exact_mul => k_is); (case l_Exact_mul => k_is); (case c_Exact_mul => k_is)
    (case k_Exact_mul => k_is); (case g_Exact_rmul => k_is); (case i_Exact_rmul => k_is); (case l_Exact_rmul => k_is); (case c_Exact_rmul => k_is); (case k_Exact_rmul => k_is); (case g_Exact_neg => k_is); (case i_Exact_neg => k_is)
    (case l_Exact_neg => k_is); (case c_Exact_neg => k_is); (case k_Exact_neg => k_is); (case g_Exact_by => k_is); (case i_Exact_by => k_is); (case l_Exact_by => k_is); (case c_Exact_by => k_is); (case k_Exact_by => k_is)
    (case g_divisor => k_is); (case l_divisor => k_is); (case c_divisor => k_is); (case k_divisor => k_is); (case g_parts => k_is); (case l_parts => k_is); (case c_parts => k_is); (case k_parts => k_is)
    (case g_plain => k_is); (case l_plain => k_is); (case c_plain => k_is); (case k_plain => k_is); (case g_law_fresh => k_is); (case l_law_fresh => k_is); (case c_law_fresh => k_is); (case k_law_fresh => k_is)
    (case g_law_fill => k_is); (case l_law_fill => k_is); (case c_law_fill => k_is); (case k_law_fill => k_is); (case g_law_take => k_is); (case l_law_take => k_is); (case c_law_take => k_is); (case k_law_take => k_is)
    (case g_law_one => k_is); (case l_law_one => k_is); (case c_law_one => k_is); (case k_law_one => k_is); (case g_law_same => k_is); (case l_law_same => k_is); (case c_law_same => k_is); (case k_law_same => k_is)
    (case g_law_gcd => k_is); (case l_law_gcd => k_is); (case c_law_gcd => k_is); (case k_law_gcd => k_is); (case g_law_frac => k_is); (case l_law_frac => k_is); (case c_law_frac => k_is); (case k_law_frac => k_is)
    (case g_law_add => k_is); (case l_law_add => k_is); (case c_law_add => k_is); (case k_law_add => k_is); (case g_law_mul => k_is); (case l_law_mul => k_is); (case c_law_mul => k_is); (case k_law_mul => k_is)
    (case g_law_as_number => k_is); (case l_law_as_number => k_is); (case c_law_as_number => k_is); (case k_law_as_number => k_is); (case g_law_plain => k_is); (case l_law_plain => k_is); (case c_law_plain => k_is); (case k_law_plain => k_is)
    (case g_law_is_told => k_is); (case l_law_is_told => k_is); (case c_law_is_told => k_is); (case k_law_is_told => k_is); (case g_law_some_frac => k_is); (case l_law_some_frac => k_is); (case c_law_some_frac => k_is); (case k_law_some_frac => k_is)
    (case g_law_as_exact => k_is); (case l_law_as_exact => k_is); (case c_law_as_exact => k_is); (case k_law_as_exact => k_is); (case g_law => k_is); (case l_law => k_is); (case c_law => k_is); (case k_law => k_is)
    (case hz_abs => k_is); (case hz_all => k_is); (case hz_bool => k_is); (case hz_enumerate => k_is); (case hz_int => k_is); (case hz_isinstance => k_is); (case hz_len => k_is); (case hz_list => k_is)
    (case hz_range => k_is); (case hz_tuple => k_is); (case hz_zip => k_is)

