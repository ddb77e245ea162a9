import PyProof.Rows.All
import Wide.All
import OpenK.AllK
import Wide.FinOn
import PyProof.EqAt
import PyProof.EqKinds
import PyProof.TupleCall
import PyProof.NoPylong
import PyProof.StrReplace2
import KE.KOpsOwn
import KE.GoesMore
import KE.GoesEnum
import HandS.ForMost
import HandS.ForExc
import HandS.IsInst
import HandS.Wide
import HandS.EndBits
import HandS.Style
import HandS.Zip
import HandS.Walk
import HandS.Defaults
import KE.KExcIs
import HandS.ExcInit
import HandS.More
import PySem.Challenge.RW_surelevels_k01_errors_made
set_option Elab.async false
set_option linter.all false
set_option maxRecDepth 100000
set_option maxHeartbeats 4000000
/-! Lay0: what every law of this program leans on, beside the library: own operators, great numbers, enumerate of a tuple. -/
namespace PySem.W
open PySem PySem.Calls PyProof.Rows
section
variable {prog : Program} {w : World} {A : Around} {E : Value → Shared → Prop} {s : Shared} {K : Frag} {x C L f : Addr} {h₀ : Heap} {m : Str → Option Value} {ox : Obj} {od : Option Obj} {nm T : String}

/-- x op b, x an own instance, b of a built-in type that the heap may tell -/
theorem gy_binT {op : Operator} {b : Value} {fo ro rc : Option Value} {Q : Value → Shared → Prop} (F : Fr h₀ L s.heap m) (X₀ : K.In h₀) (I : InstAt s.heap x ox C od) (hb : Looks (model prog w) s.heap (typeOf b) (.type T)) (hc : selfFirst K C = true)
    (hs : findIn K (.ref C) (PySem.dunder op.info.2) = some (some (.ref f))) (hf : isFn K (.ref f) = true) (hr : findIn K (.ref C) (dunderR op.info.2) = some rc) (hp : rc = none ∨ ∃ g : Addr, rc = some (.ref g))
    (h1 : findIn K (.type T) (PySem.dunder op.info.2) = some fo) (h2 : findIn K (.type T) (dunderR op.info.2) = some ro) (hsub : subIn K (.type T) (.ref C) = some false)
    (h : wpAny (model prog w) A (call (.ref f) [.ref x, b]) (CmpBack Q) E s) : wpAny (model prog w) A (binaryOp op (.ref x) b) Q E s := by
  have X := X₀.keeps F.keep
  obtain ⟨cd, rest, hcd, hm⟩ := ksp_first hc
  rcases hi : op.info with ⟨sym, nm'⟩
  rw [hi] at hs hr h1 h2
  dsimp only at hs hr h1 h2
  have one := ksp_try X I hs hf h
  obtain ⟨hh, g, d, tt, os⟩ := s
  have L1 : Looks (model prog w) hh (typeOf (.ref x)) (.ref C) := I.type
  have L2 : Looks (model prog w) hh (typeOf b) (.type T) := hb
  have L3 : Looks (model prog w) hh (fillsNumberSlot (.ref C) nm') true := fills_K X hcd hm hs
  have L4 : Looks (model prog w) hh (fillsNumberSlot (.type T) nm') ((fo.isSome && !isSeqSlot fo) || (ro.isSome && !isSeqSlot ro)) := ksp_fillsT X h1 h2
  have L5 : Looks (model prog w) hh (isSubtype (.type T) (.ref C)) false := looks_subIn X hsub
  have L6 : Looks (model prog w) hh (numberSlotInPython (.ref C) nm') true := ksp_inPy X hs hr hp
  have L7 : Looks (model prog w) hh (numberSlotInPython (.type T) nm') false := Looks.of_pure rfl
  have L8 : Looks (model prog w) hh (typeLookup (.type T) (dunderR nm')) ro := looks_findIn X h2
  generalize ((fo.isSome && !isSeqSlot fo) || (ro.isSome && !isSeqSlot ro)) = right at L4
  have hne : (Value.ref C == Value.type T) = false := Bool.eq_false_iff.mpr fun q => by cases beq_iff_eq.mp q
  simp only [binaryOp, hi]
  refine wpAny_holding (wpAny_bind ?_)
  unfold binaryOp1
  refine wpAny_bind (L1.at (wpAny_bind (L2.at (wpAny_bind (L3.at ?_)))))
  simp only [hne, Bool.false_eq_true, if_false]
  cases right with
  | false =>
    ksp_lk
    refine wpAny_mono one (fun r s' hr' => ?_) fun _ _ e => e
    obtain ⟨v, rfl, hq⟩ := hr'
    ksp_lk
    exact hq
  | true =>
    ksp_lk
    refine wpAny_mono one (fun r s' hr' => ?_) fun _ _ e => e
    obtain ⟨v, rfl, hq⟩ := hr'
    ksp_lk
    exact hq

/-- the class of x fills the slot by its reflected method -/
theorem gy_fillsR {M : Model} {h : Heap} {cd : ClassData} {rest : List Value} {fd : Option Value} (X : K.In h) (hc : clsIn K C = some cd) (hm : cd.mro = .ref C :: rest) (hd : findIn K (.ref C) (PySem.dunder nm) = some fd) (hp : fd = none ∨ ∃ g : Addr, fd = some (.ref g))
    (hs : findIn K (.ref C) (dunderR nm) = some (some (.ref f))) : Looks M h (fillsNumberSlot (.ref C) nm) true := by
  rcases hp with rfl | ⟨g, rfl⟩
  · intro A Q E s k q
    unfold fillsNumberSlot
    refine wpAny_bind ((looks_clsIn X hc).andThen (f := fun cd => pure cd.mro) .now A _ E s k ?_)
    rw [hm, List.anyM_cons]
    refine wpAny_bind ?_
    show wpAny M A (List.anyM _ [PySem.dunder nm, dunderR nm]) _ _ _
    rw [List.anyM_cons]
    refine wpAny_bind (wpAny_bind (looks_findIn X hd A _ E s k ?_))
    dsimp only
    refine wpAny_pure ?_
    rw [if_neg (by decide), List.anyM_cons]
    refine wpAny_bind (wpAny_bind (looks_findIn X hs A _ E s k ?_))
    dsimp only
    rw [if_pos (show (!ownNameWrapper (.ref f) (dunderR nm)) = true from rfl)]
    refine wpAny_pure ?_
    rw [if_pos rfl]
    refine wpAny_pure ?_
    rw [if_pos rfl]
    exact wpAny_pure q
  · exact fills_K X hc hm hd

/-- b op x, b of a built-in type whose own slot (if it is a number's) declines, x an own instance with the reflected method at f -/
theorem gy_binR {op : Operator} {b : Value} {fd fo ro : Option Value} {Q : Value → Shared → Prop} (F : Fr h₀ L s.heap m) (X₀ : K.In h₀) (I : InstAt s.heap x ox C od) (hb : Looks (model prog w) s.heap (typeOf b) (.type T)) (hc : selfFirst K C = true)
    (hd : findIn K (.ref C) (PySem.dunder op.info.2) = some fd) (hp : fd = none ∨ ∃ g : Addr, fd = some (.ref g))
    (hs : findIn K (.ref C) (dunderR op.info.2) = some (some (.ref f))) (hf : isFn K (.ref f) = true)
    (h1 : findIn K (.type T) (PySem.dunder op.info.2) = some fo) (h2 : findIn K (.type T) (dunderR op.info.2) = some ro) (hsub : subIn K (.ref C) (.type T) = some false)
    (hdec : ((fo.isSome && !isSeqSlot fo) || (ro.isSome && !isSeqSlot ro)) = true → ∀ P : Option Value → Shared → Prop, P none s → wpAny (model prog w) A (tryMethod b (PySem.dunder op.info.2) (.ref x)) P E s)
    (h : wpAny (model prog w) A (call (.ref f) [.ref x, b]) (CmpBack Q) E s) : wpAny (model prog w) A (binaryOp op b (.ref x)) Q E s := by
  have X := X₀.keeps F.keep
  obtain ⟨cd, rest, hcd, hm⟩ := ksp_first hc
  rcases hi : op.info with ⟨sym, nm'⟩
  rw [hi] at hs hd h1 h2 hdec
  dsimp only at hs hd h1 h2 hdec
  have one := ksp_try X I hs hf h
  obtain ⟨hh, g, d, tt, os⟩ := s
  have L1 : Looks (model prog w) hh (typeOf (.ref x)) (.ref C) := I.type
  have L2 : Looks (model prog w) hh (typeOf b) (.type T) := hb
  have L3 : Looks (model prog w) hh (fillsNumberSlot (.ref C) nm') true := gy_fillsR X hcd hm hd hp hs
  have L4 : Looks (model prog w) hh (fillsNumberSlot (.type T) nm') ((fo.isSome && !isSeqSlot fo) || (ro.isSome && !isSeqSlot ro)) := ksp_fillsT X h1 h2
  have L5 : Looks (model prog w) hh (isSubtype (.ref C) (.type T)) false := looks_subIn X hsub
  have L7 : Looks (model prog w) hh (numberSlotInPython (.type T) nm') false := Looks.of_pure rfl
  generalize ((fo.isSome && !isSeqSlot fo) || (ro.isSome && !isSeqSlot ro)) = left at L4 hdec
  have hne : (Value.type T == Value.ref C) = false := Bool.eq_false_iff.mpr fun q => by cases beq_iff_eq.mp q
  simp only [binaryOp, hi]
  refine wpAny_holding (wpAny_bind ?_)
  unfold binaryOp1
  refine wpAny_bind (L2.at (wpAny_bind (L1.at (wpAny_bind (L4.at ?_)))))
  simp only [hne, Bool.false_eq_true, if_false]
  cases left with
  | false =>
    ksp_lk
    refine wpAny_mono one (fun r s' hr' => ?_) fun _ _ e => e
    obtain ⟨v, rfl, hq⟩ := hr'
    ksp_lk
    exact hq
  | true =>
    ksp_lk
    refine hdec rfl _ ?_
    ksp_lk
    refine wpAny_mono one (fun r s' hr' => ?_) fun _ _ e => e
    obtain ⟨v, rfl, hq⟩ := hr'
    ksp_lk
    exact hq
end
end PySem.W

namespace PySem.GyDec
open PySem PySem.W
section
variable {C dx x : Addr} (a : Int) (t : Tok)
theorem add_dec : GivesAt (fun s => s.heap.get? x = some (instObj C dx)) (Builtin.«int.__add__» ⟨[.int a t, .ref x], []⟩) (.val .notImplemented) := fun prog w A R s hP h => by
  obtain ⟨hp, g, d, tk, os⟩ := s
  have hl : Heap.get? (Shared.heap ⟨hp, g, d, tk, os⟩) x = some (instObj C dx) := hP
  wp_walk using AutoSeq1.wpAny_loadPart' hl
  exact h
theorem sub_dec : GivesAt (fun s => s.heap.get? x = some (instObj C dx)) (Builtin.«int.__sub__» ⟨[.int a t, .ref x], []⟩) (.val .notImplemented) := fun prog w A R s hP h => by
  obtain ⟨hp, g, d, tk, os⟩ := s
  have hl : Heap.get? (Shared.heap ⟨hp, g, d, tk, os⟩) x = some (instObj C dx) := hP
  wp_walk using AutoSeq1.wpAny_loadPart' hl
  exact h
theorem mul_dec : GivesAt (fun s => s.heap.get? x = some (instObj C dx)) (Builtin.«int.__mul__» ⟨[.int a t, .ref x], []⟩) (.val .notImplemented) := fun prog w A R s hP h => by
  obtain ⟨hp, g, d, tk, os⟩ := s
  have hl : Heap.get? (Shared.heap ⟨hp, g, d, tk, os⟩) x = some (instObj C dx) := hP
  wp_walk using AutoSeq1.wpAny_loadPart' hl
  exact h
end
section
variable {prog : Program} {w : World} {A : Around} {E : Value → Shared → Prop} {s : Shared} {C dx x : Addr} {a : Int} {t : Tok} {P : Option Value → Shared → Prop}
theorem try_dec {name : Str} {id : String} {B : Builtin} (slot : Slot "int" name id) (entry : entryFor table id = some B) (args : argsOk id ⟨[.int a t, .ref x], []⟩)
    (g : GivesAt (fun s => s.heap.get? x = some (instObj C dx)) (B ⟨[.int a t, .ref x], []⟩) (.val .notImplemented)) (hx : s.heap.get? x = some (instObj C dx)) (h : P none s) : wpAny (model prog w) A (tryMethod (.int a t) name (.ref x)) P E s :=
  wpAny_tryMethod_declines (typeIs_int s a t) slot (call_givesAt slot (typeIs_int s a t) entry args g hx ⟨rfl, h⟩)
theorem try_add (hx : s.heap.get? x = some (instObj C dx)) (h : P none s) : wpAny (model prog w) A (tryMethod (.int a t) (PySem.dunder Operator.Add.info.2) (.ref x)) P E s :=
  try_dec (name := PySem.dunder Operator.Add.info.2) (id := "int.__add__") (B := Builtin.«int.__add__») F.slot_int_add F.entry_int_add (F.args_int_add_2 _ _) (add_dec a t) hx h
theorem try_sub (hx : s.heap.get? x = some (instObj C dx)) (h : P none s) : wpAny (model prog w) A (tryMethod (.int a t) (PySem.dunder Operator.Sub.info.2) (.ref x)) P E s :=
  try_dec (name := PySem.dunder Operator.Sub.info.2) (id := "int.__sub__") (B := Builtin.«int.__sub__») F.slot_int_sub F.entry_int_sub (F.args_int_sub_2 _ _) (sub_dec a t) hx h
theorem try_mul (hx : s.heap.get? x = some (instObj C dx)) (h : P none s) : wpAny (model prog w) A (tryMethod (.int a t) (PySem.dunder Operator.Mult.info.2) (.ref x)) P E s :=
  try_dec (name := PySem.dunder Operator.Mult.info.2) (id := "int.__mul__") (B := Builtin.«int.__mul__») F.slot_int_mul F.entry_int_mul (F.args_int_mul_2 _ _) (mul_dec a t) hx h
end
end PySem.GyDec

namespace L2
open PySem PySem.Spec PyProof.Rows
/-! ### an own class's operators -/
/-- what the text says of the class at C for the operator op: its method at g, its reflected one at r -/
structure GyOp (K : PySem.W.Frag) (C : Addr) (op : Operator) (g r : Addr) : Prop where
  sf : PySem.W.selfFirst K C = true
  d : PySem.W.findIn K (.ref C) (PySem.dunder op.info.2) = some (some (.ref g))
  df : PySem.W.isFn K (.ref g) = true
  rm : PySem.W.findIn K (.ref C) (dunderR op.info.2) = some (some (.ref r))
  rf : PySem.W.isFn K (.ref r) = true
  i1 : ∃ fo, PySem.W.findIn K (.type "int") (PySem.dunder op.info.2) = some fo
  i2 : ∃ ro, PySem.W.findIn K (.type "int") (dunderR op.info.2) = some ro
  up : PySem.W.subIn K (.type "int") (.ref C) = some false
  dn : PySem.W.subIn K (.ref C) (.type "int") = some false
theorem gy_back {P : Value → Shared → Prop} {z : V} {v : Value} {s' : Shared} (r : RelV z v) (h : P v s') : PySem.W.CmpBack P v s' := by
  cases z with
  | non => cases (show v = Value.none from r); exact h
  | bl b => cases (show v = Value.bool b from r); exact h
  | int i => obtain ⟨t, e⟩ := (show ∃ t, v = Value.int i t from r); cases e; exact h
  | str x => obtain ⟨t, e⟩ := (show ∃ t, v = Value.str x t from r); cases e; exact h
  | byt b => obtain ⟨t, e⟩ := (show ∃ t, v = Value.bytes b t from r); cases e; exact h
  | flt b => obtain ⟨t, e⟩ := (show ∃ t, v = Value.float b t from r); cases e; exact h
  | ref a => cases (show v = Value.ref a from r); exact h
  | ty n => cases (show v = Value.type n from r); exact h
section
variable {X : Cx} {CX : CXT} {pins : List (Addr × Obj)} {σ : St} {H : Hp} {s : Shared} {a C dx g r : Addr} {fs : List (Str × V)} {k : Nat} {fd : FuncData} {ps : List Str} {sp : Sp} {E : XK}
theorem ins_at (I : Inv X pins σ H s) (h : H a = some (.ins C dx fs)) : ∃ od, PySem.W.InstAt s.heap a (PySem.W.instObj C dx) C (some od) ∧ s.heap.get? a = some (PySem.W.instObj C dx) := by
  obtain ⟨mA, O, _⟩ := ins_get I.hok h
  obtain ⟨od, J, _⟩ := O.look
  exact ⟨od, J, J.at_⟩
/-- x op y, x an instance, y an instance or an int -/
def rGyD (C : Addr) (sp : Sp) (E : XK) : R2 := fun x y H Q => ∃ a dx fs, x = .ref a ∧ H a = some (.ins C dx fs) ∧ ((∃ b dy gs, y = .ref b ∧ H b = some (.ins C dy gs)) ∨ ∃ i, y = .int i) ∧ sp [x, y] H Q E
theorem op_gyD {op : Operator} (D : GyOp X.K C op g r) (F : FnOk X.prog X.w X.K X.mg X.base CX k g fd ps sp) (hr : Room k X.A) (hb : Binds X.K fd ps []) (hx : Passes CX X E) : OpR X (binaryOp op) (rGyD C sp E) := by
  intro pins s σ H x y v u Q I rx ry h
  obtain ⟨a, dx, fs, rfl, ha, hy, q⟩ := h
  obtain rfl : v = Value.ref a := rx
  obtain ⟨od, J, _⟩ := ins_at I ha
  obtain ⟨m, hF⟩ := I.fr
  have q' : sp ([.ref a, y] ++ []) H Q E := q
  have go : wpAny (model X.prog X.w) X.A (call (.ref g) [.ref a, u]) (PySem.W.CmpBack (EP X pins σ Q)) X.xe s :=
    wpAny_mono (run_fn (us := [.ref a, u]) (vs := [.ref a, y]) F hr hb .nil hx I (.cons rfl (.cons ry .nil)) q') (fun w s' z => by
      obtain ⟨z', H', I', rz, qz⟩ := z
      exact gy_back rz ⟨z', H', I', rz, qz⟩) fun _ _ e => e
  rcases hy with ⟨b, dy, gs, rfl, hb'⟩ | ⟨i, rfl⟩
  · obtain rfl : u = Value.ref b := ry
    obtain ⟨od', J', _⟩ := ins_at I hb'
    exact PySem.W.binop_K hF I.ok.mod.kin J J'.type D.sf D.d D.df go
  · obtain ⟨t, rfl⟩ := ry
    obtain ⟨fo, h1⟩ := D.i1
    obtain ⟨ro, h2⟩ := D.i2
    exact PySem.W.gy_binT hF I.ok.mod.kin J (PySem.W.Looks.of_pure rfl) D.sf D.d D.df D.rm (.inr ⟨r, rfl⟩) h1 h2 D.up go
/-- n op y, n an int, y an instance: its reflected method -/
def rGyR (C : Addr) (sp : Sp) (E : XK) : R2 := fun x y H Q => ∃ i b dy gs, x = .int i ∧ y = .ref b ∧ H b = some (.ins C dy gs) ∧ sp [y, x] H Q E
theorem op_gyR {op : Operator} (D : GyOp X.K C op g r) (dec : ∀ (A : Around) (E : Value → Shared → Prop) (s : Shared) (C dx x : Addr) (a : Int) (t : Tok) (P : Option Value → Shared → Prop), s.heap.get? x = some (PySem.W.instObj C dx) → P none s →
      wpAny (model X.prog X.w) A (tryMethod (.int a t) (PySem.dunder op.info.2) (.ref x)) P E s)
    (F : FnOk X.prog X.w X.K X.mg X.base CX k r fd ps sp) (hr : Room k X.A) (hb : Binds X.K fd ps []) (hx : Passes CX X E) : OpR X (binaryOp op) (rGyR C sp E) := by
  intro pins s σ H x y v u Q I rx ry h
  obtain ⟨i, b, dy, gs, rfl, rfl, hb', q⟩ := h
  obtain ⟨t, rfl⟩ := rx
  obtain rfl : u = Value.ref b := ry
  obtain ⟨od, J, hg⟩ := ins_at I hb'
  obtain ⟨m, hF⟩ := I.fr
  obtain ⟨fo, h1⟩ := D.i1
  obtain ⟨ro, h2⟩ := D.i2
  have q' : sp ([.ref b, .int i] ++ []) H Q E := q
  have go : wpAny (model X.prog X.w) X.A (call (.ref r) [.ref b, .int i t]) (PySem.W.CmpBack (EP X pins σ Q)) X.xe s :=
    wpAny_mono (run_fn (us := [.ref b, .int i t]) (vs := [.ref b, .int i]) F hr hb .nil hx I (.cons rfl (.cons ⟨t, rfl⟩ .nil)) q') (fun w s' z => by
      obtain ⟨z', H', I', rz, qz⟩ := z
      exact gy_back rz ⟨z', H', I', rz, qz⟩) fun _ _ e => e
  exact PySem.W.gy_binR hF I.ok.mod.kin J (PySem.W.Looks.of_pure rfl) D.sf D.d (.inr ⟨g, rfl⟩) D.rm D.rf h1 h2 D.dn (fun _ P hp => dec X.A _ s C dy b i t P hg hp) go
theorem op_gyRadd (D : GyOp X.K C .Add g r) (F : FnOk X.prog X.w X.K X.mg X.base CX k r fd ps sp) (hr : Room k X.A) (hb : Binds X.K fd ps []) (hx : Passes CX X E) : OpR X (binaryOp .Add) (rGyR C sp E) :=
  op_gyR D (fun A E s C dx x a t P hx hp => GyDec.try_add hx hp) F hr hb hx
theorem op_gyRsub (D : GyOp X.K C .Sub g r) (F : FnOk X.prog X.w X.K X.mg X.base CX k r fd ps sp) (hr : Room k X.A) (hb : Binds X.K fd ps []) (hx : Passes CX X E) : OpR X (binaryOp .Sub) (rGyR C sp E) :=
  op_gyR D (fun A E s C dx x a t P hx hp => GyDec.try_sub hx hp) F hr hb hx
theorem op_gyRmul (D : GyOp X.K C .Mult g r) (F : FnOk X.prog X.w X.K X.mg X.base CX k r fd ps sp) (hr : Room k X.A) (hb : Binds X.K fd ps []) (hx : Passes CX X E) : OpR X (binaryOp .Mult) (rGyR C sp E) :=
  op_gyR D (fun A E s C dx x a t P hx hp => GyDec.try_mul hx hp) F hr hb hx
/-- -x of an instance -/
def rGyN (C : Addr) (sp : Sp) (E : XK) : V → Hp → VK → Prop := fun x H Q => ∃ a dx fs, x = .ref a ∧ H a = some (.ins C dx fs) ∧ sp [x] H Q E
theorem un_gyN (hs : PySem.W.findIn X.K (.ref C) "__neg__" = some (some (.ref g))) (hf : PySem.W.isFn X.K (.ref g) = true) (F : FnOk X.prog X.w X.K X.mg X.base CX k g fd ps sp) (hr : Room k X.A) (hb : Binds X.K fd ps []) (hx : Passes CX X E) :
    UnR X (unaryOp .USub) (rGyN C sp E) := by
  intro pins s σ H x v Q I rx h
  obtain ⟨a, dx, fs, rfl, ha, q⟩ := h
  obtain rfl : v = Value.ref a := rx
  obtain ⟨od, J, _⟩ := ins_at I ha
  obtain ⟨m, hF⟩ := I.fr
  have q' : sp ([.ref a] ++ []) H Q E := q
  exact PySem.W.ksp_neg hF I.ok.mod.kin J hs hf (run_fn (us := [.ref a]) (vs := [.ref a]) F hr hb .nil hx I (.cons rfl .nil) q')
end
/-! ### great numbers -/
section
variable {X : Cx}
def GDiv (_ j : Int) : Prop := j ≠ 0 ∧ j.natAbs.log2 < 9000
theorem op_mulG : OpR X (binaryOp .Mult) (rI IntMulOk fun i j => .int (i * j)) := opI fun _ _ _ _ _ _ _ hc q => mul_int q hc
theorem op_fdivG : OpR X (binaryOp .FloorDiv) (rI GDiv fun i j => .int (i.fdiv j)) := opI fun _ _ _ _ _ _ _ hc q => floordiv_int hc.1 q (.inl (PyProof.noPylong_of_log2 hc.2))
end
theorem gDiv_lt {i j : Int} {b : Nat} (h : j ≠ 0) (hb : j.natAbs < 2 ^ b) (h0 : 0 < b) (h9 : b ≤ 9000) : GDiv i j := ⟨h, Nat.lt_of_lt_of_le (PySem.Flt.log2_lt_of h0 hb) h9⟩
end L2

namespace PySem
open PySem.W PyProof.Rows AutoSeq1
theorem gy_enum_new (l : Addr) (items : Array Value) (o : Obj) (n : Nat) (ho : o.cls = .type "tuple" ∧ o.data = .seq items n) :
    Meets (Builtin.«enumerate.__new__» ⟨[.type "enumerate", .ref l], []⟩) (fun _ R s => s.heap.get? l = some o ∧
      R (.ok (.ret (.ref (s.heap.push { cls := .type "tuple_iterator", data := .fields #[.ref l, .int 0 0] }).objs.size)))
        { s with heap := (s.heap.push { cls := .type "tuple_iterator", data := .fields #[.ref l, .int 0 0] }).push { cls := .type "enumerate", data := .fields #[.none, .bool false, .ref s.heap.objs.size, rawInt 0, .none, .none] } }) :=
  .of_wp fun prog w A R s h => by
    obtain ⟨hp, g, d, tk, os⟩ := s
    obtain ⟨hl, h⟩ := h
    have hsub := sub_enumerate
    have hL : Heap.IsTuple (Shared.heap ⟨hp, g, d, tk, os⟩) l items := ⟨_, hl, ho.1, n, ho.2⟩
    wp_walk using wpAny_loadPart' hl
    refine wpAny_stack_any fun st => wpAny_pure ?_
    split
    · rename_i c _ _ _ _ _
      cases (c == Value.type "enumerate")
      · wp_walk using wpAny_loadPart' hl, wpAny_pyIter_tuple hL
        exact ⟨_, rfl, h⟩
      · wp_walk using wpAny_loadPart' hl, wpAny_pyIter_tuple hL
        exact ⟨_, rfl, h⟩
    · wp_walk using wpAny_loadPart' hl, wpAny_pyIter_tuple hL
      exact ⟨_, rfl, h⟩
section
variable {prog : Program} {w : World} {A : Around} {E : Value → Shared → Prop} {s : Shared}
theorem gy_call_enum {l : Addr} {items : Array Value} {Q : Value → Shared → Prop} (hL : IsTup s.heap l items)
    (h : ∀ h', IsEnum h' (s.heap.objs.size + 1) s.heap.objs.size 0 .none → h'.IsTupleIter s.heap.objs.size l 0 → h'.objs.size = s.heap.objs.size + 2 →
      (∀ b o, s.heap.get? b = some o → h'.get? b = some o) → Q (.ref (s.heap.objs.size + 1)) { s with heap := h' }) :
    wpAny (model prog w) A (call (.type "enumerate") [.ref l]) Q E s := by
  obtain ⟨o, hl, hc, n, hd⟩ := hL
  refine callType_new F.called_enumerate (by decide) (F.typeCall_enumerate_1 _) (F.newCall_enumerate_1 _) (fun obj => F.args_object_init_2 obj _) F.entry_enumerate_new
    (gy_enum_new l items o n ⟨hc, hd⟩) ⟨hl, ?_⟩
  have hz : (s.heap.push { cls := .type "tuple_iterator", data := .fields #[.ref l, .int 0 0] }).objs.size = s.heap.objs.size + 1 := Heap.size_push ..
  show _ ∧ _
  rw [hz]
  have he : IsEnum ((s.heap.push { cls := .type "tuple_iterator", data := .fields #[.ref l, .int 0 0] }).push
      { cls := .type "enumerate", data := .fields #[.none, .bool false, .ref s.heap.objs.size, rawInt 0, .none, .none] }) (s.heap.objs.size + 1) s.heap.objs.size 0 .none := by
    have := Heap.get?_push_size (s.heap.push { cls := .type "tuple_iterator", data := .fields #[.ref l, .int 0 0] })
      (o := { cls := .type "enumerate", data := .fields #[.none, .bool false, .ref s.heap.objs.size, rawInt 0, .none, .none] }) rfl
    rw [hz] at this; exact this
  refine ⟨⟨_, he, rfl⟩, h _ he ⟨_, Heap.get?_push_of_some _ (Heap.get?_push_size _ rfl), rfl, rfl⟩ (by rw [Heap.size_push, hz]) fun b o x => Heap.get?_push_of_some _ (Heap.get?_push_of_some _ x)⟩
end
end PySem
namespace L2
open PySem PySem.Spec PyProof.Rows
/-! ### enumerate of a tuple -/
def IteT (K : PySem.W.Frag) (a : Addr) : It :=
  ⟨fun i H => ∃ (xs : List V) (x : V), SqT K H a xs ∧ xs[i]? = some x, fun i H v H' => ∃ T x, v = .ref T ∧ H T = none ∧ H' = upd H T (.tup [.int (i : Nat), x]) ∧ ∀ xs, SqT K H a xs → xs[i]? = some x, fun i H => ∃ xs : List V, SqT K H a xs ∧ xs.length ≤ i⟩
theorem turn_enumT {P : Program} {w : World} {K : PySem.W.Frag} {elts : List Expr} {kk : Nat} {tpos : Pos} (a e it : Addr) :
    Turn P w K (.Tuple elts kk tpos) (IteT K a) [e, it] e (fun i h => (∃ old, IsEnum h e it ((i : Nat) : Int) old) ∧ h.IsTupleIter it a i ∧ e ≠ it) where
  mem := by simp
  obj := fun i h st b hb => by
    obtain ⟨⟨old, he⟩, ⟨o, ho, hc, hd⟩, _⟩ := st
    have e' : b = e ∨ b = it := by simpa using hb
    rcases e' with z | z
    · rw [z]; exact ⟨_, he, fun v q => nomatch q⟩
    · rw [z]; exact ⟨o, ho, fun v q => by rw [hd] at q; cases q⟩
  keep := fun i h h' st k => let ⟨⟨old, he⟩, hi, hne⟩ := st; ⟨⟨old, k e (by simp) _ he⟩, hi.at fun o q => k it (by simp) o q, hne⟩
  item := by
    intro X hP hw hK hc i pins s σ H E I hf st hg
    subst hP hw hK
    obtain ⟨⟨old, he⟩, hit, hne⟩ := st
    obtain ⟨xs, x, hq, hx⟩ := hg
    obtain ⟨its, rv, p, hz⟩ := I.tuple hq
    obtain ⟨u, hu, ru⟩ := rv.get hx
    have hel : e < s.heap.objs.size := Heap.lt_size he
    have hil : it < s.heap.objs.size := by obtain ⟨_, q, _⟩ := hit; exact Heap.lt_size q
    have pa : s.heap.IsTuple a its.toArray := p
    have ha_it : a ≠ it := by
      intro z
      obtain ⟨o, h1, h2, _⟩ := p
      obtain ⟨o', h3, h4, _⟩ := hit
      rw [z, h3] at h1
      cases h1
      rw [h2] at h4
      exact absurd (Value.type.inj h4) (by decide)
    have ha_e : a ≠ e := by
      intro z
      obtain ⟨o, h1, h2, _⟩ := p
      have h3 := he
      unfold IsEnum at h3
      rw [z, h3] at h1
      cases h1
      exact absurd (Value.type.inj h2) (by decide)
    have hhd : X.A.in1.handled = none := I.ok.hd hc
    have hlt : i < its.toArray.size := by
      have := (List.getElem?_eq_some_iff.mp hu).1
      simpa using this
    refine wpAny_pyNext_enum_itemD (Draws.tuple (prog := X.prog) (w := X.w) hhd it a ha_it its.toArray) he ⟨hit, pa⟩ hlt hne (by simp [hne, ha_e.symm]) fun y h' tk hy ho hst hT hsz hk => ?_
    have hyu : y = u := by
      have h1 : its.toArray[i]? = some y := hy
      have h2 : its[i]? = some y := by simpa using h1
      rw [hu] at h2
      exact (Option.some.inj h2).symm
    subst hyu
    refine ⟨_, rfl, wpAny_letOwnedTupleGo_enum (s := { s with heap := h', toks := tk + 1 }) ho fun h'' he' sb => ?_⟩
    have hT2 : h''.get? s.heap.objs.size = some { cls := .type "tuple", data := .seq #[.int i tk, y] } := (sb.2 _ (Nat.ne_of_gt hel)).trans hT
    have new : ObjOk X.prog X.w (upd H s.heap.objs.size (.tup [.int (i : Nat), x])) h'' s.heap.objs.size (.tup [.int (i : Nat), x]) :=
      ⟨by show 2 ≤ sizeLine; decide, [.int i tk, y], .cons ⟨_, rfl⟩ (.cons ru .nil), ⟨_, hT2, rfl, _, rfl⟩⟩
    have I1 : Inv X pins σ (upd H s.heap.objs.size (.tup [.int (i : Nat), x])) { s with heap := h'', toks := tk + 1 } :=
      I.turnedNew (ch := [e, it]) (fun b ob hb q => (sb.2 b (fun z => hb (by simp [z]))).trans (hk b ob (fun z => hb (by simp [z])) (fun z => hb (by simp [z])) q)) hf (Nat.le_refl _) new
    refine ⟨.ref s.heap.objs.size, _, I1, rfl, ⟨_, x, rfl, I.hok.fresh (Nat.le_refl _), rfl, fun ys hy => by rw [I.tuple_inj hy hq]; exact hx⟩, ⟨⟨y, ?_⟩, hst.1.at fun o q => (sb.2 it (Ne.symm hne)).trans q, hne⟩, fun b hb => ?_⟩
    · have e1 : ((i + 1 : Nat) : Int) = (i : Int) + 1 := by omega
      rw [e1]; exact he'
    · have hb' : b < s.heap.objs.size := by
        have e' : b = e ∨ b = it := by simpa using hb
        rcases e' with z | z
        · rw [z]; exact hel
        · rw [z]; exact hil
      rw [upd_ne (Nat.ne_of_lt hb')]
      exact (hf b hb).1
  done := by
    intro X hP hw hK hc i pins s σ H E I hf st hg
    subst hP hw hK
    obtain ⟨⟨old, he⟩, hit, hne⟩ := st
    obtain ⟨xs, hq, hx⟩ := hg
    obtain ⟨its, rv, p, hz⟩ := I.tuple hq
    obtain ⟨f0, f1, f2, f3, f4, f5⟩ := hf it (by simp)
    have hl := rv.length
    have pa : s.heap.IsTuple a its.toArray := p
    have ha_it : a ≠ it := by
      intro z
      obtain ⟨o, h1, h2, _⟩ := p
      obtain ⟨o', h3, h4, _⟩ := hit
      rw [z, h3] at h1
      cases h1
      rw [h2] at h4
      exact absurd (Value.type.inj h4) (by decide)
    have hhd : X.A.in1.handled = none := I.ok.hd hc
    have hT : s.TypeIs (.ref e) "enumerate" := ⟨_, he, rfl⟩
    unfold pyNext
    refine wpAny_bind (wpAny_attempt (wpAny_callSpecial?_slot (name := Str.ofString "__next__") hT F.slot_enumerate_next
      (wpAny_call_entry F.slot_enumerate_next hT F.entry_enumerate_next ?_ (F.args_enumerate_next_1 _))))
    show wpAny _ _ (field (.ref e) 2 >>= _) _ _ _
    refine wpAny_bind (wpAny_field he rfl (x := .ref it) rfl ?_)
    refine wpAny_bind (wpAny_nextOf_tuple_end hhd hit pa (by simp; omega) fun h' x he' hx' => ?_)
    obtain ⟨o, ho, hcl⟩ := hx'
    refine wpAny_bind (wpAny_isInstance (T := "StopIteration") (b := true) ⟨o, ho, hcl⟩ isSubtype_stop ?_)
    exact wpAny_pure ⟨rfl, I.turned (t' := s.toks) (fun b o hb q => he' b o hb q) f0 f1 f3 f4 f5⟩
  self := fun A i s Q E st h => let ⟨⟨_, he⟩, _⟩ := st; wpAny_pyIter_enum he h
def iEnumT (K : PySem.W.Frag) (ta : TA) : TI := fun σ H R => ta σ H fun vs H1 => ∃ a xs, vs = [.ref a] ∧ SqT K H1 a xs ∧ R (IteT K a) H1
theorem pi_enumT {X : Cx} {e : Expr} {ta : TA} {p pos tpos : Pos} {elts : List Expr} {kk : Nat} (hg : Gl X "enumerate") (hm : X.mg "enumerate" = none) (ha : PA X [e] ta) (hs : starEach [e] X.env = [(false, eval e X.env)] := by rfl) :
    PI X (.Tuple elts kk tpos) (.Call (.Name "enumerate" p) [e] [] pos) (iEnumT X.K ta) := by
  refine ⟨fun pins s σ H R I h => ?_⟩
  refine Call_ (ld_blt I hg hm boot_enumerate (PyProof.Rows.callWith_type1 (thn (ha.run pos pins s σ H _ I h) fun us s1 ⟨vs, H1, I1, r1, q1⟩ => ?_) hs rfl))
  obtain ⟨a, xs, ex, hq, q⟩ := q1
  subst ex
  cases r1 with
  | cons r rr =>
    cases rr
    cases r
    obtain ⟨its, rv, p', hz⟩ := I1.tuple hq
    refine gy_call_enum p' fun h' he hit hsz hk => wpAny_pyIter_enum he ?_
    have I2 : Inv X pins σ H1 { s1 with heap := h' } := I1.kept (t' := s1.toks) hk
    refine ⟨s1.heap.objs.size + 1, [s1.heap.objs.size + 1, s1.heap.objs.size], _, _, H1, rfl, I2, turn_enumT a (s1.heap.objs.size + 1) s1.heap.objs.size, ⟨⟨.none, he⟩, hit, Nat.succ_ne_self _⟩, fun b hb => ?_, q⟩
    have e' : b = s1.heap.objs.size + 1 ∨ b = s1.heap.objs.size := by simpa using hb
    have hle : s1.heap.objs.size ≤ b := by
      rcases e' with z | z
      · rw [z]; exact Nat.le_add_right _ _
      · rw [z]; exact Nat.le_refl _
    exact I1.fpOk hle (I1.hok.fresh hle)
/-- over enumerate of a tuple that stands still: the pair stands in a new tuple at T -/
theorem for_enumT {K : PySem.W.Frag} {a : Addr} {xs : List V} {g : TG} {tb : TS} {D : Ends} {σ : St} {H : Hp} (Pv : Nat → St → Hp → Prop) (h0 : Pv 0 σ H) (hl : ∀ i σ H, i ≤ xs.length → Pv i σ H → SqT K H a xs)
    (hs : ∀ i x σ H T, xs[i]? = some x → Pv i σ H → H T = none → g (.ref T) σ (upd H T (.tup [.int (i : Nat), x])) fun σ2 H2 => tb { D with nx := Pv (i + 1), ct := Pv (i + 1), bk := D.nx } σ2 H2) (hd : ∀ σ H, Pv xs.length σ H → D.nx σ H) :
    ∃ W : Nat → Nat → St → Hp → Prop, (∃ m, W 0 m σ H) ∧ ∀ i m σ H, W i m σ H →
      ((IteT K a).stop i H ∧ D.nx σ H) ∨ ((IteT K a).go i H ∧ ∃ N : St → Hp → Prop, (∀ σ' H', N σ' H' → ∃ m', m' < m ∧ W (i + 1) m' σ' H') ∧ ∀ x H', (IteT K a).yld i H x H' → g x σ H' fun σ2 H2 => tb { D with nx := N, ct := N, bk := D.nx } σ2 H2) := by
  refine ⟨fun i m σ H => m = xs.length - i ∧ i ≤ xs.length ∧ Pv i σ H, ⟨xs.length, by simp, Nat.zero_le _, h0⟩, ?_⟩
  rintro i m σ H ⟨rfl, hi, p⟩
  have q := hl i σ H hi p
  by_cases hlt : i < xs.length
  · refine .inr ⟨⟨xs, xs[i], q, by simp [hlt]⟩, Pv (i + 1), fun σ' H' p' => ⟨xs.length - (i + 1), by omega, rfl, hlt, p'⟩, fun x H' y => ?_⟩
    obtain ⟨T, z, rfl, hT, e, y⟩ := y
    subst e
    exact hs i z σ H T (y xs q) p hT
  · have e : i = xs.length := by omega
    subst e
    exact .inl ⟨⟨xs, q, Nat.le_refl _⟩, hd σ H p⟩
end L2

set_option Elab.async false
set_option linter.all false
set_option maxRecDepth 100000
set_option maxHeartbeats 4000000
/-! Lay1: heaps from one moment to the next, reduced fractions, sizes. -/
namespace Gy
open PySem L2

/-! ### heaps -/
/-- a new object, its heap by a name of its own -/
theorem alloc {H : Hp} {o : HO} {Q : V → Hp → Prop} (h : ∀ p H1, H p = none → Same H H1 → H1 p = some o → Q (.ref p) H1) : ∀ p, H p = none → Q (.ref p) (upd H p o) := fun p hp =>
  h p _ hp (fun b u e => by rw [upd_ne (ne_of_none e hp)]; exact e) upd_same
/-- all but the object at st is as it was -/
def Keep (st : Addr) (H H' : Hp) : Prop := ∀ b o, H b = some o → b ≠ st → H' b = some o
theorem Keep.refl (st : Addr) (H : Hp) : Keep st H H := fun _ _ e _ => e
theorem Keep.trans {st : Addr} {H H1 H2 : Hp} (a : Keep st H H1) (b : Keep st H1 H2) : Keep st H H2 := fun c o e n => b c o (a c o e n) n
theorem Same.keep {st : Addr} {H H1 : Hp} (a : Same H H1) : Keep st H H1 := fun c o e _ => a c o e
theorem keep_upd {st : Addr} {H : Hp} {o : HO} : Keep st H (upd H st o) := fun b u e n => by rw [upd_ne n]; exact e
theorem same_upd {p : Addr} {H : Hp} {o : HO} (h : H p = none) : Same H (upd H p o) := fun b u e => by rw [upd_ne (ne_of_none e h)]; exact e
/-- an instance that is being made -/
theorem made {H : Hp} {x dx C : Addr} (nx : H x = none) (nd : H dx = none) (ne : dx ≠ x) : Same H (upd (upd H dx (.own x)) x (.ins C dx [])) := fun b o e => by
  rw [upd_ne (ne_of_none e nx), upd_ne (ne_of_none e nd)]
  exact e

/-- the state of the draws at st: its cells are the ints ns -/
def StAt (H : Hp) (st c : Addr) (ns : List Int) : Prop := (∃ nth left mx, H st = some (.lst [.ref c, .int nth, .int left, .bl mx])) ∧ H c = some (.lst (ns.map V.int)) ∧ c ≠ st
theorem StAt.same {H H' : Hp} {st c : Addr} {ns : List Int} (h : StAt H st c ns) (e : Same H H') : StAt H' st c ns :=
  ⟨let ⟨a, b, d, z⟩ := h.1; ⟨a, b, d, e _ _ z⟩, e _ _ h.2.1, h.2.2⟩
theorem StAt.upd {H : Hp} {st c : Addr} {ns : List Int} {nth left : Int} {mx : Bool} (h : StAt H st c ns) : StAt (upd H st (.lst [.ref c, .int nth, .int left, .bl mx])) st c ns :=
  ⟨⟨nth, left, mx, upd_same⟩, by rw [upd_ne h.2.2]; exact h.2.1, h.2.2⟩

/-! ### sizes -/
theorem mulOk {a b : Int} {m n : Nat} (ha : a.natAbs < 2 ^ m) (hb : b.natAbs < 2 ^ n) (h0 : 0 < m) (h1 : 0 < n) (h : m + n ≤ 1000000) : IntMulOk a b := (wide_mul ha hb h0 h1 h).ok
theorem mulOk_l {a b : Int} (h : -(2 ^ 64) < a ∧ a < 2 ^ 64) : IntMulOk a b := (show CMul a b from .inl h).ok
theorem mulOk_r {a b : Int} (h : -(2 ^ 64) < b ∧ b < 2 ^ 64) : IntMulOk a b := (show CMul a b from .inr h).ok
theorem sz_mul {a b : Int} {m n : Nat} (ha : a.natAbs < 2 ^ m) (hb : b.natAbs < 2 ^ n) : (a * b).natAbs < 2 ^ (m + n) := wide_lt ha hb
theorem sz_add {a b : Int} {m : Nat} (ha : a.natAbs < 2 ^ m) (hb : b.natAbs < 2 ^ m) : (a + b).natAbs < 2 ^ (m + 1) := by
  rw [Nat.pow_succ]
  omega
theorem sz_sub {a b : Int} {m : Nat} (ha : a.natAbs < 2 ^ m) (hb : b.natAbs < 2 ^ m) : (a - b).natAbs < 2 ^ (m + 1) := by
  rw [Nat.pow_succ]
  omega
theorem sz_neg {a : Int} {m : Nat} (ha : a.natAbs < 2 ^ m) : (-a).natAbs < 2 ^ m := by
  rw [Int.natAbs_neg]
  exact ha
theorem sz_up {a : Int} {m n : Nat} (ha : a.natAbs < 2 ^ m) (h : m ≤ n) : a.natAbs < 2 ^ n := Nat.lt_of_lt_of_le ha (Nat.pow_le_pow_right (by decide) h)

/-! ### fractions -/
/-- what reduces a over b: their greatest common part, with b's sign -/
def red_w (a b : Int) : Int := if b < 0 then -(Int.gcd a b : Int) else (Int.gcd a b : Int)
def red (a b : Int) : Int × Int := (a.fdiv (red_w a b), b.fdiv (red_w a b))
/-- a reduced pair -/
def Rd (p : Int × Int) : Prop := 0 < p.2 ∧ Int.gcd p.1 p.2 = 1
theorem red_w_ne {a b : Int} (h : b ≠ 0) : red_w a b ≠ 0 := by
  have g : (Int.gcd a b) ≠ 0 := by
    intro z
    exact h (Int.gcd_eq_zero_iff.mp z).2
  unfold red_w
  split <;> omega
theorem gcd_le {a b : Int} (h : b ≠ 0) : Int.gcd a b ≤ b.natAbs := Nat.le_of_dvd (Int.natAbs_pos.mpr h) (by rw [Int.gcd]; exact Nat.gcd_dvd_right _ _)
theorem red_w_abs {a b : Int} : (red_w a b).natAbs = Int.gcd a b := by
  unfold red_w
  split <;> simp
theorem red_w_dvd {a b : Int} : red_w a b ∣ a ∧ red_w a b ∣ b := by
  have h1 : (Int.gcd a b : Int) ∣ a := Int.gcd_dvd_left ..
  have h2 : (Int.gcd a b : Int) ∣ b := Int.gcd_dvd_right ..
  unfold red_w
  split
  · exact ⟨Int.neg_dvd.mpr h1, Int.neg_dvd.mpr h2⟩
  · exact ⟨h1, h2⟩
/-- the two parts, times what was taken out -/
theorem red_mul {a b : Int} : (red a b).1 * red_w a b = a ∧ (red a b).2 * red_w a b = b := by
  obtain ⟨h1, h2⟩ := red_w_dvd (a := a) (b := b)
  unfold red
  exact ⟨Int.fdiv_mul_cancel h1, Int.fdiv_mul_cancel h2⟩
theorem red_rd {a b : Int} (h : b ≠ 0) : Rd (red a b) := by
  obtain ⟨e1, e2⟩ := red_mul (a := a) (b := b)
  have w0 := red_w_ne (a := a) h
  have wa := red_w_abs (a := a) (b := b)
  generalize hp : (red a b).1 = p at e1
  generalize hq : (red a b).2 = q at e2
  generalize hw : red_w a b = w at *
  refine ⟨?_, ?_⟩
  · rw [hq]
    -- b and w have the same sign
    have hs : (b < 0 → w < 0) ∧ (0 < b → 0 < w) := by
      unfold red_w at hw
      have g : 0 < Int.gcd a b := Nat.pos_of_ne_zero fun z => h (Int.gcd_eq_zero_iff.mp z).2
      constructor
      · intro hb
        rw [if_pos hb] at hw
        omega
      · intro hb
        rw [if_neg (by omega)] at hw
        omega
    rcases Int.lt_or_gt_of_ne h with hb | hb
    · have hw0 := hs.1 hb
      rcases Int.lt_trichotomy q 0 with z | z | z
      · have := Int.mul_pos_of_neg_of_neg z hw0
        omega
      · rw [z] at e2
        omega
      · exact z
    · have hw0 := hs.2 hb
      rcases Int.lt_trichotomy q 0 with z | z | z
      · have := Int.mul_neg_of_neg_of_pos z hw0
        omega
      · rw [z] at e2
        omega
      · exact z
  · rw [hp, hq]
    have e : Int.gcd a b = Int.gcd p q * w.natAbs := by rw [← e1, ← e2, Int.gcd_mul_right]
    rw [wa] at e
    have g : 0 < Int.gcd a b := Nat.pos_of_ne_zero fun z => h (Int.gcd_eq_zero_iff.mp z).2
    have : 1 * Int.gcd a b = Int.gcd p q * Int.gcd a b := by rw [Nat.one_mul]; exact e
    exact (Nat.eq_of_mul_eq_mul_right g this).symm
/-- a reduced pair made larger by a factor is what it was -/
theorem red_scale {p : Int × Int} (h : Rd p) {s : Int} (hs : s ≠ 0) : red (p.1 * s) (p.2 * s) = p := by
  obtain ⟨h1, h2⟩ := h
  have eg : Int.gcd (p.1 * s) (p.2 * s) = s.natAbs := by rw [Int.gcd_mul_right, h2, Nat.one_mul]
  have ew : red_w (p.1 * s) (p.2 * s) = s := by
    unfold red_w
    rw [eg]
    rcases Int.lt_or_gt_of_ne hs with z | z
    · rw [if_pos (Int.mul_neg_of_pos_of_neg h1 z)]
      omega
    · rw [if_neg (by have := Int.mul_pos h1 z; omega)]
      omega
  unfold red
  rw [ew]
  exact Prod.ext (Int.mul_fdiv_cancel _ hs) (Int.mul_fdiv_cancel _ hs)
theorem red_self {p : Int × Int} (h : Rd p) : red p.1 p.2 = p := by
  have := red_scale h (s := 1) (by decide)
  rwa [Int.mul_one, Int.mul_one] at this
theorem rd_int (n : Int) : Rd (n, 1) := ⟨(by decide : (0 : Int) < 1), Int.gcd_one_right ..⟩
theorem red_neg {p : Int × Int} (h : Rd p) : red (-p.1) p.2 = (-p.1, p.2) := red_self (p := (-p.1, p.2)) ⟨h.1, by show Int.gcd (-p.1) p.2 = 1; rw [Int.neg_gcd]; exact h.2⟩
theorem rd_neg {p : Int × Int} (h : Rd p) : Rd (-p.1, p.2) := ⟨h.1, by show Int.gcd (-p.1) p.2 = 1; rw [Int.neg_gcd]; exact h.2⟩
/-- parts are no larger than what they come from -/
theorem red_sz {a b : Int} {m n : Nat} (h : b ≠ 0) (ha : a.natAbs < 2 ^ m) (hb : b.natAbs < 2 ^ n) : (red a b).1.natAbs < 2 ^ m ∧ (red a b).2.natAbs < 2 ^ n := by
  obtain ⟨e1, e2⟩ := red_mul (a := a) (b := b)
  have w1 : 1 ≤ (red_w a b).natAbs := Int.natAbs_pos.mpr (red_w_ne h)
  have f : ∀ x w : Int, 1 ≤ w.natAbs → x.natAbs ≤ (x * w).natAbs := fun x w hw => by
    rw [Int.natAbs_mul]
    exact Nat.le_mul_of_pos_right _ hw
  exact ⟨Nat.lt_of_le_of_lt (Nat.le_trans (f _ _ w1) (Nat.le_of_eq (congrArg Int.natAbs e1))) ha, Nat.lt_of_le_of_lt (Nat.le_trans (f _ _ w1) (Nat.le_of_eq (congrArg Int.natAbs e2))) hb⟩
theorem red_w_sz {a b : Int} {n : Nat} (h : b ≠ 0) (hb : b.natAbs < 2 ^ n) : (red_w a b).natAbs < 2 ^ n := by
  rw [red_w_abs]
  exact Nat.lt_of_le_of_lt (gcd_le h) hb
/-- a step of Euclid -/
theorem gcd_step (a b : Int) : Int.gcd b (a.fmod b) = Int.gcd a b := by
  have e : a = b * a.fdiv b + a.fmod b := (Int.mul_fdiv_add_fmod a b).symm
  rw [Int.gcd_comm a b]
  conv => rhs; rw [e]
  rw [Int.add_comm, Int.gcd_add_mul_left_right]
theorem fmod_lt {a b : Int} (h : b ≠ 0) : (a.fmod b).natAbs < b.natAbs := by
  rcases Int.lt_or_gt_of_ne h with z | z
  · have e := Int.neg_fmod_neg a b
    have h1 := Int.fmod_nonneg_of_pos (-a) (b := -b) (by omega)
    have h2 := Int.fmod_lt_of_pos (-a) (b := -b) (by omega)
    omega
  · have h1 := Int.fmod_nonneg_of_pos a z
    have h2 := Int.fmod_lt_of_pos a z
    omega
end Gy
namespace Gy
open PySem L2
/-- a while whose test only reads: W by a measure that is not 0 where the body runs -/
theorem while_any {c : TT} {tb : TS} {D : Ends} {σ : L2.St} {H : Hp} (W : Nat → L2.St → Hp → Prop) (h0 : ∃ m, W m σ H)
    (test : ∀ m σ H (Q : Bool → Hp → Prop), W m σ H → (m ≠ 0 → Q true H) → Q false H → c σ H Q)
    (turn : ∀ m σ H, m ≠ 0 → W m σ H → tb { D with nx := fun σ' H' => ∃ m', m' < m ∧ W m' σ' H', ct := fun σ' H' => ∃ m', m' < m ∧ W m' σ' H', bk := D.nx } σ H) (done : ∀ m σ H, W m σ H → D.nx σ H) : tWhile c tb D σ H :=
  ⟨W, h0, fun m σ H w => test m σ H _ w (fun hm => iteT ⟨fun σ' H' => ∃ m', m' < m ∧ W m' σ' H', fun _ _ z => z, turn m σ H hm w⟩) (iteF (done m σ H w))⟩
end Gy
namespace Gy
open PySem L2
theorem walk_zipT {K : PySem.W.Frag} {a b : Addr} {xs ys : List V} {n : Nat} (hn : n = min xs.length ys.length) : Walk (RZ.ItzT K a b) n (fun H => SqT K H a xs ∧ SqT K H b ys) (YPair (fun i => xs[i]?) (fun i => ys[i]?)) := by
  refine ⟨fun i H hi hq => ?_, fun H hq => ?_, fun i H x H' _ hq y => ?_⟩
  · have h1 : i < xs.length := by omega
    have h2 : i < ys.length := by omega
    exact ⟨xs, ys, xs[i], ys[i], hq.1, hq.2, List.getElem?_eq_getElem h1, List.getElem?_eq_getElem h2⟩
  · refine ⟨xs, ys, hq.1, hq.2, ?_⟩
    omega
  · obtain ⟨T, u, v, rfl, nT, e, h1, h2⟩ := y
    exact ⟨T, u, v, rfl, nT, e, h1 xs hq.1, h2 ys hq.2⟩
end Gy
namespace Gy
open PySem L2
/-- a comprehension without a test keeps each item -/
theorem yes_of {σ : L2.St} {H : Hp} {A B : Hp → Prop} (h : A H) : tYes σ H fun b H3 => if b = true then A H3 else B H3 := by
  show (if true = true then A H else B H)
  exact iteT h
end Gy
namespace L2
open PySem PySem.Spec PyProof.Rows
/-- a def with defaults that lets nothing out -/
theorem FunD.ok0 {P : Program} {w : World} {K : PySem.W.Frag} {mg : Str → Option Value} {base : Heap} {x qual : Str} {params : Arguments} {body : List Stmt} {scope : Scope} {dvs : List V} {kws : List (Str × V)} {f : Addr} {fd : FuncData} {N ps : List Str} {k : Nat} {sp : Sp}
    (F : FunD K x qual params body scope dvs kws f fd) (S : FnScope N ps scope) (len : ∀ vs H Q E, sp vs H Q E → vs.length = ps.length)
    (hbody : ∀ (cdv : Value) (A : Around) (outer : List Env) (s : Shared) (H : Hp) (vs : List V) (Q : VK) (E : XK), Room k (A.deeper (envOfC qual scope s.heap.objs.size f cdv)) → sp vs H Q E →
      ∃ t, PSs (cxOf CX0 P w K mg base N qual scope f cdv A outer s H E).nox body t ∧ t { nx := fun _ H' => Q .non H', rt := Q } (start N vs) H) : FnOk P w K mg base CX0 (k + 1) f fd ps sp :=
  F.ok S len fun cdv A outer s H vs Q E hr h => let ⟨t, a, b⟩ := hbody cdv A outer s H vs Q E hr h; ⟨t, a.nox, b⟩
end L2
namespace Gy
open PySem L2
/-! ### isinstance against an own class, of an own class -/
theorem kit_self {K : PySem.W.Frag} {C : Addr} : PySem.W.kitOne K (.ref C) (.ref C) = some true := by
  unfold PySem.W.kitOne
  rw [if_pos (beq_iff_eq.mpr rfl)]
theorem kit_to {K : PySem.W.Frag} {C : Addr} {t : String} {b : Bool} (ic : PySem.W.isClsIn K C = true) (ty : PySem.W.typeIn K (.ref C) = some (.type "type")) (up : PySem.W.subIn K (.type t) (.ref C) = some b) : PySem.W.kitOne K (.type t) (.ref C) = some b := by
  unfold PySem.W.kitOne
  rw [if_neg (fun q => by cases beq_iff_eq.mp q)]
  unfold PySem.W.kitCls
  have h : ((PySem.W.clsIn K C).isSome && PySem.W.typeIn K (.ref C) == some (.type "type")) = true := by
    rw [ty, show (PySem.W.clsIn K C).isSome = true from ic]
    rfl
  show (if ((PySem.W.clsIn K C).isSome && PySem.W.typeIn K (.ref C) == some (.type "type")) = true then PySem.W.subIn K (.type t) (.ref C) else none) = some b
  rw [if_pos h]
  exact up
theorem kit_of_to {K : PySem.W.Frag} {C D : Addr} {b : Bool} (ne : C ≠ D) (ic : PySem.W.isClsIn K D = true) (ty : PySem.W.typeIn K (.ref D) = some (.type "type")) (up : PySem.W.subIn K (.ref C) (.ref D) = some b) : PySem.W.kitOne K (.ref C) (.ref D) = some b := by
  unfold PySem.W.kitOne
  rw [if_neg (fun q => ne (Value.ref.inj (beq_iff_eq.mp q)))]
  have h : ((PySem.W.clsIn K D).isSome && PySem.W.typeIn K (.ref D) == some (.type "type")) = true := by
    rw [ty, show (PySem.W.clsIn K D).isSome = true from ic]
    rfl
  show (if ((PySem.W.clsIn K D).isSome && PySem.W.typeIn K (.ref D) == some (.type "type")) = true then PySem.W.subIn K (.ref C) (.ref D) else none) = some b
  rw [if_pos h]
  exact up
theorem kit_ob {K : PySem.W.Frag} {C : Addr} {t : String} {b : Bool} (m : PySem.W.kitMeta t = true) (dn : PySem.W.subIn K (.ref C) (.type t) = some b) : PySem.W.kitOne K (.ref C) (.type t) = some b := by
  unfold PySem.W.kitOne
  rw [if_neg (fun q => by cases beq_iff_eq.mp q)]
  show (if PySem.W.kitMeta t = true then PySem.W.subIn K (.ref C) (.type t) else none) = some b
  rw [if_pos m]
  exact dn
end Gy

set_option Elab.async false
set_option linter.all false
set_option maxRecDepth 100000
set_option maxHeartbeats 4000000
/-! Lay2: comparisons of an own class: by its methods, turned about, and != by ==. -/
namespace PySem.GyDec
open PySem PySem.W AutoSeq1
section
variable {C dx x : Addr} (a : Int) (t : Tok)
abbrev GyAt (x C dx : Addr) : Shared → Prop := fun s => s.heap.get? x = some (instObj C dx)
theorem lt_dec : GivesAt (GyAt x C dx) (Builtin.«int.__lt__» ⟨[.int a t, .ref x], []⟩) (.val .notImplemented) := fun prog w A R s hP h => by
  obtain ⟨hp, g, d, tk, os⟩ := s
  have hl : Heap.get? (Shared.heap ⟨hp, g, d, tk, os⟩) x = some (instObj C dx) := hP
  wp_walk using wpAny_loadPart' hl
  exact h
theorem le_dec : GivesAt (GyAt x C dx) (Builtin.«int.__le__» ⟨[.int a t, .ref x], []⟩) (.val .notImplemented) := fun prog w A R s hP h => by
  obtain ⟨hp, g, d, tk, os⟩ := s
  have hl : Heap.get? (Shared.heap ⟨hp, g, d, tk, os⟩) x = some (instObj C dx) := hP
  wp_walk using wpAny_loadPart' hl
  exact h
theorem gt_dec : GivesAt (GyAt x C dx) (Builtin.«int.__gt__» ⟨[.int a t, .ref x], []⟩) (.val .notImplemented) := fun prog w A R s hP h => by
  obtain ⟨hp, g, d, tk, os⟩ := s
  have hl : Heap.get? (Shared.heap ⟨hp, g, d, tk, os⟩) x = some (instObj C dx) := hP
  wp_walk using wpAny_loadPart' hl
  exact h
theorem ge_dec : GivesAt (GyAt x C dx) (Builtin.«int.__ge__» ⟨[.int a t, .ref x], []⟩) (.val .notImplemented) := fun prog w A R s hP h => by
  obtain ⟨hp, g, d, tk, os⟩ := s
  have hl : Heap.get? (Shared.heap ⟨hp, g, d, tk, os⟩) x = some (instObj C dx) := hP
  wp_walk using wpAny_loadPart' hl
  exact h
theorem eq_dec : GivesAt (GyAt x C dx) (Builtin.«int.__eq__» ⟨[.int a t, .ref x], []⟩) (.val .notImplemented) := fun prog w A R s hP h => by
  obtain ⟨hp, g, d, tk, os⟩ := s
  have hl : Heap.get? (Shared.heap ⟨hp, g, d, tk, os⟩) x = some (instObj C dx) := hP
  wp_walk using wpAny_loadPart' hl
  exact h
theorem beq_dec (b : Bool) : GivesAt (GyAt x C dx) (Builtin.«int.__eq__» ⟨[.bool b, .ref x], []⟩) (.val .notImplemented) := fun prog w A R s hP h => by
  obtain ⟨hp, g, d, tk, os⟩ := s
  have hl : Heap.get? (Shared.heap ⟨hp, g, d, tk, os⟩) x = some (instObj C dx) := hP
  wp_walk using wpAny_loadPart' hl
  exact h
theorem seq_dec (y : Str) : GivesAt (GyAt x C dx) (Builtin.«str.__eq__» ⟨[.str y t, .ref x], []⟩) (.val .notImplemented) := fun prog w A R s hP h => by
  obtain ⟨hp, g, d, tk, os⟩ := s
  have hl : Heap.get? (Shared.heap ⟨hp, g, d, tk, os⟩) x = some (instObj C dx) := hP
  wp_walk using wpAny_loadPart' hl
  exact h
theorem neq_dec : GivesAt (GyAt x C dx) (Builtin.«NoneType.__eq__» ⟨[.none, .ref x], []⟩) (.val .notImplemented) := fun prog w A R s hP h => by
  obtain ⟨hp, g, d, tk, os⟩ := s
  have hl : Heap.get? (Shared.heap ⟨hp, g, d, tk, os⟩) x = some (instObj C dx) := hP
  wp_walk using wpAny_loadPart' hl
  exact h
end
section
variable {prog : Program} {w : World} {A : Around} {E : Value → Shared → Prop} {s : Shared} {C dx x : Addr} {a : Int} {t : Tok} {P : Option Value → Shared → Prop}
theorem tryC_dec {b : Value} {T : String} {name : Str} {id : String} {B : Builtin} (hT : s.TypeIs b T) (slot : Slot T name id) (entry : entryFor table id = some B) (args : argsOk id ⟨[b, .ref x], []⟩)
    (g : GivesAt (GyAt x C dx) (B ⟨[b, .ref x], []⟩) (.val .notImplemented)) (hx : s.heap.get? x = some (instObj C dx)) (h : P none s) : wpAny (model prog w) A (tryCompare b name (.ref x)) P E s :=
  wpAny_tryCompare_declines hT slot (call_givesAt slot hT entry args g hx ⟨rfl, h⟩)
theorem tryC_lt (hx : s.heap.get? x = some (instObj C dx)) (h : P none s) : wpAny (model prog w) A (tryCompare (.int a t) (cmpInfo .Lt).2.1 (.ref x)) P E s :=
  tryC_dec (T := "int") (name := (cmpInfo .Lt).2.1) (id := "int.__lt__") (B := Builtin.«int.__lt__») (typeIs_int s a t) F.slot_int_lt F.entry_int_lt (F.args_int_lt_2 _ _) (lt_dec a t) hx h
theorem tryC_le (hx : s.heap.get? x = some (instObj C dx)) (h : P none s) : wpAny (model prog w) A (tryCompare (.int a t) (cmpInfo .LtE).2.1 (.ref x)) P E s :=
  tryC_dec (T := "int") (name := (cmpInfo .LtE).2.1) (id := "int.__le__") (B := Builtin.«int.__le__») (typeIs_int s a t) F.slot_int_le F.entry_int_le (F.args_int_le_2 _ _) (le_dec a t) hx h
theorem tryC_gt (hx : s.heap.get? x = some (instObj C dx)) (h : P none s) : wpAny (model prog w) A (tryCompare (.int a t) (cmpInfo .Gt).2.1 (.ref x)) P E s :=
  tryC_dec (T := "int") (name := (cmpInfo .Gt).2.1) (id := "int.__gt__") (B := Builtin.«int.__gt__») (typeIs_int s a t) F.slot_int_gt F.entry_int_gt (F.args_int_gt_2 _ _) (gt_dec a t) hx h
theorem tryC_ge (hx : s.heap.get? x = some (instObj C dx)) (h : P none s) : wpAny (model prog w) A (tryCompare (.int a t) (cmpInfo .GtE).2.1 (.ref x)) P E s :=
  tryC_dec (T := "int") (name := (cmpInfo .GtE).2.1) (id := "int.__ge__") (B := Builtin.«int.__ge__») (typeIs_int s a t) F.slot_int_ge F.entry_int_ge (F.args_int_ge_2 _ _) (ge_dec a t) hx h
theorem tryC_eq (hx : s.heap.get? x = some (instObj C dx)) (h : P none s) : wpAny (model prog w) A (tryCompare (.int a t) (cmpInfo .Eq).2.1 (.ref x)) P E s :=
  tryC_dec (T := "int") (name := (cmpInfo .Eq).2.1) (id := "int.__eq__") (B := Builtin.«int.__eq__») (typeIs_int s a t) F.slot_int_eq F.entry_int_eq (F.args_int_eq_2 _ _) (eq_dec a t) hx h
theorem tryC_beq {b : Bool} (hx : s.heap.get? x = some (instObj C dx)) (h : P none s) : wpAny (model prog w) A (tryCompare (.bool b) (cmpInfo .Eq).2.1 (.ref x)) P E s :=
  tryC_dec (T := "bool") (name := (cmpInfo .Eq).2.1) (id := "int.__eq__") (B := Builtin.«int.__eq__») rfl F.slot_bool_eq F.entry_int_eq (F.args_int_eq_2 _ _) (beq_dec b) hx h
theorem tryC_seq {y : Str} (hx : s.heap.get? x = some (instObj C dx)) (h : P none s) : wpAny (model prog w) A (tryCompare (.str y t) (cmpInfo .Eq).2.1 (.ref x)) P E s :=
  tryC_dec (T := "str") (name := (cmpInfo .Eq).2.1) (id := "str.__eq__") (B := Builtin.«str.__eq__») (typeIs_str s y t) F.slot_str_eq F.entry_str_eq (F.args_str_eq_2 _ _) (seq_dec t y) hx h
theorem tryC_neq (hx : s.heap.get? x = some (instObj C dx)) (h : P none s) : wpAny (model prog w) A (tryCompare .none (cmpInfo .Eq).2.1 (.ref x)) P E s :=
  tryC_dec (T := "NoneType") (name := (cmpInfo .Eq).2.1) (id := "NoneType.__eq__") (B := Builtin.«NoneType.__eq__») rfl F.slot_NoneType_eq F.entry_NoneType_eq (F.args_NoneType_eq_2 _ _) neq_dec hx h
end
end PySem.GyDec
namespace PySem.W
open PySem PySem.Calls PyProof.Rows
section
variable {prog : Program} {w : World} {A : Around} {E : Value → Shared → Prop} {s : Shared} {K : Frag} {x C L f : Addr} {h₀ : Heap} {m : Str → Option Value} {ox : Obj} {od : Option Obj} {T : String}
/-- b op x, b of a built-in type whose own comparison declines: x's turned one is asked -/
theorem gy_cmpR {op : CmpOp} {b : Value} {Q : Value → Shared → Prop} (hu : A.units < cLine) (F : Fr h₀ L s.heap m) (X₀ : K.In h₀) (I : InstAt s.heap x ox C od) (hb : s.TypeIs b T) (hL : Looks (model prog w) s.heap (typeOf b) (.type T))
    (hs : findIn K (.ref C) (cmpInfo op).2.2 = some (some (.ref f))) (hf : isFn K (.ref f) = true) (dn : subIn K (.ref C) (.type T) = some false)
    (hdec : ∀ P : Option Value → Shared → Prop, P none s → wpAny (model prog w) A (tryCompare b (cmpInfo op).2.1 (.ref x)) P E s)
    (h : wpAny (model prog w) A (call (.ref f) [.ref x, b]) (CmpBack Q) E s) : wpAny (model prog w) A (richCompare op b (.ref x)) Q E s := by
  have X := X₀.keeps F.keep
  have one : wpAny (model prog w) A (tryCompare (.ref x) (cmpInfo op).2.2 b) (fun r s' => ∃ v, r = some v ∧ Q v s') E s := by
    unfold tryCompare
    refine wpAny_bind (ifBound_K X I hs hf (wpAny_mono h (fun v s' hv => ?_) fun _ _ e => e))
    cases v <;> first | exact hv.elim | exact wpAny_pure ⟨_, rfl, hv⟩
  have hne : (Value.type T != Value.ref C) = true := by
    rw [bne, Bool.not_eq_true', Bool.eq_false_iff]
    intro q
    cases beq_iff_eq.mp q
  unfold richCompare
  simp only [hb.oneThing_none]
  refine wpAny_holding (wpAny_bind (wpAny_cRoomFor hu ?_))
  refine wpAny_bind (hL.here (wpAny_bind (I.type.here ?_)))
  rw [if_pos hne]
  refine wpAny_bind ((looks_subIn X dn).here ?_)
  simp only [Bool.false_eq_true, if_false]
  refine wpAny_bind (hdec _ ?_)
  simp only [Bool.not_false, if_true]
  refine wpAny_bind (wpAny_mono one (fun r s' z => ?_) fun _ _ e => e)
  obtain ⟨v, rfl, hq⟩ := z
  exact wpAny_pure hq
end
end PySem.W
namespace PySem.W
open PySem PySem.Calls PyProof.Rows
section
variable {prog : Program} {w : World} {A : Around} {E : Value → Shared → Prop} {s : Shared} {K : Frag} {x C L f : Addr} {h₀ : Heap} {m : Str → Option Value} {ox : Obj} {od : Option Obj} {t : Value}
theorem gy_neObj {b : Value} {Q : Fin → Shared → Prop} (hu : A.units < cLine) (X : K.In s.heap) (I : InstAt s.heap x ox C od) (heq : findIn K (.ref C) "__eq__" = some (some (.ref f))) (hf : isFn K (.ref f) = true)
    (h : wpAny (model prog w) A (call (.ref f) [.ref x, b]) (fun v s' => ∃ c, v = .bool c ∧ Q (.done (.ret (.bool (!c)))) s') E s) : wpAny (model prog w) A (Builtin.«object.__ne__» ⟨[.ref x, b], []⟩) Q E s := by
  obtain ⟨hp, g, d, tk, os⟩ := s
  unfold Builtin.«object.__ne__»
  repeat (first
    | with_reducible refine wpAny_cRoomFor hu ?_
    | (refine wpAny_bind (m := callSpecialIfBound? (.ref x) (Str.ofString "__eq__") [b])
        (ifBound_K X I heq hf (wpAny_mono h (fun r s' hr => by
          obtain ⟨c, rfl, hq⟩ := hr
          repeat (first | exact hq | exact wpAny_pure hq | exact wpAny_truthy_bool hq | (refine wpAny_bind (m := truthy (.bool _)) (wpAny_truthy_bool ?_)) | wp_step)) fun _ _ e => e)))
    | wp_step)
theorem gy_ne {b : Value} {Q : Value → Shared → Prop} (hu : A.units + 1 < cLine) (FF : Fr h₀ L s.heap m) (X₀ : K.In h₀) (I : InstAt s.heap x ox C od) (hL : Looks (model prog w) s.heap (typeOf b) t) (hn : notFirst K C t = true)
    (hne : findIn K (.ref C) "__ne__" = some (some (.builtin "object.__ne__"))) (heq : findIn K (.ref C) "__eq__" = some (some (.ref f))) (hf : isFn K (.ref f) = true) (ho : mroIn K C (.type "object") = some true)
    (h : wpAny (model prog w) A.in1 (call (.ref f) [.ref x, b]) (fun v s' => ∃ c, v = .bool c ∧ Q (.bool (!c)) s') E s) : wpAny (model prog w) A (richCompare .NotEq (.ref x) b) Q E s := by
  have X := X₀.keeps FF.keep
  have hi : Looks (model prog w) s.heap (isInstance (.ref x) (.type "object")) true := I.type.andThen (looks_mroIn X ho)
  have cal : wpAny (model prog w) A (call (.builtin "object.__ne__") [.ref x, b]) (fun v s' => ∃ c, v = .bool c ∧ Q (.bool c) s') E s := by
    refine wpAny_call (codeAny_call_builtin F.slot_object_ne.plain F.entry_object_ne (check_slot (owner := "object") (n := "__ne__") (by decide +kernel) (by decide +kernel) hi (F.args_object_ne_2 _ _) ?_))
    refine gy_neObj (A := A.in1) (by have := hu; exact this) X I heq hf (wpAny_mono h (fun v s' hv => ?_) fun _ _ e => e)
    obtain ⟨c, rfl, hq⟩ := hv
    exact ⟨c, rfl, _, rfl, hq⟩
  have one : wpAny (model prog w) A (tryCompare (.ref x) (cmpInfo .NotEq).2.1 b) (fun r s' => ∃ v, r = some v ∧ Q v s') E s := by
    unfold tryCompare
    refine wpAny_bind (m := callSpecialIfBound? (.ref x) (Str.ofString "__ne__") [b]) ?_
    simp only [callSpecialIfBound?, bindSpecialIfBound?]
    refine wpAny_holding (wpAny_bind (wpAny_bind (wpAny_bind (I.type.here ((looks_findIn X hne).here ?_)))))
    refine wpAny_bind (wpAny_askSetting (wpAny_ite ?_))
    have fin : wpAny (model prog w) A (call (.builtin "object.__ne__") ([.ref x] ++ [b]) >>= fun v => pure (some v)) (fun a s' => wpAny (model prog w) A (match a with | some .notImplemented | none => pure none | some v => pure (some v)) (fun r s' => ∃ v, r = some v ∧ Q v s') E s') E s := by
      refine wpAny_bind (wpAny_mono cal (fun v s' hv => ?_) fun _ _ e => e)
      obtain ⟨c, rfl, hq⟩ := hv
      exact wpAny_pure (wpAny_pure ⟨_, rfl, hq⟩)
    simp only [F.slot_object_ne.bind]
    split
    · exact wpAny_bind (wpAny_pure (wpAny_pure (by exact fin)))
    · exact wpAny_tryCatch (wpAny_bind (wpAny_pure (wpAny_pure (by exact fin))))
  unfold richCompare
  simp only [oneThing_ref]
  refine wpAny_holding (wpAny_bind (wpAny_cRoomFor (Nat.lt_of_succ_lt hu) ?_))
  refine wpAny_bind (I.type.here (wpAny_bind (hL.here ?_)))
  split
  · rename_i q
    have e : subIn K t (.ref C) = some false := by
      rcases Bool.or_eq_true_iff.mp hn with e | e
      · rw [beq_iff_eq.mp e] at q; simp at q
      · exact beq_iff_eq.mp e
    refine wpAny_bind ((looks_subIn X e).here ?_)
    simp only [Bool.false_eq_true, if_false]
    refine wpAny_bind (wpAny_mono one (fun r s' z => ?_) fun _ _ e => e)
    obtain ⟨v, rfl, hq⟩ := z
    exact wpAny_pure hq
  · refine wpAny_bind (wpAny_pure ?_)
    simp only [Bool.false_eq_true, if_false]
    refine wpAny_bind (wpAny_mono one (fun r s' z => ?_) fun _ _ e => e)
    obtain ⟨v, rfl, hq⟩ := z
    exact wpAny_pure hq
end
end PySem.W
namespace PySem.GyDec
open PySem PySem.W AutoSeq1
section
variable {C dx x l : Addr} {n : Nat} {vs : List Value} {ol : Obj}
abbrev GyTwo (T : String) (l : Addr) (ol : Obj) (x C dx : Addr) : Shared → Prop := fun s => s.heap.get? l = some ol ∧ s.heap.get? x = some (instObj C dx) ∧ ∀ prog w, Looks (model prog w) s.heap (isSubtype (.ref C) (.type T)) false
theorem list_dec (dd : Option Addr) (a : Array Value) (nn : Nat) (sl : Array (Option Value)) : GivesAt (GyTwo "list" l ⟨.type "list", dd, .seq a nn, sl⟩ x C dx) (Builtin.«list.__eq__» ⟨[.ref l, .ref x], []⟩) (.val .notImplemented) := fun prog w A R s hP h => by
  obtain ⟨hp, g, d, tk, os⟩ := s
  obtain ⟨h1, h2, h3⟩ := hP
  have hl : Heap.get? (Shared.heap ⟨hp, g, d, tk, os⟩) l = some ⟨.type "list", dd, .seq a nn, sl⟩ := h1
  have hx : Heap.get? (Shared.heap ⟨hp, g, d, tk, os⟩) x = some (instObj C dx) := h2
  wp_walk using wpAny_loadPart' hl, wpAny_loadPart' hx
  refine (h3 prog w).here ?_
  simp only [Bool.not_false, if_true]
  wp_walk using wpAny_loadPart' hl
  exact h
theorem tup_dec {ol : Obj} (hc : ol.cls = .type "tuple") : GivesAt (GyTwo "tuple" l ol x C dx) (Builtin.«tuple.__eq__» ⟨[.ref l, .ref x], []⟩) (.val .notImplemented) := fun prog w A R s hP h => by
  obtain ⟨hp, g, d, tk, os⟩ := s
  obtain ⟨h1, h2, h3⟩ := hP
  obtain ⟨c, od, pl, sl⟩ := ol
  obtain rfl : c = .type "tuple" := hc
  have hl : Heap.get? (Shared.heap ⟨hp, g, d, tk, os⟩) l = some ⟨.type "tuple", od, pl, sl⟩ := h1
  have hx : Heap.get? (Shared.heap ⟨hp, g, d, tk, os⟩) x = some (instObj C dx) := h2
  wp_walk using wpAny_loadPart' hl, wpAny_loadPart' hx
  refine (h3 prog w).here ?_
  simp only [Bool.not_false, if_true]
  wp_walk using wpAny_loadPart' hl
  exact h
theorem dict_dec {ol : Obj} (hc : ol.cls = .type "dict") : GivesAt (GyTwo "dict" l ol x C dx) (Builtin.«dict.__eq__» ⟨[.ref l, .ref x], []⟩) (.val .notImplemented) := fun prog w A R s hP h => by
  obtain ⟨hp, g, d, tk, os⟩ := s
  obtain ⟨h1, h2, h3⟩ := hP
  obtain ⟨c, od, pl, sl⟩ := ol
  obtain rfl : c = .type "dict" := hc
  have hl : Heap.get? (Shared.heap ⟨hp, g, d, tk, os⟩) l = some ⟨.type "dict", od, pl, sl⟩ := h1
  have hx : Heap.get? (Shared.heap ⟨hp, g, d, tk, os⟩) x = some (instObj C dx) := h2
  wp_walk using wpAny_loadPart' hl, wpAny_loadPart' hx
  refine (h3 prog w).here ?_
  simp only [Bool.not_false, if_true]
  wp_walk using wpAny_loadPart' hl
  exact h
end
end PySem.GyDec
namespace L2
open PySem PySem.Spec PyProof.Rows
section
variable {X : Cx} {CX : CXT} {pins : List (Addr × Obj)} {σ : St} {H : Hp} {s : Shared} {a C dx g r : Addr} {fs : List (Str × V)} {k : Nat} {fd : FuncData} {ps : List Str} {sp : Sp} {E : XK}
theorem run_fn1 {Q : VK} {us : List Value} {vs : List V} (F : FnOk X.prog X.w X.K X.mg X.base CX k g fd ps sp) (hr : Room (k + 1) X.A) (hb : Binds X.K fd ps []) (hx : Passes CX X E)
    (I : Inv X pins σ H s) (r : Vals vs us) (h : sp vs H Q E) : wpAny (model X.prog X.w) X.A.in1 (call (.ref g) us) (EP X pins σ Q) X.xe s := by
  have hl : us.length = ps.length := by rw [← r.length]; exact F.len _ _ _ _ h
  have b := hb s us I.kIn (by rw [List.append_nil]; exact hl)
  rw [List.append_nil] at b
  refine wpAny_call (codeAny_mono (F.run X.A.in1 X.stack s H ⟨us, []⟩ us vs Q E hr.in1 I.env0.in1 b r h) fun r s' hq => ?_)
  cases r with
  | error e => exact hx pins σ H s e s' I hq
  | ok fl =>
    cases fl with
    | ret u => exact I.after hq
    | next => exact False.elim hq
    | brk => exact False.elim hq
    | cont => exact False.elim hq
/-- x op y, x an instance: its own method; y's type is no subclass -/
def rGyC (K : PySem.W.Frag) (C : Addr) (sp : Sp) (E : XK) : R2 := fun x y H Q => ∃ a dx fs t, x = .ref a ∧ H a = some (.ins C dx fs) ∧ TyX K H y t ∧ PySem.W.notFirst K C t = true ∧ sp [x, y] H Q E
theorem op_gyC {op : CmpOp} (ho : ∀ a b, compareOp op a b = richCompare op a b) (hs : PySem.W.findIn X.K (.ref C) (cmpInfo op).2.1 = some (some (.ref g))) (hf : PySem.W.isFn X.K (.ref g) = true)
    (F : FnOk X.prog X.w X.K X.mg X.base CX k g fd ps sp) (hr : Room k X.A) (hb : Binds X.K fd ps []) (hx : Passes CX X E) : OpR X (compareOp op) (rGyC X.K C sp E) := by
  intro pins s σ H x y v u Q I rx ry h
  obtain ⟨a, dx, fs, t, rfl, ha, ty, hn, q⟩ := h
  obtain rfl : v = Value.ref a := rx
  obtain ⟨od, J, _⟩ := ins_at I ha
  obtain ⟨m, hF⟩ := I.fr
  obtain ⟨P, kx, hP, _⟩ := kit_of I ry ty
  have q' : sp ([.ref a, y] ++ []) H Q E := q
  have go : wpAny (model X.prog X.w) X.A (call (.ref g) [.ref a, u]) (PySem.W.CmpBack (EP X pins σ Q)) X.xe s :=
    wpAny_mono (run_fn (us := [.ref a, u]) (vs := [.ref a, y]) F hr hb .nil hx I (.cons rfl (.cons ry .nil)) q') (fun w s' z => by
      obtain ⟨z', H', I', rz, qz⟩ := z
      exact gy_back rz ⟨z', H', I', rz, qz⟩) fun _ _ e => e
  rw [ho]
  exact PySem.W.cmp_K hr.units0 hF I.ok.mod.kin J (kx.ty _ _ I.kIn hP) hn hs hf go
/-- x != y by object's, through the own == -/
def rGyNe (K : PySem.W.Frag) (C : Addr) (sp : Sp) (E : XK) : R2 := fun x y H Q => ∃ a dx fs t, x = .ref a ∧ H a = some (.ins C dx fs) ∧ TyX K H y t ∧ PySem.W.notFirst K C t = true ∧ sp [x, y] H (fun v H' => ∃ c, v = .bl c ∧ Q (.bl (!c)) H') E
theorem op_gyNe (hne : PySem.W.findIn X.K (.ref C) "__ne__" = some (some (.builtin "object.__ne__"))) (hs : PySem.W.findIn X.K (.ref C) "__eq__" = some (some (.ref g))) (hf : PySem.W.isFn X.K (.ref g) = true) (hm : PySem.W.mroIn X.K C (.type "object") = some true)
    (F : FnOk X.prog X.w X.K X.mg X.base CX k g fd ps sp) (hr : Room (k + 1) X.A) (hb : Binds X.K fd ps []) (hx : Passes CX X E) : OpR X (compareOp .NotEq) (rGyNe X.K C sp E) := by
  intro pins s σ H x y v u Q I rx ry h
  obtain ⟨a, dx, fs, t, rfl, ha, ty, hn, q⟩ := h
  obtain rfl : v = Value.ref a := rx
  obtain ⟨od, J, _⟩ := ins_at I ha
  obtain ⟨m, hF⟩ := I.fr
  obtain ⟨P, kx, hP, _⟩ := kit_of I ry ty
  exact PySem.W.gy_ne (f := g) hr.in1.units0 hF I.ok.mod.kin J (kx.ty _ _ I.kIn hP) hn hne hs hf hm
    (wpAny_mono (run_fn1 (us := [.ref a, u]) (vs := [.ref a, y]) F hr hb hx I (.cons rfl (.cons ry .nil)) q) (fun w s' z => by
      obtain ⟨z', H', I', rz, c, rfl, qz⟩ := z
      cases (show w = Value.bool c from rz)
      exact ⟨c, rfl, .bl (!c), H', I', rfl, qz⟩) fun _ _ e => e)
/-- x's own comparison with an instance of C declines -/
def Turns (X : Cx) (C : Addr) (op : CmpOp) (x : V) (H : Hp) : Prop := ∀ (pins : List (Addr × Obj)) (σ : St) (s : Shared) (v : Value) (b dy : Addr) (gs : List (Str × V)), Inv X pins σ H s → RelV x v → H b = some (.ins C dy gs) →
  ∃ T, s.TypeIs v T ∧ PySem.W.Looks (model X.prog X.w) s.heap (typeOf v) (.type T) ∧ PySem.W.subIn X.K (.ref C) (.type T) = some false ∧
    ∀ (A : Around) (E : Value → Shared → Prop) (P : Option Value → Shared → Prop), P none s → wpAny (model X.prog X.w) A (tryCompare v (cmpInfo op).2.1 (.ref b)) P E s
/-- x op y, y an instance, x's own comparison declines: y's turned one -/
def rGyCR (X : Cx) (op : CmpOp) (C : Addr) (sp : Sp) (E : XK) : R2 := fun x y H Q => ∃ b dy gs, y = .ref b ∧ H b = some (.ins C dy gs) ∧ Turns X C op x H ∧ sp [y, x] H Q E
theorem op_gyCR {op : CmpOp} (ho : ∀ a b, compareOp op a b = richCompare op a b) (hs : PySem.W.findIn X.K (.ref C) (cmpInfo op).2.2 = some (some (.ref g))) (hf : PySem.W.isFn X.K (.ref g) = true)
    (F : FnOk X.prog X.w X.K X.mg X.base CX k g fd ps sp) (hr : Room k X.A) (hb : Binds X.K fd ps []) (hx : Passes CX X E) : OpR X (compareOp op) (rGyCR X op C sp E) := by
  intro pins s σ H x y v u Q I rx ry h
  obtain ⟨b, dy, gs, rfl, hb', tn, q⟩ := h
  obtain rfl : u = Value.ref b := ry
  obtain ⟨od, J, _⟩ := ins_at I hb'
  obtain ⟨m, hF⟩ := I.fr
  obtain ⟨T, t1, t2, t3, t4⟩ := tn pins σ s v b dy gs I rx hb'
  have q' : sp ([.ref b, x] ++ []) H Q E := q
  have go : wpAny (model X.prog X.w) X.A (call (.ref g) [.ref b, v]) (PySem.W.CmpBack (EP X pins σ Q)) X.xe s :=
    wpAny_mono (run_fn (us := [.ref b, v]) (vs := [.ref b, x]) F hr hb .nil hx I (.cons rfl (.cons rx .nil)) q') (fun w s' z => by
      obtain ⟨z', H', I', rz, qz⟩ := z
      exact gy_back rz ⟨z', H', I', rz, qz⟩) fun _ _ e => e
  rw [ho]
  exact PySem.W.gy_cmpR hr.units0 hF I.ok.mod.kin J t1 t2 hs hf t3 (fun P hp => t4 _ _ P hp) go
theorem turns_lt {i : Int} (hs : PySem.W.subIn X.K (.ref C) (.type "int") = some false) : Turns X C .Lt (.int i) H := fun pins σ s v b dy gs I rv hb => by
  obtain ⟨t, rfl⟩ := rv
  exact ⟨"int", typeIs_int s i t, PySem.W.Looks.of_pure rfl, hs, fun A E P hp => GyDec.tryC_lt (ins_at I hb).choose_spec.2 hp⟩
theorem turns_le {i : Int} (hs : PySem.W.subIn X.K (.ref C) (.type "int") = some false) : Turns X C .LtE (.int i) H := fun pins σ s v b dy gs I rv hb => by
  obtain ⟨t, rfl⟩ := rv
  exact ⟨"int", typeIs_int s i t, PySem.W.Looks.of_pure rfl, hs, fun A E P hp => GyDec.tryC_le (ins_at I hb).choose_spec.2 hp⟩
theorem turns_gt {i : Int} (hs : PySem.W.subIn X.K (.ref C) (.type "int") = some false) : Turns X C .Gt (.int i) H := fun pins σ s v b dy gs I rv hb => by
  obtain ⟨t, rfl⟩ := rv
  exact ⟨"int", typeIs_int s i t, PySem.W.Looks.of_pure rfl, hs, fun A E P hp => GyDec.tryC_gt (ins_at I hb).choose_spec.2 hp⟩
theorem turns_ge {i : Int} (hs : PySem.W.subIn X.K (.ref C) (.type "int") = some false) : Turns X C .GtE (.int i) H := fun pins σ s v b dy gs I rv hb => by
  obtain ⟨t, rfl⟩ := rv
  exact ⟨"int", typeIs_int s i t, PySem.W.Looks.of_pure rfl, hs, fun A E P hp => GyDec.tryC_ge (ins_at I hb).choose_spec.2 hp⟩
theorem turns_eq {i : Int} (hs : PySem.W.subIn X.K (.ref C) (.type "int") = some false) : Turns X C .Eq (.int i) H := fun pins σ s v b dy gs I rv hb => by
  obtain ⟨t, rfl⟩ := rv
  exact ⟨"int", typeIs_int s i t, PySem.W.Looks.of_pure rfl, hs, fun A E P hp => GyDec.tryC_eq (ins_at I hb).choose_spec.2 hp⟩
theorem turns_beq {c : Bool} (hs : PySem.W.subIn X.K (.ref C) (.type "bool") = some false) : Turns X C .Eq (.bl c) H := fun pins σ s v b dy gs I rv hb => by
  cases (show v = Value.bool c from rv)
  exact ⟨"bool", rfl, PySem.W.Looks.of_pure rfl, hs, fun A E P hp => GyDec.tryC_beq (ins_at I hb).choose_spec.2 hp⟩
theorem turns_seq {x : Str} (hs : PySem.W.subIn X.K (.ref C) (.type "str") = some false) : Turns X C .Eq (.str x) H := fun pins σ s v b dy gs I rv hb => by
  obtain ⟨t, rfl⟩ := rv
  exact ⟨"str", typeIs_str s x t, PySem.W.Looks.of_pure rfl, hs, fun A E P hp => GyDec.tryC_seq (ins_at I hb).choose_spec.2 hp⟩
theorem turns_neq (hs : PySem.W.subIn X.K (.ref C) (.type "NoneType") = some false) : Turns X C .Eq .non H := fun pins σ s v b dy gs I rv hb => by
  cases (show v = Value.none from rv)
  exact ⟨"NoneType", rfl, PySem.W.Looks.of_pure rfl, hs, fun A E P hp => GyDec.tryC_neq (ins_at I hb).choose_spec.2 hp⟩
end
end L2
namespace L2
open PySem PySem.Spec PyProof.Rows
section
variable {X : Cx} {CX : CXT} {pins : List (Addr × Obj)} {σ : St} {H : Hp} {s : Shared} {a C dx g r : Addr} {fs : List (Str × V)} {k : Nat} {fd : FuncData} {ps : List Str} {sp : Sp} {E : XK}
theorem turns_ref {T : String} {l : Addr} {op : CmpOp} {id : String} {B : Builtin} (hs : PySem.W.subIn X.K (.ref C) (.type T) = some false) (slot : Slot T (cmpInfo op).2.1 id) (entry : entryFor table id = some B) (args : ∀ a b, argsOk id ⟨[a, b], []⟩)
    (get : ∀ (pins : List (Addr × Obj)) (σ : St) (s : Shared), Inv X pins σ H s → ∃ ol, s.heap.get? l = some ol ∧ ol.cls = .type T ∧ ∀ b dy, GivesAt (PySem.GyDec.GyTwo T l ol b C dy) (B ⟨[.ref l, .ref b], []⟩) (.val .notImplemented)) : Turns X C op (.ref l) H := fun pins σ s v b dy gs I rv hb => by
  cases (show v = Value.ref l from rv)
  obtain ⟨ol, h1, h2, gv⟩ := get pins σ s I
  have hT : s.TypeIs (.ref l) T := ⟨ol, h1, h2⟩
  refine ⟨T, hT, ?_, hs, fun A E P hp => ?_⟩
  · exact PySem.W.kitAt_ty _ _ ⟨ol, h1, h2⟩
  · refine wpAny_tryCompare_declines hT slot (call_givesAt slot hT entry (args _ _) (gv b dy) ⟨h1, (ins_at I hb).choose_spec.2, fun prog w => PySem.W.looks_subIn I.kIn hs⟩ ⟨rfl, hp⟩)
theorem turns_list {l : Addr} {xs : List V} (h : H l = some (.lst xs)) (hs : PySem.W.subIn X.K (.ref C) (.type "list") = some false) : Turns X C .Eq (.ref l) H :=
  turns_ref (T := "list") (id := "list.__eq__") (B := Builtin.«list.__eq__») hs F.slot_list_eq F.entry_list_eq F.args_list_eq_2 fun pins σ s I => by
    obtain ⟨_, _, n, _, h1⟩ := (show ObjOk X.prog X.w H s.heap l (.lst xs) from I.hok l _ h)
    exact ⟨_, h1, rfl, fun b dy => PySem.GyDec.list_dec _ _ _ _⟩
theorem turns_tup {l : Addr} {xs : List V} (h : H l = some (.tup xs)) (hs : PySem.W.subIn X.K (.ref C) (.type "tuple") = some false) : Turns X C .Eq (.ref l) H :=
  turns_ref (T := "tuple") (id := "tuple.__eq__") (B := Builtin.«tuple.__eq__») hs F.slot_tuple_eq F.entry_tuple_eq F.args_tuple_eq_2 fun pins σ s I => by
    obtain ⟨_, _, _, o, h1, h2, _⟩ := (show ObjOk X.prog X.w H s.heap l (.tup xs) from I.hok l _ h)
    exact ⟨_, h1, h2, fun b dy => PySem.GyDec.tup_dec h2⟩
theorem turns_dK {l : Addr} {xs : List (Key × V)} (h : H l = some (.dK xs)) (hs : PySem.W.subIn X.K (.ref C) (.type "dict") = some false) : Turns X C .Eq (.ref l) H :=
  turns_ref (T := "dict") (id := "dict.__eq__") (B := Builtin.«dict.__eq__») hs F.slot_dict_eq F.entry_dict_eq F.args_dict_eq_2 fun pins σ s I => by
    obtain ⟨_, _, vs, _, o, es, ep, h1, h2, _⟩ := (show ObjOk X.prog X.w H s.heap l (.dK xs) from I.hok l _ h)
    exact ⟨_, h1, h2.1, fun b dy => PySem.GyDec.dict_dec h2.1⟩
end
end L2

set_option Elab.async false
set_option linter.all false
set_option maxRecDepth 100000
set_option maxHeartbeats 4000000
/-! Lay3: errors of the program's own as things: made (by place, by name), read, asked for their class. -/
namespace PySem.GyErr
open PySem PySem.W PySem.Calls PyProof.Rows PySem.HandSPX
/-- what a class object holds beside its line of bases -/
structure Pt where
  (nm q : Str) (N : Addr) (bs : List Value) (sn : List Str) (sub : List Value) (ab : Bool) (col : Option Bool) (dd : Option Addr)
  (k0 k1 k2 k3 k5 : Option Value)
abbrev Pt.ob (p : Pt) (C : Addr) (bm : List Value) : Obj :=
  excClassObj p.nm p.q C p.N p.bs bm true p.sn p.sub p.ab p.col p.dd p.k0 p.k1 p.k2 p.k3 p.k5 "ValueError.__new__"
section
variable {prog : Program} {w : World} {M : Model} {A : Around} {R : Result → Shared → Prop} {E : Value → Shared → Prop} {h : Heap}
  {g : Array GenState} {d : Drawn} {t : Nat} {os : OsState} {p : Pt} {C : Addr} {bm : List Value} {us : List Value} {kw : List (Str × Value)}
theorem new_args (v : Value) : Bind.checkArgs "ValueError.__new__"
    ⟨.any, "ValueError", "ValueError", .cls, [⟨"args", .varPos, false⟩, ⟨"kwargs", .varKw, false⟩]⟩ ⟨v :: us, kw⟩ = pure () := by kernel_rfl
theorem new_checked {Q : Unit → Shared → Prop} (hm : refsVE bm = true) (hC : h.get? C = some (p.ob C bm)) (hq : Q () ⟨h, g, d, t, os⟩) :
    wpAny M A (checkBuiltinCall "ValueError.__new__" ⟨.ref C :: us, kw⟩) Q E ⟨h, g, d, t, os⟩ := by
  have F := F.excBase_ValueError
  have has : (Value.ref C :: bm).contains (.type "ValueError") = true := by
    rw [List.contains_cons, refsVE_contains _ _ hm, show veTail.contains (.type "ValueError") = true by decide +kernel, Bool.or_true]
  have ha := new_args (us := us) (kw := kw) (.ref C)
  simp only [checkBuiltinCall, F.newKind, F.newSplit, F.newRow, ha]
  repeat (first
    | refine wpAny_loadPart_at hC ?_
    | (refine wpAny_isSubtype_exc hC ?_; rw [has])
    | refine wpAny_staticBase_exc hC ?_
    | refine wpAny_madeBy_exc hC ?_
    | simp only [bne_self_eq_false, Bool.false_eq_true, if_false]
    | wp_step)
  exact hq
theorem new_run (hm : refsVE bm = true) (hC : h.get? C = some (p.ob C bm)) (hl : us.length ≤ sizeLine)
    (hq : R (.ok (.ret (.ref (h.objs.size + 1)))) ⟨(h.push (kdv_tup us)).push (excO C h.objs.size), g, d, t, os⟩) :
    codeAny (model prog w) A (.builtin "ValueError.__new__" ⟨.ref C :: us, kw⟩) R ⟨h, g, d, t, os⟩ := by
  have F := F.excBase_ValueError
  have hends := F.ends
  have in_ : ∀ (T : String) (b : Bool), veTail.contains (.type T) = b → (Value.ref C :: bm).contains (.type T) = b := fun T b e => by
    rw [List.contains_cons, refsVE_contains _ _ hm, e]
    cases b <;> rfl
  have i1 := in_ "ValueError" true (by decide +kernel)
  have i2 := in_ "AttributeError" false (by decide +kernel)
  have i3 := in_ "NameError" false (by decide +kernel)
  refine codeAny_builtinAt F.entry ?_
  unfold Builtin.«BaseException.__new__»
  refine wpAt_bind ?_
  show wpAt _ _ _ (stack >>= _) _ _ _
  refine wpAt_bind (wpAt_stack fun p below => wpAt_of_wpAny ?_)
  wp_walk
  refine wpAt_of_wpAny ?_
  rw [F.owner]
  repeat (first
    | with_reducible refine wpAny_madeHere_exc F.canon hC ?_
    | with_reducible refine wpAny_loadPart_at hC ?_
    | (with_reducible refine wpAny_isSubtype_exc hC ?_; first | rw [i1] | rw [i2] | rw [i3])
    | wp_step)
  show R _ _
  rw [Heap.size_push]
  exact hq
/-- C(.., k = v, ..): the error is laid, then its __init__ -/
theorem call_err {fI : Addr} (hm : refsVE bm = true) (hC : h.get? C = some (p.ob C bm))
    (hi : W.Looks (model prog w) h (typeLookup (.ref C) "__init__") (some (.ref fI)))
    (hb : ∀ self, W.Looks (model prog w) h (bindSpecial (.ref fI) self) (.ref fI, [self])) (hl : us.length ≤ sizeLine)
    (hq : codeAny (model prog w) (A.under (.builtin "type.__call__" ⟨.ref C :: us, kw⟩)) (.call (.ref fI) ⟨.ref (h.objs.size + 1) :: us, kw⟩)
      (W.InitBack (h.objs.size + 1) R) ⟨(h.push (kdv_tup us)).push (excO C h.objs.size), g, d, t, os⟩) :
    codeAny (model prog w) A (.call (.ref C) ⟨us, kw⟩) R ⟨h, g, d, t, os⟩ := by
  have F := F.excBase_ValueError
  have f1 := tc_lookup
  have f2 := tc_bind (.ref C)
  have hTy : (⟨h, g, d, t, os⟩ : Shared).TypeIs (.ref C) "type" := ⟨_, hC, rfl⟩
  refine codeAny_of_tree ?_
  show wpAny _ _ (callAny (.ref C) _) _ _ _
  repeat (any_goals (first | assumption | with_reducible refine wpAny_loadPart_at hC ?_ | wp_step))
  refine ⟨rfl, ?_⟩
  have typ : Looks (model prog w) h (isInstance (.ref C) (.type "type")) true :=
    ((Looks.ld (part := none) hC).andThen .now).andThen (Looks.of_pure (by show isSubtype (.type "type") (.type "type") = pure true; rw [isSubtype_type]; kernel_rfl))
  refine codeAny_call_builtin_at (Code.quiet_builtin _ (by decide +kernel)) entry_typeCall
    (check_slot tc_kind tc_split typ (tc_args _ _ _) ?_)
  have k : ∀ b o, h.get? b = some o → ((h.push (kdv_tup us)).push (excO C h.objs.size)).get? b = some o := fun b o e =>
    Heap.get?_push_of_some _ (Heap.get?_push_of_some _ e)
  have hC1 := k _ _ hC
  have hx : ((h.push (kdv_tup us)).push (excO C h.objs.size)).get? (h.objs.size + 1) = some (excO C h.objs.size) := by heap_get
  have hcC : (Value.ref C :: bm).contains (.ref C) = true := by simp
  have i1 := hi.keeps k
  have b1 := (hb (.ref (h.objs.size + 1))).keeps k
  repeat (first | with_reducible refine wpAny_loadPart_at hC ?_ | with_reducible refine wpAny_madeBy_exc hC ?_ | wp_step)
  refine codeAny_call_builtin_code (Code.quiet_builtin _ F.quiet) (new_checked hm hC ?_)
  refine new_run hm hC hl ?_
  show wpAny _ _ _ _ _ _
  unfold isInstance
  repeat (first | with_reducible refine wpAny_loadPart_at hx ?_ | wp_step)
  show wpAny _ _ (isSubtype (.ref C) (.ref C)) _ _ _
  refine wpAny_isSubtype_exc hC1 ?_
  rw [hcC]
  repeat wp_step
  show wpAny _ _ (typeLookup (.ref C) _) _ _ _
  refine i1.at ?_
  refine wpAny_holding (wpAny_bind (b1.at ?_))
  refine wpAny_bind (wpAny_call (codeAny_mono hq fun r s' z => ?_))
  rcases r with e | (v | _ | _ | _) <;> first | exact z | exact z.elim | skip
  obtain ⟨rfl, z⟩ := z
  first
    | exact wpAny_pure (wpAny_pure z)
    | (wp_walk; exact z)
end
end PySem.GyErr
namespace Gy
open PySem L2
/-- an own error class at C: behind it stands L, but for L itself, then ValueError's line -/
structure ErrT (K : PySem.W.Frag) (L C : Addr) : Prop where
  line : ∃ (p : PySem.GyErr.Pt) (anc : List Value), (C = L ∧ anc = [] ∨ anc = [.ref L]) ∧ K.lookup C = some (p.ob C (anc ++ PySem.HandSPX.veTail))
  sa : PySem.W.findIn K (.ref C) "__setattr__" = some (some (.builtin "object.__setattr__"))
  ga : PySem.W.findIn K (.ref C) "__getattribute__" = some (some (.builtin "BaseException.__getattribute__"))
  gg : PySem.W.findIn K (.ref C) "__getattr__" = some none
  ca : PySem.W.findIn K (.ref C) "__class__" = some (some (.builtin "object.__class__"))
  ty : PySem.W.typeIn K (.ref C) = some (.type "type")
  kp : PySem.W.keepIn K (.ref C) = true
/-- how __class__ is read off such a thing -/
structure ErrG (K : PySem.W.Frag) : Prop where
  sp : PySem.W.specialIn K (.builtin "object.__class__") "__get__" = some (some (.builtin "getset_descriptor.__get__"))
  tk : PySem.W.takesIn K (.builtin "object.__class__") = some true
section
variable {K : PySem.W.Frag} {L C D : Addr}
theorem anc_refs {anc : List Value} (h : C = L ∧ anc = [] ∨ anc = [.ref L]) : PySem.HandSPX.refsVE (anc ++ PySem.HandSPX.veTail) = true := by
  rcases h with ⟨_, rfl⟩ | rfl
  · decide +kernel
  · show PySem.HandSPX.refsVE PySem.HandSPX.veTail = true
    decide +kernel
theorem ErrT.cd (T : ErrT K L C) : ∃ (cd : ClassData) (anc : List Value), PySem.W.clsIn K C = some cd ∧ (C = L ∧ anc = [] ∨ anc = [.ref L]) ∧ cd.mro = .ref C :: (anc ++ PySem.HandSPX.veTail) ∧ cd.hasDict = true := by
  obtain ⟨p, anc, ha, hl⟩ := T.line
  exact ⟨{ name := p.nm, bases := p.bs, mro := .ref C :: (anc ++ PySem.HandSPX.veTail), ns := p.N, qualname := p.q, hasDict := true, slotNames := p.sn, subclasses := p.sub, abstract := p.ab, collection := p.col, hasDel := false },
    anc, by unfold PySem.W.clsIn; rw [hl], ha, rfl, rfl⟩
theorem ErrT.mro (T : ErrT K L C) {base : Value} {b : Bool} (h : ∀ anc : List Value, (C = L ∧ anc = [] ∨ anc = [.ref L]) → (Value.ref C :: (anc ++ PySem.HandSPX.veTail)).contains base = b) : PySem.W.mroIn K C base = some b := by
  obtain ⟨cd, anc, hc, ha, hm, _⟩ := T.cd
  unfold PySem.W.mroIn
  rw [hc, Option.bind_some, hm]
  exact congrArg some (h anc ha)
theorem ErrT.subT (T : ErrT K L C) {t : String} {b : Bool} (e : PySem.HandSPX.veTail.contains (.type t) = b) : PySem.W.subIn K (.ref C) (.type t) = some b := T.mro fun anc ha => by
  rcases ha with ⟨_, rfl⟩ | rfl
  · rw [List.contains_cons, List.nil_append, e]
    cases b <;> rfl
  · rw [List.contains_cons, List.singleton_append, List.contains_cons, e]
    cases b <;> rfl
theorem tail_ref (a : Addr) : PySem.HandSPX.veTail.contains (.ref a) = false := by
  show ([Value.type "ValueError", .type "Exception", .type "BaseException", .type "object"] : List Value).contains (.ref a) = false
  simp
theorem ErrT.subL (T : ErrT K L C) : PySem.W.subIn K (.ref C) (.ref L) = some true := T.mro fun anc ha => by
  rcases ha with ⟨rfl, rfl⟩ | rfl <;> simp
theorem ErrT.subD (T : ErrT K L C) (h : D ≠ L) : PySem.W.subIn K (.ref C) (.ref D) = some (decide (C = D)) := T.mro fun anc ha => by
  have e : (Value.ref D == Value.ref C) = decide (C = D) := by
    by_cases z : C = D
    · rw [z, beq_self_eq_true, decide_eq_true rfl]
    · rw [decide_eq_false z]
      exact beq_eq_false_iff_ne.mpr fun q => z (Value.ref.inj q).symm
  have e2 : (Value.ref D == Value.ref L) = false := beq_eq_false_iff_ne.mpr fun q => h (Value.ref.inj q)
  rcases ha with ⟨_, rfl⟩ | rfl
  · rw [List.contains_cons, List.nil_append, tail_ref, e, Bool.or_false]
  · rw [List.contains_cons, List.singleton_append, List.contains_cons, tail_ref, e, e2, Bool.or_false, Bool.or_false]
theorem ErrT.isC (T : ErrT K L C) : PySem.W.isClsIn K C = true := by
  obtain ⟨cd, _, hc, _⟩ := T.cd
  unfold PySem.W.isClsIn
  rw [hc]
  rfl
theorem ErrT.hd (T : ErrT K L C) : PySem.W.hasDictIn K C = true := by
  obtain ⟨cd, _, hc, _, _, hh⟩ := T.cd
  unfold PySem.W.hasDictIn
  rw [hc]
  exact hh
theorem ErrT.oex (T : ErrT K L C) : OexC K C := by
  obtain ⟨p, anc, ha, hl⟩ := T.line
  exact ⟨⟨_, _, _, _, _, _, _, _, _, _, _, _, _, _, _, hl, anc_refs ha⟩, T.sa, T.subT (by decide +kernel), T.ty, T.kp⟩
/-- isinstance of such a thing -/
theorem ErrT.kitD (T : ErrT K L C) (U : ErrT K L D) (h : D ≠ L) : PySem.W.kitOne K (.ref C) (.ref D) = some (decide (C = D)) := by
  by_cases z : C = D
  · subst z
    rw [decide_eq_true rfl]
    exact kit_self
  · rw [decide_eq_false z]
    refine kit_of_to z U.isC U.ty ?_
    rw [T.subD h, decide_eq_false z]
theorem ErrT.kitL (T : ErrT K L C) (U : ErrT K L L) : PySem.W.kitOne K (.ref C) (.ref L) = some true := by
  by_cases z : C = L
  · subst z
    exact kit_self
  · exact kit_of_to z U.isC U.ty T.subL
theorem ErrT.kitT (T : ErrT K L C) {t : String} {b : Bool} (m : PySem.W.kitMeta t = true) (e : PySem.HandSPX.veTail.contains (.type t) = b) : PySem.W.kitOne K (.ref C) (.type t) = some b := kit_ob m (T.subT e)
end
/-! ### made -/
/-- C(..), a value: a new error, then its __init__ -/
def tErr (C : Addr) (sp : Sp) (E : XK) (t : TA) : TE := fun σ H Q => t σ H fun vs H1 => vs.length ≤ 1000 ∧ ∀ a, H1 a = none → sp (.ref a :: vs) (upd H1 a (exo a C none)) (fun v H2 => v = .non ∧ Q (.ref a) H2) E
section
variable {X : Cx} {CX : CXT} {k : Nat} {fI L C : Addr} {fd : FuncData} {ps : List Str} {sp : Sp} {E : XK} {x f : Str} {p pos kpos : Pos} {e : Expr} {es : List Expr} {t : TA} {te : TE}
theorem run_err {pins : List (Addr × Obj)} {σ : St} {H : Hp} {s : Shared} {Q : VK} {us gs : List Value} {kw : List (Str × Value)} {vs : List V} (T : ErrT X.K L C)
    (iC : PySem.W.findIn X.K (.ref C) "__init__" = some (some (.ref fI))) (tI : PySem.W.isFn X.K (.ref fI) = true) (F : FnOk X.prog X.w X.K X.mg X.base CX k fI fd ps sp) (hr : Room (k + 1) X.A)
    (hb : ∀ (s' : Shared) (u : Value), X.K.In s'.heap → (u :: gs).length = ps.length → BindsTo s' fd ⟨u :: us, kw⟩ (ps.zip (u :: gs))) (hx : Passes CX X E) (I : Inv X pins σ H s) (r : Vals vs gs) (hl : us.length ≤ gs.length) (hv : vs.length ≤ 1000)
    (h : ∀ a, H a = none → sp (.ref a :: vs) (upd H a (exo a C none)) (fun v H2 => v = .non ∧ Q (.ref a) H2) E) :
    wpAny (model X.prog X.w) X.A (call (.ref C) us kw) (EP X pins σ Q) X.xe s := by
  obtain ⟨p, anc, ha, hC⟩ := T.line
  obtain ⟨hp, g, dr, tk, os⟩ := s
  have above : hp.objs.size ≤ hp.objs.size + 1 := Nat.le_succ _
  have hq := h (hp.objs.size + 1) (I.hok.fresh above)
  have kept : ∀ b o, hp.get? b = some o → ((hp.push (PySem.W.kdv_tup us)).push (PySem.HandSPX.excO C hp.objs.size)).get? b = some o := fun b o z => Heap.get?_push_of_some _ (Heap.get?_push_of_some _ z)
  have new : ((hp.push (PySem.W.kdv_tup us)).push (PySem.HandSPX.excO C hp.objs.size)).get? (hp.objs.size + 1) = some (PySem.HandSPX.excO C hp.objs.size) := by heap_get
  have J : Inv X pins σ (upd H (hp.objs.size + 1) (exo (hp.objs.size + 1) C none)) ⟨(hp.push (PySem.W.kdv_tup us)).push (PySem.HandSPX.excO C hp.objs.size), g, dr, tk, os⟩ :=
    I.laid (t' := tk) kept above (exo_ok new)
  have rr : Vals (V.ref (hp.objs.size + 1) :: vs) (Value.ref (hp.objs.size + 1) :: gs) := .cons rfl r
  have ln : (Value.ref (hp.objs.size + 1) :: gs).length = ps.length := rr.length.symm.trans (F.len _ _ _ _ hq)
  have lu : us.length ≤ sizeLine := Nat.le_trans hl (Nat.le_trans (Nat.le_of_eq (Paired.length r).symm) (Nat.le_trans hv (by decide)))
  refine wpAny_call (PySem.GyErr.call_err (anc_refs ha) (I.kIn _ _ hC) (PySem.W.looks_findIn I.kIn iC) (fun u => PySem.W.bind_fn I.kIn u (beq_iff_eq.mp tI)) lu
    (codeAny_mono (F.run _ X.stack _ _ ⟨Value.ref (hp.objs.size + 1) :: us, kw⟩ _ _ _ E (hr.make C us kw) (J.env0.make C us kw) (hb _ _ J.kIn ln) rr hq) fun re s' z => ?_))
  cases re with
  | error er => exact hx pins σ _ _ er s' J z
  | ok fl =>
    cases fl with
    | ret u =>
      obtain ⟨v, H', I3, rv, ev, q3⟩ := J.after z
      subst ev
      exact ⟨rv, V.ref (hp.objs.size + 1), H', I3, rfl, q3⟩
    | next => exact z.elim
    | brk => exact z.elim
    | cont => exact z.elim
/-- C(e, ..) -/
theorem pe_err (T : ErrT X.K L C) (iC : PySem.W.findIn X.K (.ref C) "__init__" = some (some (.ref fI))) (tI : PySem.W.isFn X.K (.ref fI) = true) (F : FnOk X.prog X.w X.K X.mg X.base CX k fI fd ps sp) (hr : Room (k + 1) X.A) (hb : Binds X.K fd ps []) (hx : Passes CX X E)
    (hg : Gl X x) (hm : X.mg x = some (.ref C)) (ha : PA X (e :: es) t) (hd : (x == ("__debug__" : Str)) = false := by decide) (h1 : starEach (e :: es) X.env = (false, eval e X.env) :: starEach es X.env := by rfl)
    (h2 : (backTo pos (starEach es X.env)).any (·.1) = false := by rfl) : PE X (.Call (.Name x p) (e :: es) [] pos) (tErr C sp E t) := ⟨fun pins s σ H Q I h =>
  wpAny_Call_Name_kw (ld_glob I hg hm (PySem.W.callWith_K (h₀ := X.base) I.ok.mod.kin T.kp (thn (ha.run pos pins s σ H _ I h) fun us s1 ⟨vs, H1, I1, r, hv, q⟩ =>
    ⟨I1.kIn, run_err (gs := us) T iC tI F hr (fun s' u ki l => by have z := hb s' (u :: us) ki (by rw [List.append_nil]; exact l); rwa [List.append_nil] at z) hx I1 r (Nat.le_refl _) hv q⟩) h1 h2) hd)⟩
/-- C() -/
theorem pe_err0 (T : ErrT X.K L C) (iC : PySem.W.findIn X.K (.ref C) "__init__" = some (some (.ref fI))) (tI : PySem.W.isFn X.K (.ref fI) = true) (F : FnOk X.prog X.w X.K X.mg X.base CX k fI fd ps sp) (hr : Room (k + 1) X.A) (hb : Binds X.K fd ps []) (hx : Passes CX X E)
    (hg : Gl X x) (hm : X.mg x = some (.ref C)) (hd : (x == ("__debug__" : Str)) = false := by decide) : PE X (.Call (.Name x p) [] [] pos) (tErr C sp E tNil) := ⟨fun pins s σ H Q I h =>
  wpAny_Call_Name_kw (ld_glob I hg hm (PySem.W.callWith_K0 I.kIn T.kp (run_err (us := []) (gs := []) (vs := []) T iC tI F hr (fun s' u ki l => hb s' [u] ki l) hx I .nil (Nat.le_refl _) (by decide) h.2)) hd)⟩
/-- how C(f = e) binds -/
def KwB (K : PySem.W.Frag) (fd : FuncData) (ps : List Str) (f : Str) : Prop := ∀ (s : Shared) (u w : Value), K.In s.heap → BindsTo s fd ⟨[u], [(f, w)]⟩ (ps.zip [u, w])
theorem kw_binds {K : PySem.W.Frag} {y qual : Str} {st : Stmt} {a : Addr} (F : Fun K y qual st a fd) (h : ∀ (kV doc pm : Value) (an : Option Addr) (cdv ct u w : Value), bindArgs (PySem.W.fnOf y qual (defArgs st) (defBody st) (defScope st) .none kV doc pm an cdv ct) ⟨[u], [(f, w)]⟩ = pure (ps.zip [u, w])) : KwB K fd ps f := by
  obtain ⟨_, _, kV, doc, pm, an, cdv, ct, _, rfl, _, _⟩ := F.ex
  exact fun s u w _ => .of_eq (h kV doc pm an cdv ct u w)
/-- C(f = e) -/
theorem pe_errK (T : ErrT X.K L C) (iC : PySem.W.findIn X.K (.ref C) "__init__" = some (some (.ref fI))) (tI : PySem.W.isFn X.K (.ref fI) = true) (F : FnOk X.prog X.w X.K X.mg X.base CX k fI fd ps sp) (hr : Room (k + 1) X.A) (hb : KwB X.K fd ps f) (hx : Passes CX X E)
    (hg : Gl X x) (hm : X.mg x = some (.ref C)) (ha : PE X e te) (hd : (x == ("__debug__" : Str)) = false := by decide) : PE X (.Call (.Name x p) [] [⟨some f, e, kpos⟩] pos) (tErr C sp E (tCons te tNil)) := ⟨fun pins s σ H Q I h => by
  refine wpAny_Call_Name_kw (ld_glob I hg hm ?_ hd)
  refine PySem.W.callWith_KW0 (h₀ := X.base) I.ok.mod.kin T.kp (by rfl) ?_ (by rfl)
  show wpAny _ _ (evalAll [do let v ← eval e X.env; standAt pos; pure v]) _ _ s
  refine wpAny_evalAll_cons (wpAny_bind (thn (ha.run pins s σ H _ I h) fun u s1 ⟨v, H1, I1, r, hv, q⟩ => wpAny_bind (wpAny_standAt (wpAny_pure ?_))))
  exact wpAny_evalAll_nil ⟨I1.kIn, run_err (gs := [u]) T iC tI F hr (fun s' o ki _ => hb s' o u ki) hx I1 (.cons r .nil) (Nat.zero_le _) hv q⟩⟩
/-! ### read -/
/-- x.f of an error at a -/
def tXv (K : PySem.W.Frag) (f : Str) (te : TE) : TE := fun σ H Q => te σ H fun x H1 => ∃ (a C dd : Addr) (fs : List (Str × V)) (v : V), x = .ref a ∧ H1 a = some (exo a C (some dd)) ∧ H1 dd = some (exd dd fs) ∧ (∃ L, ErrT K L C) ∧ PySem.W.findIn K (.ref C) f = some none ∧ fs.lookup f = some v ∧ Q v H1
theorem pe_xv (he : PE X e te) (hb : attributeBase e f X.env (eval e X.env) = eval e X.env := by rfl) : PE X (.Attribute e f pos) (tXv X.K f te) := ⟨fun pins s σ H Q I h => attr_of hb (thn (he.run pins s σ H _ I h) fun u s1 ⟨x, H1, I1, rx, a, C, dd, fs, v, ex, ea, ed, ⟨L, T⟩, hno, l, q⟩ => by
  subst ex
  cases (show u = Value.ref a from rx)
  obtain ⟨t1, ho⟩ := exo_at I1.hok ea
  obtain ⟨mA, hns, hr⟩ := exd_at I1.hok ed
  obtain ⟨od, hod, hl⟩ := lookIn_ns hns
  obtain ⟨u, hu, ru⟩ := RelO.some_of (v := v) (o := mA f) (by rw [← l]; exact hr f)
  have J : PySem.W.InstAt s1.heap a { cls := .ref C, dict := some dd, data := .fields #[.ref t1, .none, .none, .none, .bool false, .none] } C (some od) := ⟨ho, rfl, rfl, hod⟩
  exact PySem.HandSPX.exc_get I1.kIn J T.ga T.gg (T.subT (by decide +kernel)) (PySem.W.findObj_own T.hd hno rfl (by rw [hl, hu])) (handed_of ru) ⟨v, H1, I1.tok _, ru, q⟩)⟩
/-! ### asked for its class -/
/-- an error of the class at C at a, whose fields are fs (none: it has no dict) -/
def ErrAt (H : Hp) (a C : Addr) : Option (List (Str × V)) → Prop
  | none => H a = some (exo a C none)
  | some fs => ∃ dd, H a = some (exo a C (some dd)) ∧ H dd = some (exd dd fs)
theorem ErrAt.same {H H' : Hp} {a C : Addr} {o : Option (List (Str × V))} (h : ErrAt H a C o) (s : Same H H') : ErrAt H' a C o := by
  cases o with
  | none => exact s _ _ h
  | some fs =>
    obtain ⟨dd, h1, h2⟩ := h
    exact ⟨dd, s _ _ h1, s _ _ h2⟩
def rIsV (K : PySem.W.Frag) : List V → Hp → VK → Prop := fun xs H Q => ∃ (a C L : Addr) (o : Option (List (Str × V))) (c : V) (cv : Value) (b : Bool), xs = [.ref a, c] ∧ ErrAt H a C o ∧ ErrT K L C ∧ ErrG K ∧ ClsV c cv ∧ PySem.W.kitOne K (.ref C) cv = some b ∧ Q (.bl b) H
theorem call_isV : CallR X (.builtin "isinstance") (rIsV X.K) := by
  intro pins s σ H xs us Q I r h
  obtain ⟨a, C, L, o, c, cv, b, rfl, ha, T, G, hc, e, q⟩ := h
  obtain ⟨u1, u2, rfl, r1, r2⟩ := vals2 r
  cases (show u1 = Value.ref a from r1)
  have e2 := hc.eq r2
  subst e2
  have J : ∃ (ox : Obj) (od : Option Obj), PySem.W.InstAt s.heap a ox C od := by
    cases o with
    | none =>
      obtain ⟨t1, ho⟩ := exo_at I.hok ha
      exact ⟨_, none, ho, rfl, rfl, True.intro⟩
    | some fs =>
      obtain ⟨dd, h1, h2⟩ := ha
      obtain ⟨t1, ho⟩ := exo_at I.hok h1
      obtain ⟨mA, hns, _⟩ := exd_at I.hok h2
      obtain ⟨od, hod, _⟩ := lookIn_ns hns
      exact ⟨_, some od, ho, rfl, rfl, hod⟩
  obtain ⟨ox, od, J⟩ := J
  exact PySem.W.kia_one (PySem.W.kitx_exc T.isC T.ga T.gg (T.subT (by decide +kernel)) T.ca G.sp G.tk (T.subT (t := "object") (by decide +kernel))) I.kIn J e (fun z => nomatch z) fun tk => ⟨.bl b, H, I.tok tk, rfl, q⟩
/-! ### what __init__ promises -/
def spErrF (C : Addr) (f : Str) : Sp := fun vs H Q _ => ∃ (a : Addr) (y : V), vs = [.ref a, y] ∧ H a = some (exo a C none) ∧ ∀ dx, H dx = none → dx ≠ a → Q .non (upd (upd H dx (exd dx [(f, y)])) a (exo a C (some dx)))
def spErr0 (K : PySem.W.Frag) : Sp := fun vs H Q _ => ∃ (a C L : Addr), vs = [.ref a] ∧ ErrT K L C ∧ H a = some (exo a C none) ∧ Q .non H
/-- an error with one field, made -/
theorem errF {H : Hp} {C : Addr} {f : Str} {y : V} {Q : Addr → Hp → Prop} {E : XK} (h : ∀ a H', H a = none → Same H H' → ErrAt H' a C (some [(f, y)]) → Q a H') :
    ∀ a, H a = none → spErrF C f (.ref a :: [y]) (upd H a (exo a C none)) (fun v H2 => v = .non ∧ Q a H2) E := fun a na => by
  refine ⟨a, y, rfl, upd_same, fun dx nd ne => ⟨rfl, h a _ na (fun b o e => ?_) ⟨dx, upd_same, ?_⟩⟩⟩
  · have nb : b ≠ a := ne_of_none e na
    have nd' : H dx = none := by rw [upd_ne ne] at nd; exact nd
    rw [upd_ne nb, upd_ne (ne_of_none e nd'), upd_ne nb]
    exact e
  · rw [upd_ne ne, upd_same]
theorem err0 {K : PySem.W.Frag} {L : Addr} {H : Hp} {C : Addr} {Q : Addr → Hp → Prop} {E : XK} (T : ErrT K L C) (h : ∀ a H', H a = none → Same H H' → ErrAt H' a C none → Q a H') :
    ∀ a, H a = none → spErr0 K (.ref a :: []) (upd H a (exo a C none)) (fun v H2 => v = .non ∧ Q a H2) E := fun a na =>
  ⟨a, C, L, rfl, T, upd_same, rfl, h a _ na (same_upd na) upd_same⟩
end
end Gy
namespace Gy
open PySem L2
/-! ### a text some times over -/
theorem fold_size {α : Type} (a : Array α) : ∀ (n : Nat) (acc : Array α), ((List.replicate n a).foldl (· ++ ·) acc).size = acc.size + n * a.size
  | 0, acc => by simp
  | n + 1, acc => by
    rw [List.replicate_succ, List.foldl_cons, fold_size a n, Array.size_append, Nat.succ_mul]
    omega
theorem op_repS {X : Cx} : OpR X (binaryOp .Mult) (fun x y H Q => ∃ (z : Str) (k : Int), x = .str z ∧ y = .int k ∧ 0 ≤ k ∧ k ≤ 1000 ∧ z.length ≤ 1000 ∧ ∀ r : Str, Q (.str r) H) := by
  intro pins s σ H x y v u Q I rx ry h
  obtain ⟨z, k, rfl, rfl, h0, h1, hz, q⟩ := h
  obtain ⟨t, rfl⟩ := rx
  obtain ⟨t2, rfl⟩ := ry
  have hm : z.length * k.toNat ≤ 1000 * 1000 := Nat.mul_le_mul hz (by omega)
  have sl : (1000 * 1000 : Nat) ≤ sizeLine := by decide
  refine PySem.P.mul_str (by rw [decide_eq_false (by omega), decide_eq_false (by omega)]; rfl) (fun hk _ => ?_) (fun _ _ => ?_) ?_
  · have : (z.length : Int) ≤ (2 ^ 63 - 1) / k := by
      refine Int.le_ediv_of_mul_le (by omega) ?_
      have e : ((z.length * k.toNat : Nat) : Int) = (z.length : Int) * k := by rw [Int.natCast_mul, Int.toNat_of_nonneg h0]
      omega
    omega
  · show decide (z.length * k.toNat > sizeLine) = false
    exact decide_eq_false (by omega)
  · split
    · exact ⟨by decide, .str _, H, I.tok _, ⟨_, rfl⟩, q _⟩
    · split
      · exact ⟨.str z, H, I, ⟨_, rfl⟩, q z⟩
      · refine ⟨?_, .str _, H, I.tok _, ⟨_, rfl⟩, q _⟩
        show ((List.replicate k.toNat z.cps).foldl (· ++ ·) #[]).size ≤ sizeLine
        rw [fold_size]
        have e : z.length = z.cps.size := rfl
        rw [e, Nat.mul_comm] at hm
        have e0 : (#[] : Array UInt32).size = 0 := rfl
        simp only [List.size_toArray, List.length_nil]
        omega
/-- the rest of a body, told once for several ways -/
theorem seq_ways {t u : TS} {D : Ends} {σ : St} {H : Hp} (J : St → Hp → Prop) (rest : ∀ σ' H', J σ' H' → u D σ' H') (main : ∀ D' : Ends, (∀ σ' H', J σ' H' → D'.nx σ' H') → t D' σ H) : tSeq t u D σ H := main _ rest
end Gy

/-! Errors made. -/
namespace Gy
open PySem L2

def top (i : Nat) : Stmt := PySem.Challenge.pw_surelevels_k01_errors_made.main.body.getD i (.Pass ⟨0, 0, 0, 0⟩)
abbrev s_LevelError_init : Stmt := (inClass (top 1) 0)
theorem sc_LevelError_init : FnScope ["self"] ["self"] (defScope s_LevelError_init) :=
  ⟨rfl, rfl, rfl, by decide +kernel, rfl, by decide +kernel, by decide +kernel⟩
abbrev s_BadPart_init : Stmt := (inClass (top 2) 0)
theorem sc_BadPart_init : FnScope ["self", "part"] ["self", "part"] (defScope s_BadPart_init) :=
  ⟨rfl, rfl, rfl, by decide +kernel, rfl, by decide +kernel, by decide +kernel⟩
abbrev s_BadText_init : Stmt := (inClass (top 3) 0)
theorem sc_BadText_init : FnScope ["self", "line"] ["self", "line"] (defScope s_BadText_init) :=
  ⟨rfl, rfl, rfl, by decide +kernel, rfl, by decide +kernel, by decide +kernel⟩
abbrev s_BadLevel_init : Stmt := (inClass (top 5) 0)
theorem sc_BadLevel_init : FnScope ["self", "index"] ["self", "index"] (defScope s_BadLevel_init) :=
  ⟨rfl, rfl, rfl, by decide +kernel, rfl, by decide +kernel, by decide +kernel⟩
abbrev s_BadFact_init : Stmt := (inClass (top 6) 0)
theorem sc_BadFact_init : FnScope ["self", "index"] ["self", "index"] (defScope s_BadFact_init) :=
  ⟨rfl, rfl, rfl, by decide +kernel, rfl, by decide +kernel, by decide +kernel⟩
abbrev s_BadPlace_init : Stmt := (inClass (top 7) 0)
theorem sc_BadPlace_init : FnScope ["self", "index"] ["self", "index"] (defScope s_BadPlace_init) :=
  ⟨rfl, rfl, rfl, by decide +kernel, rfl, by decide +kernel, by decide +kernel⟩
abbrev s_BadPoint_init : Stmt := (inClass (top 8) 0)
theorem sc_BadPoint_init : FnScope ["self", "index"] ["self", "index"] (defScope s_BadPoint_init) :=
  ⟨rfl, rfl, rfl, by decide +kernel, rfl, by decide +kernel, by decide +kernel⟩
abbrev s_BadMoment_init : Stmt := (inClass (top 9) 0)
theorem sc_BadMoment_init : FnScope ["self", "moment"] ["self", "moment"] (defScope s_BadMoment_init) :=
  ⟨rfl, rfl, rfl, by decide +kernel, rfl, by decide +kernel, by decide +kernel⟩
abbrev s_BadLine_init : Stmt := (inClass (top 10) 0)
theorem sc_BadLine_init : FnScope ["self", "line"] ["self", "line"] (defScope s_BadLine_init) :=
  ⟨rfl, rfl, rfl, by decide +kernel, rfl, by decide +kernel, by decide +kernel⟩
abbrev s_UnknownLevel_init : Stmt := (inClass (top 13) 0)
theorem sc_UnknownLevel_init : FnScope ["self", "name"] ["self", "name"] (defScope s_UnknownLevel_init) :=
  ⟨rfl, rfl, rfl, by decide +kernel, rfl, by decide +kernel, by decide +kernel⟩
abbrev s_BadHeight_init : Stmt := (inClass (top 14) 0)
theorem sc_BadHeight_init : FnScope ["self", "height"] ["self", "height"] (defScope s_BadHeight_init) :=
  ⟨rfl, rfl, rfl, by decide +kernel, rfl, by decide +kernel, by decide +kernel⟩
abbrev s_law_fresh : Stmt := (top 16)
theorem sc_law_fresh : FnScope ["_law_script"] ["_law_script"] (defScope s_law_fresh) :=
  ⟨rfl, rfl, rfl, by decide +kernel, rfl, by decide +kernel, by decide +kernel⟩
abbrev s_law_fill : Stmt := (top 17)
theorem sc_law_fill : FnScope ["_law_state", "_law_cells", "_law_nth", "_law_seed", "_law_k", "_law_prime", "_law_far"] ["_law_state"] (defScope s_law_fill) :=
  ⟨rfl, rfl, rfl, by decide +kernel, rfl, by decide +kernel, by decide +kernel⟩
abbrev s_law_take : Stmt := (top 18)
theorem sc_law_take : FnScope ["_law_state", "_law_many", "_law_laps", "_law_digit"] ["_law_state", "_law_many"] (defScope s_law_take) :=
  ⟨rfl, rfl, rfl, by decide +kernel, rfl, by decide +kernel, by decide +kernel⟩
abbrev s_law_one : Stmt := (top 19)
theorem sc_law_one : FnScope ["_law_state", "_law_things"] ["_law_state", "_law_things"] (defScope s_law_one) :=
  ⟨rfl, rfl, rfl, by decide +kernel, rfl, by decide +kernel, by decide +kernel⟩
abbrev s_law_same : Stmt := (top 20)
theorem sc_law_same : FnScope ["_law_found", "_law_due", "_law_a", "_law_b"] ["_law_found", "_law_due"] (defScope s_law_same) :=
  ⟨rfl, rfl, rfl, by decide +kernel, rfl, by decide +kernel, by decide +kernel⟩
abbrev s_law_with_one : Stmt := (top 21)
theorem sc_law_with_one : FnScope ["_law_x", "_law_found"] ["_law_x"] (defScope s_law_with_one) :=
  ⟨rfl, rfl, rfl, by decide +kernel, rfl, by decide +kernel, by decide +kernel⟩
abbrev s_law_by_place : Stmt := (top 22)
theorem sc_law_by_place : FnScope ["_law_x", "_law_found"] ["_law_x"] (defScope s_law_by_place) :=
  ⟨rfl, rfl, rfl, by decide +kernel, rfl, by decide +kernel, by decide +kernel⟩
abbrev s_law_held : Stmt := (top 23)
theorem sc_law_held : FnScope ["_law_made", "_law_found"] ["_law_made"] (defScope s_law_held) :=
  ⟨rfl, rfl, rfl, by decide +kernel, rfl, by decide +kernel, by decide +kernel⟩
abbrev s_law_classes : Stmt := (top 24)
theorem sc_law_classes : FnScope ["_law_e", "_law_found"] ["_law_e"] (defScope s_law_classes) :=
  ⟨rfl, rfl, rfl, by decide +kernel, rfl, by decide +kernel, by decide +kernel⟩
abbrev s_law : Stmt := (top 25)
theorem sc_law : FnScope ["_law_script", "_law_state", "_law_turn", "_law_x", "_law_ones", "_law_made", "_law_k", "_law_e", "_law_at", "_law_found"] ["_law_script"] (defScope s_law) :=
  ⟨rfl, rfl, rfl, by decide +kernel, rfl, by decide +kernel, by decide +kernel⟩
structure Tx (K : PySem.W.Frag) (mg : Str → Option Value) where
  LevelError_a : Addr
  LevelError_m : mg "LevelError" = some (.ref LevelError_a)
  LevelError_e : ErrT K LevelError_a LevelError_a
  BadPart_a : Addr
  BadPart_m : mg "BadPart" = some (.ref BadPart_a)
  BadPart_e : ErrT K LevelError_a BadPart_a
  BadPart_n_part : PySem.W.findIn K (.ref BadPart_a) "part" = some none
  BadText_a : Addr
  BadText_m : mg "BadText" = some (.ref BadText_a)
  BadText_e : ErrT K LevelError_a BadText_a
  BadText_n_line : PySem.W.findIn K (.ref BadText_a) "line" = some none
  BadFrame_a : Addr
  BadFrame_m : mg "BadFrame" = some (.ref BadFrame_a)
  BadFrame_e : ErrT K LevelError_a BadFrame_a
  BadLevel_a : Addr
  BadLevel_m : mg "BadLevel" = some (.ref BadLevel_a)
  BadLevel_e : ErrT K LevelError_a BadLevel_a
  BadLevel_n_index : PySem.W.findIn K (.ref BadLevel_a) "index" = some none
  BadFact_a : Addr
  BadFact_m : mg "BadFact" = some (.ref BadFact_a)
  BadFact_e : ErrT K LevelError_a BadFact_a
  BadFact_n_index : PySem.W.findIn K (.ref BadFact_a) "index" = some none
  BadPlace_a : Addr
  BadPlace_m : mg "BadPlace" = some (.ref BadPlace_a)
  BadPlace_e : ErrT K LevelError_a BadPlace_a
  BadPlace_n_index : PySem.W.findIn K (.ref BadPlace_a) "index" = some none
  BadPoint_a : Addr
  BadPoint_m : mg "BadPoint" = some (.ref BadPoint_a)
  BadPoint_e : ErrT K LevelError_a BadPoint_a
  BadPoint_n_index : PySem.W.findIn K (.ref BadPoint_a) "index" = some none
  BadMoment_a : Addr
  BadMoment_m : mg "BadMoment" = some (.ref BadMoment_a)
  BadMoment_e : ErrT K LevelError_a BadMoment_a
  BadMoment_n_moment : PySem.W.findIn K (.ref BadMoment_a) "moment" = some none
  BadLine_a : Addr
  BadLine_m : mg "BadLine" = some (.ref BadLine_a)
  BadLine_e : ErrT K LevelError_a BadLine_a
  BadLine_n_line : PySem.W.findIn K (.ref BadLine_a) "line" = some none
  Unfit_a : Addr
  Unfit_m : mg "Unfit" = some (.ref Unfit_a)
  Unfit_e : ErrT K LevelError_a Unfit_a
  HasHistory_a : Addr
  HasHistory_m : mg "HasHistory" = some (.ref HasHistory_a)
  HasHistory_e : ErrT K LevelError_a HasHistory_a
  UnknownLevel_a : Addr
  UnknownLevel_m : mg "UnknownLevel" = some (.ref UnknownLevel_a)
  UnknownLevel_e : ErrT K LevelError_a UnknownLevel_a
  UnknownLevel_n_name : PySem.W.findIn K (.ref UnknownLevel_a) "name" = some none
  BadHeight_a : Addr
  BadHeight_m : mg "BadHeight" = some (.ref BadHeight_a)
  BadHeight_e : ErrT K LevelError_a BadHeight_a
  BadHeight_n_height : PySem.W.findIn K (.ref BadHeight_a) "height" = some none
  E_g : ErrG K
  E_nd : List.Nodup [LevelError_a, BadPart_a, BadText_a, BadLevel_a, BadFact_a, BadPlace_a, BadPoint_a, BadMoment_a, BadLine_a, UnknownLevel_a, BadHeight_a, BadFrame_a, Unfit_a, HasHistory_a]
  E_v : PySem.W.findCls K (.type "ValueError") (.type "type") "__init__" = some (.val (.builtin "ValueError.__init__"))
  LevelError_init_a : Addr
  LevelError_init_d : FuncData
  LevelError_init_F : Fun K "__init__" "LevelError.__init__" s_LevelError_init LevelError_init_a LevelError_init_d
  LevelError_init_b : Binds K LevelError_init_d ["self"] []
  LevelError_init_M : Meth K LevelError_a "__init__" LevelError_init_a
  BadPart_init_a : Addr
  BadPart_init_d : FuncData
  BadPart_init_F : Fun K "__init__" "BadPart.__init__" s_BadPart_init BadPart_init_a BadPart_init_d
  BadPart_init_b : Binds K BadPart_init_d ["self", "part"] []
  BadPart_init_M : Meth K BadPart_a "__init__" BadPart_init_a
  BadPart_init_kb : KwB K BadPart_init_d ["self", "part"] "part"
  BadText_init_a : Addr
  BadText_init_d : FuncData
  BadText_init_F : Fun K "__init__" "BadText.__init__" s_BadText_init BadText_init_a BadText_init_d
  BadText_init_b : Binds K BadText_init_d ["self", "line"] []
  BadText_init_M : Meth K BadText_a "__init__" BadText_init_a
  BadText_init_kb : KwB K BadText_init_d ["self", "line"] "line"
  BadLevel_init_a : Addr
  BadLevel_init_d : FuncData
  BadLevel_init_F : Fun K "__init__" "BadLevel.__init__" s_BadLevel_init BadLevel_init_a BadLevel_init_d
  BadLevel_init_b : Binds K BadLevel_init_d ["self", "index"] []
  BadLevel_init_M : Meth K BadLevel_a "__init__" BadLevel_init_a
  BadLevel_init_kb : KwB K BadLevel_init_d ["self", "index"] "index"
  BadFact_init_a : Addr
  BadFact_init_d : FuncData
  BadFact_init_F : Fun K "__init__" "BadFact.__init__" s_BadFact_init BadFact_init_a BadFact_init_d
  BadFact_init_b : Binds K BadFact_init_d ["self", "index"] []
  BadFact_init_M : Meth K BadFact_a "__init__" BadFact_init_a
  BadFact_init_kb : KwB K BadFact_init_d ["self", "index"] "index"
  BadPlace_init_a : Addr
  BadPlace_init_d : FuncData
  BadPlace_init_F : Fun K "__init__" "BadPlace.__init__" s_BadPlace_init BadPlace_init_a BadPlace_init_d
  BadPlace_init_b : Binds K BadPlace_init_d ["self", "index"] []
  BadPlace_init_M : Meth K BadPlace_a "__init__" BadPlace_init_a
  BadPlace_init_kb : KwB K BadPlace_init_d ["self", "index"] "index"
  BadPoint_init_a : Addr
  BadPoint_init_d : FuncData
  BadPoint_init_F : Fun K "__init__" "BadPoint.__init__" s_BadPoint_init BadPoint_init_a BadPoint_init_d
  BadPoint_init_b : Binds K BadPoint_init_d ["self", "index"] []
  BadPoint_init_M : Meth K BadPoint_a "__init__" BadPoint_init_a
  BadPoint_init_kb : KwB K BadPoint_init_d ["self", "index"] "index"
  BadMoment_init_a : Addr
  BadMoment_init_d : FuncData
  BadMoment_init_F : Fun K "__init__" "BadMoment.__init__" s_BadMoment_init BadMoment_init_a BadMoment_init_d
  BadMoment_init_b : Binds K BadMoment_init_d ["self", "moment"] []
  BadMoment_init_M : Meth K BadMoment_a "__init__" BadMoment_init_a
  BadMoment_init_kb : KwB K BadMoment_init_d ["self", "moment"] "moment"
  BadLine_init_a : Addr
  BadLine_init_d : FuncData
  BadLine_init_F : Fun K "__init__" "BadLine.__init__" s_BadLine_init BadLine_init_a BadLine_init_d
  BadLine_init_b : Binds K BadLine_init_d ["self", "line"] []
  BadLine_init_M : Meth K BadLine_a "__init__" BadLine_init_a
  BadLine_init_kb : KwB K BadLine_init_d ["self", "line"] "line"
  UnknownLevel_init_a : Addr
  UnknownLevel_init_d : FuncData
  UnknownLevel_init_F : Fun K "__init__" "UnknownLevel.__init__" s_UnknownLevel_init UnknownLevel_init_a UnknownLevel_init_d
  UnknownLevel_init_b : Binds K UnknownLevel_init_d ["self", "name"] []
  UnknownLevel_init_M : Meth K UnknownLevel_a "__init__" UnknownLevel_init_a
  UnknownLevel_init_kb : KwB K UnknownLevel_init_d ["self", "name"] "name"
  BadHeight_init_a : Addr
  BadHeight_init_d : FuncData
  BadHeight_init_F : Fun K "__init__" "BadHeight.__init__" s_BadHeight_init BadHeight_init_a BadHeight_init_d
  BadHeight_init_b : Binds K BadHeight_init_d ["self", "height"] []
  BadHeight_init_M : Meth K BadHeight_a "__init__" BadHeight_init_a
  BadHeight_init_kb : KwB K BadHeight_init_d ["self", "height"] "height"
  law_fresh_a : Addr
  law_fresh_d : FuncData
  law_fresh_F : Fun K "_law_fresh" "_law_fresh" s_law_fresh law_fresh_a law_fresh_d
  law_fresh_b : Binds K law_fresh_d ["_law_script"] []
  law_fresh_m : mg "_law_fresh" = some (.ref law_fresh_a)
  law_fill_a : Addr
  law_fill_d : FuncData
  law_fill_F : Fun K "_law_fill" "_law_fill" s_law_fill law_fill_a law_fill_d
  law_fill_b : Binds K law_fill_d ["_law_state"] []
  law_fill_m : mg "_law_fill" = some (.ref law_fill_a)
  law_take_a : Addr
  law_take_d : FuncData
  law_take_F : Fun K "_law_take" "_law_take" s_law_take law_take_a law_take_d
  law_take_b : Binds K law_take_d ["_law_state", "_law_many"] []
  law_take_m : mg "_law_take" = some (.ref law_take_a)
  law_one_a : Addr
  law_one_d : FuncData
  law_one_F : Fun K "_law_one" "_law_one" s_law_one law_one_a law_one_d
  law_one_b : Binds K law_one_d ["_law_state", "_law_things"] []
  law_one_m : mg "_law_one" = some (.ref law_one_a)
  law_same_a : Addr
  law_same_d : FuncData
  law_same_F : Fun K "_law_same" "_law_same" s_law_same law_same_a law_same_d
  law_same_b : Binds K law_same_d ["_law_found", "_law_due"] []
  law_same_m : mg "_law_same" = some (.ref law_same_a)
  law_with_one_a : Addr
  law_with_one_d : FuncData
  law_with_one_F : Fun K "_law_with_one" "_law_with_one" s_law_with_one law_with_one_a law_with_one_d
  law_with_one_b : Binds K law_with_one_d ["_law_x"] []
  law_with_one_m : mg "_law_with_one" = some (.ref law_with_one_a)
  law_by_place_a : Addr
  law_by_place_d : FuncData
  law_by_place_F : Fun K "_law_by_place" "_law_by_place" s_law_by_place law_by_place_a law_by_place_d
  law_by_place_b : Binds K law_by_place_d ["_law_x"] []
  law_by_place_m : mg "_law_by_place" = some (.ref law_by_place_a)
  law_held_a : Addr
  law_held_d : FuncData
  law_held_F : Fun K "_law_held" "_law_held" s_law_held law_held_a law_held_d
  law_held_b : Binds K law_held_d ["_law_made"] []
  law_held_m : mg "_law_held" = some (.ref law_held_a)
  law_classes_a : Addr
  law_classes_d : FuncData
  law_classes_F : Fun K "_law_classes" "_law_classes" s_law_classes law_classes_a law_classes_d
  law_classes_b : Binds K law_classes_d ["_law_e"] []
  law_classes_m : mg "_law_classes" = some (.ref law_classes_a)
  law_a : Addr
  law_d : FuncData
  law_F : Fun K "law" "law" s_law law_a law_d
  law_b : Binds K law_d ["_law_script"] []
  law_m : mg "law" = some (.ref law_a)
  z_ValueError : mg "ValueError" = none
  z_all : mg "all" = none
  z_bool : mg "bool" = none
  z_enumerate : mg "enumerate" = none
  z_int : mg "int" = none
  z_isinstance : mg "isinstance" = none
  z_len : mg "len" = none
  z_list : mg "list" = none
  z_range : mg "range" = none
  z_tuple : mg "tuple" = none
  z_zip : mg "zip" = none
  BadFrame_i : PySem.W.findIn K (.ref BadFrame_a) "__init__" = some (some (.ref LevelError_init_a))
  Unfit_i : PySem.W.findIn K (.ref Unfit_a) "__init__" = some (some (.ref LevelError_init_a))
  HasHistory_i : PySem.W.findIn K (.ref HasHistory_a) "__init__" = some (some (.ref LevelError_init_a))


section
variable {P : Program} {w : World} {K : PySem.W.Frag} {mg : Str → Option Value} {base : Heap}
/-! ### the law's draws -/
theorem cut63 (ns : List Int) (h : ns.length ≤ 63) : cutV (ns.map V.int) none (some 63) = ns.map V.int := by
  have hl : (ns.map V.int).length = ns.length := List.length_map ..
  have e : HT.sIx (ns.map V.int).length (ns.map V.int).length (some (63 : Int)) = (ns.map V.int).length := by
    have := HT.sIx_nat (ns.map V.int).length (ns.map V.int).length 63
    rw [show (((63 : Nat) : Int)) = (63 : Int) from rfl] at this
    rw [this, hl]
    omega
  unfold cutV
  rw [e, HT.sIx_none, Nat.sub_zero, List.drop_zero, List.take_length]
def spFresh (K : PySem.W.Frag) : Sp := fun vs H Q _ => ∃ (a : Addr) (ns : List Int), vs = [.ref a] ∧ SqL K H a (ns.map V.int) ∧ ns.length ≤ 63 ∧ ∀ st c H', Same H H' → StAt H' st c ns → Q (.ref st) H'
theorem ok_law_fresh (T : Tx K mg) : FnOk P w K mg base CX0 1 T.law_fresh_a T.law_fresh_d ["_law_script"] (spFresh K) := by
  refine T.law_fresh_F.ok sc_law_fresh (fun vs H Q E h => ?_) (fun cdv A outer s H vs Q E hr h => ?_)
  · obtain ⟨a, ns, rfl, _⟩ := h
    rfl
  · obtain ⟨a, ns, rfl, hS, hl, k⟩ := h
    refine ⟨_, (pss_one (ps_ret (pe_lst (pa_cons (pe_slice sl_list (pv 0) po_none (po_some pe_int)) (pa_cons pe_int (pa_cons pe_int (pa_cons pe_bl pa_nil))))))), ?_⟩
    refine ⟨_, rfl, 63, rfl, a, _, rfl, hS, fun c nc => ?_⟩
    refine ⟨(by show 4 ≤ sizeLine; decide), fun st ns' => ?_⟩
    have hne : c ≠ st := ne_of_none upd_same ns'
    refine k st c _ (Same.trans (same_upd nc) (same_upd ns')) ⟨⟨0, 0, false, upd_same⟩, ?_, hne⟩
    rw [upd_ne hne, upd_same, cut63 ns hl]
theorem prime_at {i : Nat} {x : V} (h : ([.int 2147483647, .int 2147483629, .int 2147483587, .int 2147483579, .int 2147483563] : List V)[i]? = some x) : ∃ p : Int, x = .int p ∧ 0 < p ∧ p < 2 ^ 31 ∧ i < 5 := by
  match i, h with
  | 0, h => exact ⟨_, (Option.some.inj h).symm, by decide, by decide, by decide⟩
  | 1, h => exact ⟨_, (Option.some.inj h).symm, by decide, by decide, by decide⟩
  | 2, h => exact ⟨_, (Option.some.inj h).symm, by decide, by decide, by decide⟩
  | 3, h => exact ⟨_, (Option.some.inj h).symm, by decide, by decide, by decide⟩
  | 4, h => exact ⟨_, (Option.some.inj h).symm, by decide, by decide, by decide⟩
def spFill : Sp := fun vs H Q _ => ∃ (st c : Addr) (ns : List Int), vs = [.ref st] ∧ StAt H st c ns ∧ ns.length ≤ 63 ∧ ∀ H', StAt H' st c ns → Keep st H H' → Q .non H'
theorem ok_law_fill (T : Tx K mg) : FnOk P w K mg base CX0 1 T.law_fill_a T.law_fill_d ["_law_state"] spFill := by
  refine T.law_fill_F.ok sc_law_fill (fun vs H Q E h => ?_) (fun cdv A outer s H vs Q E hr h => ?_)
  · obtain ⟨st, c, ns, rfl, _⟩ := h
    rfl
  · obtain ⟨st, c, ns, rfl, ⟨⟨nth, left, mx, hL⟩, hc, hne⟩, hl, k⟩ := h
    refine ⟨_, (pss_cons (ps_par (i := 1) (j := 2) (by rfl) sc_law_fill.nd rfl rfl (by decide) rfl rfl (pa_cons (pe_ix ix_list (pv 0) pe_int (fun _ _ => rfl)) (pa_cons (pe_ix ix_list (pv 0) pe_int (fun _ _ => rfl)) pa_nil)) (by rfl))
  (pss_cons (ps_set (i := 3) sc_law_fill.nd rfl (Or.inl rfl) (pe_op (op_add) (pe_op (op_mulG) pe_int (pv 2)) pe_int))
  (pss_cons (ps_if (pt_cmpR op_gt (pe_callB (call_len_seq) (by rfl) T.z_len (by decide +kernel) (pa_cons (pv 1) pa_nil)) pe_int (nomark _))
  (pss_one (ps_set (i := 3) sc_law_fill.nd rfl (Or.inl rfl) (pe_op (op_add) (pe_op (op_mulG) pe_int (pe_op (op_fdivG) (pv 2) (pe_callB (call_len_seq) (by rfl) T.z_len (by decide +kernel) (pa_cons (pv 1) pa_nil)))) (pe_ix ix_list (pv 1) (pe_op (op_modN) (pe_callTy call_int1 (by rfl) T.z_int (by decide +kernel) (pa_cons (pv 2) pa_nil)) (pe_callB (call_len_seq) (by rfl) T.z_len (by decide +kernel) (pa_cons (pv 1) pa_nil))) (fun _ _ => rfl)))))
  pss_nil)
  (pss_cons (ps_asg (pe_op (op_add) (pv 2) pe_int) (pg_sub (pv 0) pe_int set_list))
  (pss_cons (ps_asg (pe_or (pe_cmpR op_ge (pv 2) (pe_callB (call_len_seq) (by rfl) T.z_len (by decide +kernel) (pa_cons (pv 1) pa_nil)) (nomark _)) (pe_one (pe_cmpR op_lt (pv 3) (pe_op (op_pow) pe_int pe_int) (nomark _)))) (pg_sub (pv 0) pe_int set_list))
  (pss_cons (ps_asg (pe_op (op_sub) (pv 3) (pe_op (op_pow) pe_int pe_int)) (pg_sub (pv 0) pe_int set_list))
  (pss_one (ps_if (pt_val (pe_ix ix_list (pv 0) pe_int (fun _ _ => rfl)))
  (pss_cons (ps_asg pe_int (pg_sub (pv 0) pe_int set_list))
  (pss_one (ps_for PassesOwn.never rfl (pi_enumT (by rfl) T.z_enumerate (pa_cons (pe_tup (pa_cons pe_int (pa_cons pe_int (pa_cons pe_int (pa_cons pe_int (pa_cons pe_int pa_nil)))))) pa_nil)) (pg_tup (by rfl) (pgs_cons (pg_name (i := 4) sc_law_fill.nd rfl (Or.inl rfl)) (pgs_cons (pg_name (i := 5) sc_law_fill.nd rfl (Or.inl rfl)) pgs_nil)))
  (pss_cons (ps_set (i := 6) sc_law_fill.nd rfl (Or.inl rfl) (pe_op (op_modN) (pe_callTy call_int1 (by rfl) T.z_int (by decide +kernel) (pa_cons (pe_op (op_mulG) (pe_op (op_add) (pe_op (op_add) (pv 3) (pe_op (op_mulG) (pe_op (op_mulG) pe_int (pv 4)) (pv 4))) (pe_op (op_mulG) pe_int (pv 4))) (pe_op (op_add) pe_int (pe_op (op_mulG) pe_int (pv 4)))) pa_nil)) (pv 5)))
  (pss_one (ps_asg (pe_op (op_add) (pe_op (op_mulG) (pe_ix ix_list (pv 0) pe_int (fun _ _ => rfl)) (pv 5)) (pe_op (op_modN) (pe_callTy call_int1 (by rfl) T.z_int (by decide +kernel) (pa_cons (pe_op (op_pow) (pv 6) pe_int) pa_nil)) (pv 5))) (pg_sub (pv 0) pe_int set_list)))))))
  pss_nil)))))))), ?_⟩
    refine ⟨_, rfl, st, _, _, _, rfl, rfl, .inl (.inl hL), rfl, _, rfl, st, _, _, _, rfl, rfl, .inl (.inl hL), rfl, _, _, rfl, ?_⟩
    refine ⟨_, rfl, _, _, rfl, rfl, mulOk_l ⟨by decide, by decide⟩, _, _, rfl, rfl, ?_⟩
    refine ⟨_, rfl, c, _, rfl, .inl (.inl (.inl hc)), _, _, rfl, rfl, _, rfl, ?_⟩
    have hcU : ∀ o, (upd H st o) c = some (.lst (ns.map V.int)) := fun o => by rw [upd_ne hne]; exact hc
    -- what comes behind the seed, whatever it is
    have tail : ∀ (mx' : Bool) (H1 : Hp), Keep st H H1 → (∃ left, H1 st = some (.lst [.ref c, .int (nth + 1), .int left, .bl mx'])) → Q .non H1 := fun mx' H1 kp ⟨l, hl⟩ =>
      k H1 ⟨⟨_, _, _, hl⟩, kp c _ hc hne, hne⟩ kp
    refine ite2 (fun h0 => ?_) (fun h0 => ?_)
    · have h0 : (0 : Int) < ((ns.map V.int).length : Int) := of_decide_eq_true h0
      have hlen : (ns.map V.int).length = ns.length := List.length_map ..
      have hn0 : ((ns.map V.int).length : Int) ≠ 0 := by omega
      have f1 := Int.fmod_nonneg_of_pos nth h0
      have f2 := Int.fmod_lt_of_pos nth h0
      obtain ⟨j, hj⟩ : ∃ j : Nat, nth.fmod ((ns.map V.int).length : Int) = (j : Int) := ⟨_, (Int.toNat_of_nonneg f1).symm⟩
      have hjl : j < ns.length := by omega
      have hat : atI (ns.map V.int) (nth.fmod ((ns.map V.int).length : Int)) = some (.int ns[j]) := by
        rw [hj]
        exact atI_nat (by rw [List.getElem?_map, List.getElem?_eq_getElem hjl]; rfl)
      refine ⟨_, rfl, _, rfl, c, _, rfl, .inl (.inl (.inl hc)), _, _, rfl, rfl, gDiv_lt (b := 6) hn0 (by rw [hlen]; show ns.length < 64; omega) (by decide) (by decide), _, _, rfl, rfl, mulOk_l ⟨by decide, by decide⟩,
        _, rfl, _, rfl, .inl ⟨_, rfl, _, rfl, c, _, rfl, .inl (.inl (.inl hc)), _, _, rfl, rfl, hn0, c, _, _, _, rfl, rfl, .inl (.inl hc), hat, _, _, rfl, rfl, ?_⟩⟩
      -- the place is counted on
      refine ⟨_, rfl, _, _, rfl, rfl, _, rfl, st, _, 1, 1, rfl, rfl, hL, rfl, ?_⟩
      -- is it mixed
      refine ⟨_, rfl, _, rfl, c, _, rfl, .inl (.inl (.inl (hcU _))), _, _, rfl, rfl, _, rfl, ?_⟩
      refine ite2 (fun h1 => ?_) (fun h1 => ?_)
      · refine ⟨_, rfl, st, _, 3, 3, rfl, rfl, upd_same, rfl, ?_⟩
        refine ⟨_, rfl, _, _, rfl, rfl, ⟨by decide, by decide, by decide⟩, _, _, rfl, rfl, _, rfl, st, _, 2, 2, rfl, rfl, upd_same, rfl, ?_⟩
        refine ⟨_, rfl, st, _, _, _, rfl, rfl, .inl (.inl upd_same), rfl, _, rfl, ?_⟩
        refine iteT ?_
        refine ⟨_, rfl, st, _, 2, 2, rfl, rfl, upd_same, rfl, ?_⟩
        refine ⟨(by show 5 ≤ sizeLine; decide), fun t nt => ?_⟩
        refine ⟨t, _, rfl, .inl (.inl upd_same), for_enumT (K := K) (a := t) (xs := [.int 2147483647, .int 2147483629, .int 2147483587, .int 2147483579, .int 2147483563]) (fun i σ H2 => ∃ kk pp ff l b seed, σ = [some (.ref st), some (.ref c), some (.int nth), some (.int seed), kk, pp, ff] ∧ H2 st = some (.lst [.ref c, .int (nth + 1), .int l, .bl b]) ∧
          H2 t = some (.tup [.int 2147483647, .int 2147483629, .int 2147483587, .int 2147483579, .int 2147483563]) ∧ Keep st H H2) ⟨_, _, _, _, _, _, rfl, (upd_ne (ne_of_none upd_same nt)).trans upd_same, upd_same, ?_⟩ (fun i σ H2 _ ⟨_, _, _, _, _, _, _, _, ht, _⟩ => .inl (.inl ht)) ?_ ?_⟩
        · exact fun b o e n => same_upd nt b o (by rw [upd_ne n, upd_ne n, upd_ne n, upd_ne n]; exact e)
        · rintro i x σ H2 T' hx ⟨kk, pp, ff, l, b, seed, rfl, hS, hT, kp⟩ nT
          obtain ⟨p, rfl, p0, p1, i5⟩ := prime_at hx
          refine ⟨T', _, rfl, .inl (.inl upd_same), rfl, _, _, rfl, _, _, rfl, rfl, ?_⟩
          have hS' : ∀ o, (upd H2 T' o) st = some (.lst [.ref c, .int (nth + 1), .int l, .bl b]) := fun o => by rw [upd_ne (ne_of_none hS nT)]; exact hS
          have f1 : ∀ z : Int, 0 ≤ z.fmod p := fun z => Int.fmod_nonneg_of_pos z p0
          have f2 : ∀ z : Int, z.fmod p < p := fun z => Int.fmod_lt_of_pos z p0
          refine ⟨_, rfl, _, rfl, _, _, rfl, rfl, mulOk_l ⟨by decide, by decide⟩, _, rfl, _, _, rfl, rfl, mulOk_r ⟨by omega, by omega⟩, _, _, rfl, rfl, _, rfl, _, _, rfl, rfl, mulOk_l ⟨by decide, by decide⟩, _, _, rfl, rfl,
            _, rfl, _, _, rfl, rfl, mulOk_l ⟨by decide, by decide⟩, _, _, rfl, rfl, _, _, rfl, rfl, mulOk_r ⟨by omega, by omega⟩, .inl ⟨_, rfl, _, rfl, _, _, rfl, rfl, by omega, ?_⟩⟩
          refine ⟨_, rfl, st, _, _, _, rfl, rfl, .inl (.inl (hS' _)), rfl, _, rfl, _, _, rfl, rfl, mulOk_r ⟨by omega, by omega⟩, _, rfl, _, _, rfl, rfl, ⟨by decide, by decide, ?_⟩, .inl ⟨_, rfl, _, rfl, _, _, rfl, rfl, by omega, _, _, rfl, rfl, _, rfl, st, _, 2, 2, rfl, rfl, hS' _, rfl, ?_⟩⟩
          · have g1 := f1 ((seed + 10007 * (i : Int) * (i : Int) + 101 * (i : Int)) * (48271 + 2 * (i : Int)))
            have g2 := f2 ((seed + 10007 * (i : Int) * (i : Int) + 101 * (i : Int)) * (48271 + 2 * (i : Int)))
            omega
          · refine ⟨_, _, _, _, _, _, rfl, upd_same, ?_, fun b' o e n => ?_⟩
            · rw [upd_ne (ne_of hT hS (by intro z; cases z)), upd_ne (ne_of_none hT nT)]
              exact hT
            · rw [upd_ne n]
              exact same_upd nT b' o (kp b' o e n)
        · rintro σ H2 ⟨kk, pp, ff, l, b, seed, rfl, hS, hT, kp⟩
          exact tail b H2 kp ⟨l, hS⟩
      · refine ⟨_, rfl, _, _, rfl, rfl, ⟨by decide, by decide, by decide⟩, _, _, rfl, rfl, _, rfl, st, _, 3, 3, rfl, rfl, upd_same, rfl, ?_⟩
        refine ⟨_, rfl, _, _, rfl, rfl, ⟨by decide, by decide, by decide⟩, _, _, rfl, rfl, _, rfl, st, _, 2, 2, rfl, rfl, upd_same, rfl, ?_⟩
        refine ⟨_, rfl, st, _, _, _, rfl, rfl, .inl (.inl upd_same), rfl, _, rfl, ?_⟩
        refine ite2 (fun h2 => ?_) (fun h2 => ?_)
        · skip
          refine ⟨_, rfl, st, _, 2, 2, rfl, rfl, upd_same, rfl, ?_⟩
          refine ⟨(by show 5 ≤ sizeLine; decide), fun t nt => ?_⟩
          refine ⟨t, _, rfl, .inl (.inl upd_same), for_enumT (K := K) (a := t) (xs := [.int 2147483647, .int 2147483629, .int 2147483587, .int 2147483579, .int 2147483563]) (fun i σ H2 => ∃ kk pp ff l b seed, σ = [some (.ref st), some (.ref c), some (.int nth), some (.int seed), kk, pp, ff] ∧ H2 st = some (.lst [.ref c, .int (nth + 1), .int l, .bl b]) ∧
            H2 t = some (.tup [.int 2147483647, .int 2147483629, .int 2147483587, .int 2147483579, .int 2147483563]) ∧ Keep st H H2) ⟨_, _, _, _, _, _, rfl, (upd_ne (ne_of_none upd_same nt)).trans upd_same, upd_same, ?_⟩ (fun i σ H2 _ ⟨_, _, _, _, _, _, _, _, ht, _⟩ => .inl (.inl ht)) ?_ ?_⟩
          · exact fun b o e n => same_upd nt b o (by rw [upd_ne n, upd_ne n, upd_ne n, upd_ne n]; exact e)
          · rintro i x σ H2 T' hx ⟨kk, pp, ff, l, b, seed, rfl, hS, hT, kp⟩ nT
            obtain ⟨p, rfl, p0, p1, i5⟩ := prime_at hx
            refine ⟨T', _, rfl, .inl (.inl upd_same), rfl, _, _, rfl, _, _, rfl, rfl, ?_⟩
            have hS' : ∀ o, (upd H2 T' o) st = some (.lst [.ref c, .int (nth + 1), .int l, .bl b]) := fun o => by rw [upd_ne (ne_of_none hS nT)]; exact hS
            have f1 : ∀ z : Int, 0 ≤ z.fmod p := fun z => Int.fmod_nonneg_of_pos z p0
            have f2 : ∀ z : Int, z.fmod p < p := fun z => Int.fmod_lt_of_pos z p0
            refine ⟨_, rfl, _, rfl, _, _, rfl, rfl, mulOk_l ⟨by decide, by decide⟩, _, rfl, _, _, rfl, rfl, mulOk_r ⟨by omega, by omega⟩, _, _, rfl, rfl, _, rfl, _, _, rfl, rfl, mulOk_l ⟨by decide, by decide⟩, _, _, rfl, rfl,
              _, rfl, _, _, rfl, rfl, mulOk_l ⟨by decide, by decide⟩, _, _, rfl, rfl, _, _, rfl, rfl, mulOk_r ⟨by omega, by omega⟩, .inl ⟨_, rfl, _, rfl, _, _, rfl, rfl, by omega, ?_⟩⟩
            refine ⟨_, rfl, st, _, _, _, rfl, rfl, .inl (.inl (hS' _)), rfl, _, rfl, _, _, rfl, rfl, mulOk_r ⟨by omega, by omega⟩, _, rfl, _, _, rfl, rfl, ⟨by decide, by decide, ?_⟩, .inl ⟨_, rfl, _, rfl, _, _, rfl, rfl, by omega, _, _, rfl, rfl, _, rfl, st, _, 2, 2, rfl, rfl, hS' _, rfl, ?_⟩⟩
            · have g1 := f1 ((seed + 10007 * (i : Int) * (i : Int) + 101 * (i : Int)) * (48271 + 2 * (i : Int)))
              have g2 := f2 ((seed + 10007 * (i : Int) * (i : Int) + 101 * (i : Int)) * (48271 + 2 * (i : Int)))
              omega
            · refine ⟨_, _, _, _, _, _, rfl, upd_same, ?_, fun b' o e n => ?_⟩
              · rw [upd_ne (ne_of hT hS (by intro z; cases z)), upd_ne (ne_of_none hT nT)]
                exact hT
              · rw [upd_ne n]
                exact same_upd nT b' o (kp b' o e n)
          · rintro σ H2 ⟨kk, pp, ff, l, b, seed, rfl, hS, hT, kp⟩
            exact tail b H2 kp ⟨l, hS⟩
        · exact tail _ _ (fun b o e n => by rw [upd_ne n, upd_ne n, upd_ne n]; exact e) ⟨_, upd_same⟩
    · skip
      -- the place is counted on
      refine ⟨_, rfl, _, _, rfl, rfl, _, rfl, st, _, 1, 1, rfl, rfl, hL, rfl, ?_⟩
      -- is it mixed
      refine ⟨_, rfl, _, rfl, c, _, rfl, .inl (.inl (.inl (hcU _))), _, _, rfl, rfl, _, rfl, ?_⟩
      refine ite2 (fun h1 => ?_) (fun h1 => ?_)
      · refine ⟨_, rfl, st, _, 3, 3, rfl, rfl, upd_same, rfl, ?_⟩
        refine ⟨_, rfl, _, _, rfl, rfl, ⟨by decide, by decide, by decide⟩, _, _, rfl, rfl, _, rfl, st, _, 2, 2, rfl, rfl, upd_same, rfl, ?_⟩
        refine ⟨_, rfl, st, _, _, _, rfl, rfl, .inl (.inl upd_same), rfl, _, rfl, ?_⟩
        refine iteT ?_
        refine ⟨_, rfl, st, _, 2, 2, rfl, rfl, upd_same, rfl, ?_⟩
        refine ⟨(by show 5 ≤ sizeLine; decide), fun t nt => ?_⟩
        refine ⟨t, _, rfl, .inl (.inl upd_same), for_enumT (K := K) (a := t) (xs := [.int 2147483647, .int 2147483629, .int 2147483587, .int 2147483579, .int 2147483563]) (fun i σ H2 => ∃ kk pp ff l b seed, σ = [some (.ref st), some (.ref c), some (.int nth), some (.int seed), kk, pp, ff] ∧ H2 st = some (.lst [.ref c, .int (nth + 1), .int l, .bl b]) ∧
          H2 t = some (.tup [.int 2147483647, .int 2147483629, .int 2147483587, .int 2147483579, .int 2147483563]) ∧ Keep st H H2) ⟨_, _, _, _, _, _, rfl, (upd_ne (ne_of_none upd_same nt)).trans upd_same, upd_same, ?_⟩ (fun i σ H2 _ ⟨_, _, _, _, _, _, _, _, ht, _⟩ => .inl (.inl ht)) ?_ ?_⟩
        · exact fun b o e n => same_upd nt b o (by rw [upd_ne n, upd_ne n, upd_ne n, upd_ne n]; exact e)
        · rintro i x σ H2 T' hx ⟨kk, pp, ff, l, b, seed, rfl, hS, hT, kp⟩ nT
          obtain ⟨p, rfl, p0, p1, i5⟩ := prime_at hx
          refine ⟨T', _, rfl, .inl (.inl upd_same), rfl, _, _, rfl, _, _, rfl, rfl, ?_⟩
          have hS' : ∀ o, (upd H2 T' o) st = some (.lst [.ref c, .int (nth + 1), .int l, .bl b]) := fun o => by rw [upd_ne (ne_of_none hS nT)]; exact hS
          have f1 : ∀ z : Int, 0 ≤ z.fmod p := fun z => Int.fmod_nonneg_of_pos z p0
          have f2 : ∀ z : Int, z.fmod p < p := fun z => Int.fmod_lt_of_pos z p0
          refine ⟨_, rfl, _, rfl, _, _, rfl, rfl, mulOk_l ⟨by decide, by decide⟩, _, rfl, _, _, rfl, rfl, mulOk_r ⟨by omega, by omega⟩, _, _, rfl, rfl, _, rfl, _, _, rfl, rfl, mulOk_l ⟨by decide, by decide⟩, _, _, rfl, rfl,
            _, rfl, _, _, rfl, rfl, mulOk_l ⟨by decide, by decide⟩, _, _, rfl, rfl, _, _, rfl, rfl, mulOk_r ⟨by omega, by omega⟩, .inl ⟨_, rfl, _, rfl, _, _, rfl, rfl, by omega, ?_⟩⟩
          refine ⟨_, rfl, st, _, _, _, rfl, rfl, .inl (.inl (hS' _)), rfl, _, rfl, _, _, rfl, rfl, mulOk_r ⟨by omega, by omega⟩, _, rfl, _, _, rfl, rfl, ⟨by decide, by decide, ?_⟩, .inl ⟨_, rfl, _, rfl, _, _, rfl, rfl, by omega, _, _, rfl, rfl, _, rfl, st, _, 2, 2, rfl, rfl, hS' _, rfl, ?_⟩⟩
          · have g1 := f1 ((seed + 10007 * (i : Int) * (i : Int) + 101 * (i : Int)) * (48271 + 2 * (i : Int)))
            have g2 := f2 ((seed + 10007 * (i : Int) * (i : Int) + 101 * (i : Int)) * (48271 + 2 * (i : Int)))
            omega
          · refine ⟨_, _, _, _, _, _, rfl, upd_same, ?_, fun b' o e n => ?_⟩
            · rw [upd_ne (ne_of hT hS (by intro z; cases z)), upd_ne (ne_of_none hT nT)]
              exact hT
            · rw [upd_ne n]
              exact same_upd nT b' o (kp b' o e n)
        · rintro σ H2 ⟨kk, pp, ff, l, b, seed, rfl, hS, hT, kp⟩
          exact tail b H2 kp ⟨l, hS⟩
      · refine ⟨_, rfl, _, _, rfl, rfl, ⟨by decide, by decide, by decide⟩, _, _, rfl, rfl, _, rfl, st, _, 3, 3, rfl, rfl, upd_same, rfl, ?_⟩
        refine ⟨_, rfl, _, _, rfl, rfl, ⟨by decide, by decide, by decide⟩, _, _, rfl, rfl, _, rfl, st, _, 2, 2, rfl, rfl, upd_same, rfl, ?_⟩
        refine ⟨_, rfl, st, _, _, _, rfl, rfl, .inl (.inl upd_same), rfl, _, rfl, ?_⟩
        refine ite2 (fun h2 => ?_) (fun h2 => ?_)
        · skip
          refine ⟨_, rfl, st, _, 2, 2, rfl, rfl, upd_same, rfl, ?_⟩
          refine ⟨(by show 5 ≤ sizeLine; decide), fun t nt => ?_⟩
          refine ⟨t, _, rfl, .inl (.inl upd_same), for_enumT (K := K) (a := t) (xs := [.int 2147483647, .int 2147483629, .int 2147483587, .int 2147483579, .int 2147483563]) (fun i σ H2 => ∃ kk pp ff l b seed, σ = [some (.ref st), some (.ref c), some (.int nth), some (.int seed), kk, pp, ff] ∧ H2 st = some (.lst [.ref c, .int (nth + 1), .int l, .bl b]) ∧
            H2 t = some (.tup [.int 2147483647, .int 2147483629, .int 2147483587, .int 2147483579, .int 2147483563]) ∧ Keep st H H2) ⟨_, _, _, _, _, _, rfl, (upd_ne (ne_of_none upd_same nt)).trans upd_same, upd_same, ?_⟩ (fun i σ H2 _ ⟨_, _, _, _, _, _, _, _, ht, _⟩ => .inl (.inl ht)) ?_ ?_⟩
          · exact fun b o e n => same_upd nt b o (by rw [upd_ne n, upd_ne n, upd_ne n, upd_ne n]; exact e)
          · rintro i x σ H2 T' hx ⟨kk, pp, ff, l, b, seed, rfl, hS, hT, kp⟩ nT
            obtain ⟨p, rfl, p0, p1, i5⟩ := prime_at hx
            refine ⟨T', _, rfl, .inl (.inl upd_same), rfl, _, _, rfl, _, _, rfl, rfl, ?_⟩
            have hS' : ∀ o, (upd H2 T' o) st = some (.lst [.ref c, .int (nth + 1), .int l, .bl b]) := fun o => by rw [upd_ne (ne_of_none hS nT)]; exact hS
            have f1 : ∀ z : Int, 0 ≤ z.fmod p := fun z => Int.fmod_nonneg_of_pos z p0
            have f2 : ∀ z : Int, z.fmod p < p := fun z => Int.fmod_lt_of_pos z p0
            refine ⟨_, rfl, _, rfl, _, _, rfl, rfl, mulOk_l ⟨by decide, by decide⟩, _, rfl, _, _, rfl, rfl, mulOk_r ⟨by omega, by omega⟩, _, _, rfl, rfl, _, rfl, _, _, rfl, rfl, mulOk_l ⟨by decide, by decide⟩, _, _, rfl, rfl,
              _, rfl, _, _, rfl, rfl, mulOk_l ⟨by decide, by decide⟩, _, _, rfl, rfl, _, _, rfl, rfl, mulOk_r ⟨by omega, by omega⟩, .inl ⟨_, rfl, _, rfl, _, _, rfl, rfl, by omega, ?_⟩⟩
            refine ⟨_, rfl, st, _, _, _, rfl, rfl, .inl (.inl (hS' _)), rfl, _, rfl, _, _, rfl, rfl, mulOk_r ⟨by omega, by omega⟩, _, rfl, _, _, rfl, rfl, ⟨by decide, by decide, ?_⟩, .inl ⟨_, rfl, _, rfl, _, _, rfl, rfl, by omega, _, _, rfl, rfl, _, rfl, st, _, 2, 2, rfl, rfl, hS' _, rfl, ?_⟩⟩
            · have g1 := f1 ((seed + 10007 * (i : Int) * (i : Int) + 101 * (i : Int)) * (48271 + 2 * (i : Int)))
              have g2 := f2 ((seed + 10007 * (i : Int) * (i : Int) + 101 * (i : Int)) * (48271 + 2 * (i : Int)))
              omega
            · refine ⟨_, _, _, _, _, _, rfl, upd_same, ?_, fun b' o e n => ?_⟩
              · rw [upd_ne (ne_of hT hS (by intro z; cases z)), upd_ne (ne_of_none hT nT)]
                exact hT
              · rw [upd_ne n]
                exact same_upd nT b' o (kp b' o e n)
          · rintro σ H2 ⟨kk, pp, ff, l, b, seed, rfl, hS, hT, kp⟩
            exact tail b H2 kp ⟨l, hS⟩
        · exact tail _ _ (fun b o e n => by rw [upd_ne n, upd_ne n, upd_ne n]; exact e) ⟨_, upd_same⟩
def spTake : Sp := fun vs H Q _ => ∃ (st c : Addr) (ns : List Int) (many : Int), vs = [.ref st, .int many] ∧ StAt H st c ns ∧ ns.length ≤ 63 ∧ 0 < many ∧ many.natAbs < 2 ^ 2000 ∧
  ∀ r H', 0 ≤ r → r < many → StAt H' st c ns → Keep st H H' → Q (.int r) H'
theorem ok_law_take (T : Tx K mg) : FnOk P w K mg base CX0 2 T.law_take_a T.law_take_d ["_law_state", "_law_many"] spTake := by
  refine T.law_take_F.ok sc_law_take (fun vs H Q E h => ?_) (fun cdv A outer s H vs Q E hr h => ?_)
  · obtain ⟨st, c, ns, many, rfl, _⟩ := h
    rfl
  · obtain ⟨st, c, ns, many, rfl, hSt, hl, h0, hz, k⟩ := h
    refine ⟨_, (pss_cons (ps_set (i := 2) sc_law_take.nd rfl (Or.inl rfl) pe_int)
  (pss_cons (ps_while PassesOwn.never (PW.pt (pw_and (pt_cmpR op_lt (pv 2) pe_int (nomark _)) (pw_and1 (PW.pt (pw_or (pt_cmpR op_eq (pe_ix ix_list (pv 0) pe_int (fun _ _ => rfl)) pe_int (nomark _)) (pw_or1 (PW.pt (pw_and (pt_val (pe_ix ix_list (pv 0) pe_int (fun _ _ => rfl))) (pw_and1 (pt_cmpR op_lt (pe_ix ix_list (pv 0) pe_int (fun _ _ => rfl)) (pe_op (op_mulG) (pv 1) pe_int) (nomark _)))))))))))
  (pss_cons (ps_expr (pe_call (ok_law_fill T) (hr.mono (by decide)) rfl T.law_fill_m T.law_fill_F.kp T.law_fill_b .nil pass0 (pa_cons (pv 0) pa_nil)))
  (pss_cons (ps_aug (i := 2) sc_law_take.nd rfl (Or.inl rfl) pe_int ip_add)
  (pss_one (ps_if (PW.pt (pw_and (pt_val (pe_ix ix_list (pv 0) pe_int (fun _ _ => rfl))) (pw_and1 (pt_cmpR op_lt (pe_ix ix_list (pv 0) pe_int (fun _ _ => rfl)) (pe_op (op_mulG) (pv 1) pe_int) (nomark _)))))
  (pss_one (ps_asg (pe_op (op_add) (pe_ix ix_list (pv 0) pe_int (fun _ _ => rfl)) (pe_op (op_mulG) (pe_op (op_mulG) (pv 1) pe_int) (pe_op (op_add) pe_int (pe_op (op_modN) (pe_callTy call_int1 (by rfl) T.z_int (by decide +kernel) (pa_cons (pe_ix ix_list (pv 0) pe_int (fun _ _ => rfl)) pa_nil)) pe_int)))) (pg_sub (pv 0) pe_int set_list)))
  pss_nil)))))
  (pss_cons (ps_set (i := 3) sc_law_take.nd rfl (Or.inl rfl) (pe_op (op_modN) (pe_callTy call_int1 (by rfl) T.z_int (by decide +kernel) (pa_cons (pe_ix ix_list (pv 0) pe_int (fun _ _ => rfl)) pa_nil)) (pv 1)))
  (pss_cons (ps_asg (pe_op (op_fdivG) (pe_ix ix_list (pv 0) pe_int (fun _ _ => rfl)) (pv 1)) (pg_sub (pv 0) pe_int set_list))
  (pss_one (ps_ret (pv 3))))))), ?_⟩
    refine while_any (fun m σ H2 => ∃ (l : Int) (d : Option V), σ = [some (.ref st), some (.int many), some (.int l), d] ∧ m = (64 - l).toNat ∧ StAt H2 st c ns ∧ Keep st H H2) ⟨_, 0, none, rfl, rfl, hSt, Keep.refl _ _⟩ ?_ ?_ ?_
    · rintro m σ H2 Q' ⟨l, d, rfl, rfl, ⟨⟨nth, left, mx, hL⟩, hc, hne⟩, kp⟩ hT hF
      refine ⟨_, rfl, _, _, rfl, rfl, _, rfl, ?_⟩
      refine ite2 (fun hlt => ?_) (fun _ => hF)
      have hlt : l < 64 := of_decide_eq_true hlt
      have all : ∀ b, Q' b H2 := fun b => by
        cases b with
        | true => exact hT (by omega)
        | false => exact hF
      refine ⟨_, rfl, st, _, _, _, rfl, rfl, .inl (.inl hL), rfl, rfl, _, rfl, ?_⟩
      refine ite2 (fun _ => all _) (fun _ => ?_)
      refine ⟨_, rfl, st, _, _, _, rfl, rfl, .inl (.inl hL), rfl, _, rfl, ?_⟩
      refine ite2 (fun _ => ?_) (fun _ => all _)
      exact ⟨_, rfl, st, _, _, _, rfl, rfl, .inl (.inl hL), rfl, _, rfl, _, _, rfl, rfl, mulOk_r ⟨by decide, by decide⟩, _, _, rfl, rfl, _, rfl, all _⟩
    · rintro m σ H2 hm ⟨l, d, rfl, rfl, hSt2, kp⟩
      refine ⟨_, rfl, st, c, ns, rfl, hSt2, hl, fun H3 hSt3 kp3 => ?_⟩
      refine ⟨_, rfl, _, _, rfl, rfl, ?_⟩
      obtain ⟨⟨nth, left, mx, hL⟩, hc, hne⟩ := id hSt3
      have fin : ∀ H4, StAt H4 st c ns → Keep st H H4 → ∃ m', m' < (64 - l).toNat ∧ ∃ (l' : Int) (d' : Option V), ([some (.ref st), some (.int many), some (.int (l + 1)), d] : L2.St) = [some (.ref st), some (.int many), some (.int l'), d'] ∧ m' = (64 - l').toNat ∧ StAt H4 st c ns ∧ Keep st H H4 :=
        fun H4 a b => ⟨_, by omega, l + 1, d, rfl, rfl, a, b⟩
      have kp13 := kp.trans kp3
      refine ⟨_, rfl, st, _, _, _, rfl, rfl, .inl (.inl hL), rfl, _, rfl, ?_⟩
      refine ite2 (fun _ => ?_) (fun _ => iteF (fin H3 hSt3 kp13))
      refine ⟨_, rfl, st, _, _, _, rfl, rfl, .inl (.inl hL), rfl, _, rfl, _, _, rfl, rfl, mulOk_r ⟨by decide, by decide⟩, _, _, rfl, rfl, _, rfl, ?_⟩
      refine ite2 (fun _ => ?_) (fun _ => fin H3 hSt3 kp13)
      have g1 := Int.fmod_nonneg_of_pos left (b := 4093) (by decide)
      have g2 := Int.fmod_lt_of_pos left (b := 4093) (by decide)
      refine ⟨_, rfl, st, _, _, _, rfl, rfl, .inl (.inl hL), rfl, _, rfl, _, _, rfl, rfl, mulOk_r ⟨by decide, by decide⟩, _, rfl, st, _, _, _, rfl, rfl, .inl (.inl hL), rfl, .inl ⟨_, rfl, _, _, rfl, rfl, (by show (4093 : Int) ≠ 0; decide), _, _, rfl, rfl, _, _, rfl, rfl, mulOk_r ⟨by omega, by omega⟩,
        _, _, rfl, rfl, _, rfl, st, _, 2, 2, rfl, rfl, hL, rfl, ?_⟩⟩
      exact fin _ hSt3.upd (kp13.trans keep_upd)
    · rintro m σ H2 ⟨l, d, rfl, rfl, hSt2, kp⟩
      obtain ⟨⟨nth, left, mx, hL⟩, hc, hne⟩ := id hSt2
      refine ⟨_, rfl, st, _, _, _, rfl, rfl, .inl (.inl hL), rfl, .inl ⟨_, rfl, _, rfl, _, _, rfl, rfl, by omega, ?_⟩⟩
      refine ⟨_, rfl, st, _, _, _, rfl, rfl, .inl (.inl hL), rfl, _, rfl, _, _, rfl, rfl, gDiv_lt (by omega) hz (by decide) (by decide), _, rfl, st, _, 2, 2, rfl, rfl, hL, rfl, ?_⟩
      exact ⟨_, rfl, k _ _ (Int.fmod_nonneg_of_pos _ h0) (Int.fmod_lt_of_pos _ h0) hSt2.upd (kp.trans keep_upd)⟩
def spOne : Sp := fun vs H Q _ => ∃ (st c t : Addr) (ns : List Int) (xs : List V), vs = [.ref st, .ref t] ∧ StAt H st c ns ∧ ns.length ≤ 63 ∧ H t = some (.lst xs) ∧ t ≠ st ∧ xs ≠ [] ∧ xs.length ≤ 1000 ∧
  ∀ v H', v ∈ xs → StAt H' st c ns → Keep st H H' → Q v H'
theorem ok_law_one (T : Tx K mg) : FnOk P w K mg base CX0 3 T.law_one_a T.law_one_d ["_law_state", "_law_things"] spOne := by
  refine T.law_one_F.ok sc_law_one (fun vs H Q E h => ?_) (fun cdv A outer s H vs Q E hr h => ?_)
  · obtain ⟨st, c, t, ns, xs, rfl, _⟩ := h
    rfl
  · obtain ⟨st, c, t, ns, xs, rfl, hSt, hl, ht, hne, hx, hz, k⟩ := h
    refine ⟨_, (pss_one (ps_ret (pe_ix ix_list (pv 1) (pe_call (ok_law_take T) (hr.mono (by decide)) rfl T.law_take_m T.law_take_F.kp T.law_take_b .nil pass0 (pa_cons (pv 0) (pa_cons (pe_callB (call_len_seq) (by rfl) T.z_len (by decide +kernel) (pa_cons (pv 1) pa_nil)) pa_nil))) (fun _ _ => rfl)))), ?_⟩
    have h0 : 0 < xs.length := List.length_pos_iff.mpr hx
    have p10 : (1000 : Nat) < 2 ^ 2000 := Nat.lt_of_lt_of_le (by decide : 1000 < 2 ^ 10) (Nat.pow_le_pow_right (by decide) (by decide))
    refine ⟨_, rfl, _, rfl, _, rfl, t, xs, rfl, .inl (.inl (.inl ht)), st, c, ns, (xs.length : Int), rfl, hSt, hl, by omega, by omega, fun r H1 r0 r1 s1 k1 => ?_⟩
    obtain ⟨j, rfl⟩ : ∃ j : Nat, r = (j : Int) := ⟨_, (Int.toNat_of_nonneg r0).symm⟩
    have hj : j < xs.length := by omega
    exact ⟨t, xs, j, xs[j], rfl, rfl, .inl (.inl (k1 t _ ht hne)), atI_nat (List.getElem?_eq_getElem hj), k _ H1 (List.getElem_mem hj) s1 k1⟩

end


section
variable {P : Program} {w : World} {K : PySem.W.Frag} {mg : Str → Option Value} {base : Heap}
/-! ### the errors' own __init__ -/
theorem ok_LevelError_init (T : Tx K mg) : FnOk P w K mg base CX0 1 T.LevelError_init_a T.LevelError_init_d ["self"] (spErr0 K) := by
  refine T.LevelError_init_F.ok sc_LevelError_init (fun vs H Q E h => ?_) (fun cdv A outer s H vs Q E hr h => ?_)
  · obtain ⟨a, C, L, rfl, _⟩ := h
    rfl
  · obtain ⟨a, C, L, rfl, U, ha, k⟩ := h
    refine ⟨_, (pss_one (ps_expr (pe_veinit rfl T.z_ValueError T.E_v (pa_cons (pv 0) pa_nil)))), ?_⟩
    exact ⟨_, rfl, a, C, [], rfl, Nat.zero_le _, U.oex, ha, k⟩
theorem ok_BadPart_init (T : Tx K mg) : FnOk P w K mg base CX0 1 T.BadPart_init_a T.BadPart_init_d ["self", "part"] (spErrF T.BadPart_a "part") := by
  refine T.BadPart_init_F.ok sc_BadPart_init (fun vs H Q E h => ?_) (fun cdv A outer s H vs Q E hr h => ?_)
  · obtain ⟨a, y, rfl, _⟩ := h
    rfl
  · obtain ⟨a, y, rfl, ha, k⟩ := h
    refine ⟨_, (pss_one (ps_ost (pv 0) (pv 1))), ?_⟩
    exact ⟨_, rfl, _, rfl, a, T.BadPart_a, rfl, T.BadPart_e.oex, T.BadPart_n_part, .inl ⟨ha, k⟩⟩
theorem ok_BadText_init (T : Tx K mg) : FnOk P w K mg base CX0 1 T.BadText_init_a T.BadText_init_d ["self", "line"] (spErrF T.BadText_a "line") := by
  refine T.BadText_init_F.ok sc_BadText_init (fun vs H Q E h => ?_) (fun cdv A outer s H vs Q E hr h => ?_)
  · obtain ⟨a, y, rfl, _⟩ := h
    rfl
  · obtain ⟨a, y, rfl, ha, k⟩ := h
    refine ⟨_, (pss_one (ps_ost (pv 0) (pv 1))), ?_⟩
    exact ⟨_, rfl, _, rfl, a, T.BadText_a, rfl, T.BadText_e.oex, T.BadText_n_line, .inl ⟨ha, k⟩⟩
theorem ok_BadLevel_init (T : Tx K mg) : FnOk P w K mg base CX0 1 T.BadLevel_init_a T.BadLevel_init_d ["self", "index"] (spErrF T.BadLevel_a "index") := by
  refine T.BadLevel_init_F.ok sc_BadLevel_init (fun vs H Q E h => ?_) (fun cdv A outer s H vs Q E hr h => ?_)
  · obtain ⟨a, y, rfl, _⟩ := h
    rfl
  · obtain ⟨a, y, rfl, ha, k⟩ := h
    refine ⟨_, (pss_one (ps_ost (pv 0) (pv 1))), ?_⟩
    exact ⟨_, rfl, _, rfl, a, T.BadLevel_a, rfl, T.BadLevel_e.oex, T.BadLevel_n_index, .inl ⟨ha, k⟩⟩
theorem ok_BadFact_init (T : Tx K mg) : FnOk P w K mg base CX0 1 T.BadFact_init_a T.BadFact_init_d ["self", "index"] (spErrF T.BadFact_a "index") := by
  refine T.BadFact_init_F.ok sc_BadFact_init (fun vs H Q E h => ?_) (fun cdv A outer s H vs Q E hr h => ?_)
  · obtain ⟨a, y, rfl, _⟩ := h
    rfl
  · obtain ⟨a, y, rfl, ha, k⟩ := h
    refine ⟨_, (pss_one (ps_ost (pv 0) (pv 1))), ?_⟩
    exact ⟨_, rfl, _, rfl, a, T.BadFact_a, rfl, T.BadFact_e.oex, T.BadFact_n_index, .inl ⟨ha, k⟩⟩
theorem ok_BadPlace_init (T : Tx K mg) : FnOk P w K mg base CX0 1 T.BadPlace_init_a T.BadPlace_init_d ["self", "index"] (spErrF T.BadPlace_a "index") := by
  refine T.BadPlace_init_F.ok sc_BadPlace_init (fun vs H Q E h => ?_) (fun cdv A outer s H vs Q E hr h => ?_)
  · obtain ⟨a, y, rfl, _⟩ := h
    rfl
  · obtain ⟨a, y, rfl, ha, k⟩ := h
    refine ⟨_, (pss_one (ps_ost (pv 0) (pv 1))), ?_⟩
    exact ⟨_, rfl, _, rfl, a, T.BadPlace_a, rfl, T.BadPlace_e.oex, T.BadPlace_n_index, .inl ⟨ha, k⟩⟩
theorem ok_BadPoint_init (T : Tx K mg) : FnOk P w K mg base CX0 1 T.BadPoint_init_a T.BadPoint_init_d ["self", "index"] (spErrF T.BadPoint_a "index") := by
  refine T.BadPoint_init_F.ok sc_BadPoint_init (fun vs H Q E h => ?_) (fun cdv A outer s H vs Q E hr h => ?_)
  · obtain ⟨a, y, rfl, _⟩ := h
    rfl
  · obtain ⟨a, y, rfl, ha, k⟩ := h
    refine ⟨_, (pss_one (ps_ost (pv 0) (pv 1))), ?_⟩
    exact ⟨_, rfl, _, rfl, a, T.BadPoint_a, rfl, T.BadPoint_e.oex, T.BadPoint_n_index, .inl ⟨ha, k⟩⟩
theorem ok_BadMoment_init (T : Tx K mg) : FnOk P w K mg base CX0 1 T.BadMoment_init_a T.BadMoment_init_d ["self", "moment"] (spErrF T.BadMoment_a "moment") := by
  refine T.BadMoment_init_F.ok sc_BadMoment_init (fun vs H Q E h => ?_) (fun cdv A outer s H vs Q E hr h => ?_)
  · obtain ⟨a, y, rfl, _⟩ := h
    rfl
  · obtain ⟨a, y, rfl, ha, k⟩ := h
    refine ⟨_, (pss_one (ps_ost (pv 0) (pv 1))), ?_⟩
    exact ⟨_, rfl, _, rfl, a, T.BadMoment_a, rfl, T.BadMoment_e.oex, T.BadMoment_n_moment, .inl ⟨ha, k⟩⟩
theorem ok_BadLine_init (T : Tx K mg) : FnOk P w K mg base CX0 1 T.BadLine_init_a T.BadLine_init_d ["self", "line"] (spErrF T.BadLine_a "line") := by
  refine T.BadLine_init_F.ok sc_BadLine_init (fun vs H Q E h => ?_) (fun cdv A outer s H vs Q E hr h => ?_)
  · obtain ⟨a, y, rfl, _⟩ := h
    rfl
  · obtain ⟨a, y, rfl, ha, k⟩ := h
    refine ⟨_, (pss_one (ps_ost (pv 0) (pv 1))), ?_⟩
    exact ⟨_, rfl, _, rfl, a, T.BadLine_a, rfl, T.BadLine_e.oex, T.BadLine_n_line, .inl ⟨ha, k⟩⟩
theorem ok_UnknownLevel_init (T : Tx K mg) : FnOk P w K mg base CX0 1 T.UnknownLevel_init_a T.UnknownLevel_init_d ["self", "name"] (spErrF T.UnknownLevel_a "name") := by
  refine T.UnknownLevel_init_F.ok sc_UnknownLevel_init (fun vs H Q E h => ?_) (fun cdv A outer s H vs Q E hr h => ?_)
  · obtain ⟨a, y, rfl, _⟩ := h
    rfl
  · obtain ⟨a, y, rfl, ha, k⟩ := h
    refine ⟨_, (pss_one (ps_ost (pv 0) (pv 1))), ?_⟩
    exact ⟨_, rfl, _, rfl, a, T.UnknownLevel_a, rfl, T.UnknownLevel_e.oex, T.UnknownLevel_n_name, .inl ⟨ha, k⟩⟩
theorem ok_BadHeight_init (T : Tx K mg) : FnOk P w K mg base CX0 1 T.BadHeight_init_a T.BadHeight_init_d ["self", "height"] (spErrF T.BadHeight_a "height") := by
  refine T.BadHeight_init_F.ok sc_BadHeight_init (fun vs H Q E h => ?_) (fun cdv A outer s H vs Q E hr h => ?_)
  · obtain ⟨a, y, rfl, _⟩ := h
    rfl
  · obtain ⟨a, y, rfl, ha, k⟩ := h
    refine ⟨_, (pss_one (ps_ost (pv 0) (pv 1))), ?_⟩
    exact ⟨_, rfl, _, rfl, a, T.BadHeight_a, rfl, T.BadHeight_e.oex, T.BadHeight_n_height, .inl ⟨ha, k⟩⟩

end


section
variable {P : Program} {w : World} {K : PySem.W.Frag} {mg : Str → Option Value} {base : Heap}
/-- ten errors with one field, each holding x -/
def Made (T : Tx K mg) (H : Hp) (x : V) (es : List V) : Prop := ∃ a1 a2 a3 a4 a5 a6 a7 a8 a9 a0 : Addr, es = [.ref a1, .ref a2, .ref a3, .ref a4, .ref a5, .ref a6, .ref a7, .ref a8, .ref a9, .ref a0] ∧
  ErrAt H a1 T.BadPart_a (some [("part", x)]) ∧ ErrAt H a2 T.BadText_a (some [("line", x)]) ∧ ErrAt H a3 T.BadLevel_a (some [("index", x)]) ∧ ErrAt H a4 T.BadFact_a (some [("index", x)]) ∧ ErrAt H a5 T.BadPlace_a (some [("index", x)]) ∧
  ErrAt H a6 T.BadPoint_a (some [("index", x)]) ∧ ErrAt H a7 T.BadMoment_a (some [("moment", x)]) ∧ ErrAt H a8 T.BadLine_a (some [("line", x)]) ∧ ErrAt H a9 T.UnknownLevel_a (some [("name", x)]) ∧ ErrAt H a0 T.BadHeight_a (some [("height", x)])
theorem Made.same {T : Tx K mg} {H H' : Hp} {x : V} {es : List V} (h : Made T H x es) (s : Same H H') : Made T H' x es := by
  obtain ⟨a1, a2, a3, a4, a5, a6, a7, a8, a9, a0, e, h1, h2, h3, h4, h5, h6, h7, h8, h9, h0⟩ := h
  exact ⟨a1, a2, a3, a4, a5, a6, a7, a8, a9, a0, e, h1.same s, h2.same s, h3.same s, h4.same s, h5.same s, h6.same s, h7.same s, h8.same s, h9.same s, h0.same s⟩
def spMade (T : Tx K mg) : Sp := fun vs H Q _ => ∃ x : V, vs = [x] ∧ ∀ p es H', Same H H' → H' p = some (.lst es) → Made T H' x es → Q (.ref p) H'
theorem ok_law_with_one (T : Tx K mg) : FnOk P w K mg base CX0 3 T.law_with_one_a T.law_with_one_d ["_law_x"] (spMade T) := by
  refine T.law_with_one_F.ok sc_law_with_one (fun vs H Q E h => ?_) (fun cdv A outer s H vs Q E hr h => ?_)
  · obtain ⟨x, rfl, _⟩ := h
    rfl
  · obtain ⟨x, rfl, k⟩ := h
    refine ⟨_, (pss_cons (ps_set (i := 1) sc_law_with_one.nd rfl (Or.inl rfl) (pe_lst (pa_cons (pe_errK T.BadPart_e T.BadPart_init_M.at_ T.BadPart_init_M.fn (ok_BadPart_init T) (hr.mono (by decide)) T.BadPart_init_kb pass0 rfl T.BadPart_m (pv 0)) (pa_cons (pe_errK T.BadText_e T.BadText_init_M.at_ T.BadText_init_M.fn (ok_BadText_init T) (hr.mono (by decide)) T.BadText_init_kb pass0 rfl T.BadText_m (pv 0)) (pa_cons (pe_errK T.BadLevel_e T.BadLevel_init_M.at_ T.BadLevel_init_M.fn (ok_BadLevel_init T) (hr.mono (by decide)) T.BadLevel_init_kb pass0 rfl T.BadLevel_m (pv 0)) (pa_cons (pe_errK T.BadFact_e T.BadFact_init_M.at_ T.BadFact_init_M.fn (ok_BadFact_init T) (hr.mono (by decide)) T.BadFact_init_kb pass0 rfl T.BadFact_m (pv 0)) (pa_cons (pe_errK T.BadPlace_e T.BadPlace_init_M.at_ T.BadPlace_init_M.fn (ok_BadPlace_init T) (hr.mono (by decide)) T.BadPlace_init_kb pass0 rfl T.BadPlace_m (pv 0)) pa_nil)))))))
  (pss_cons (ps_set (i := 1) sc_law_with_one.nd rfl (Or.inl rfl) (pe_op (op_cat) (pv 1) (pe_lst (pa_cons (pe_errK T.BadPoint_e T.BadPoint_init_M.at_ T.BadPoint_init_M.fn (ok_BadPoint_init T) (hr.mono (by decide)) T.BadPoint_init_kb pass0 rfl T.BadPoint_m (pv 0)) (pa_cons (pe_errK T.BadMoment_e T.BadMoment_init_M.at_ T.BadMoment_init_M.fn (ok_BadMoment_init T) (hr.mono (by decide)) T.BadMoment_init_kb pass0 rfl T.BadMoment_m (pv 0)) (pa_cons (pe_errK T.BadLine_e T.BadLine_init_M.at_ T.BadLine_init_M.fn (ok_BadLine_init T) (hr.mono (by decide)) T.BadLine_init_kb pass0 rfl T.BadLine_m (pv 0)) (pa_cons (pe_errK T.UnknownLevel_e T.UnknownLevel_init_M.at_ T.UnknownLevel_init_M.fn (ok_UnknownLevel_init T) (hr.mono (by decide)) T.UnknownLevel_init_kb pass0 rfl T.UnknownLevel_m (pv 0)) pa_nil)))))))
  (pss_one (ps_ret (pe_op (op_cat) (pv 1) (pe_lst (pa_cons (pe_errK T.BadHeight_e T.BadHeight_init_M.at_ T.BadHeight_init_M.fn (ok_BadHeight_init T) (hr.mono (by decide)) T.BadHeight_init_kb pass0 rfl T.BadHeight_m (pv 0)) pa_nil))))))), ?_⟩
    refine ⟨_, rfl, (by show 1 ≤ 1000; decide), errF fun a1 H1 _ s1 e1 => ?_⟩
    refine ⟨_, rfl, (by show 1 ≤ 1000; decide), errF fun a2 H2 _ s2 e2 => ?_⟩
    refine ⟨_, rfl, (by show 1 ≤ 1000; decide), errF fun a3 H3 _ s3 e3 => ?_⟩
    refine ⟨_, rfl, (by show 1 ≤ 1000; decide), errF fun a4 H4 _ s4 e4 => ?_⟩
    refine ⟨_, rfl, (by show 1 ≤ 1000; decide), errF fun a5 H5 _ s5 e5 => ?_⟩
    refine ⟨(by show 5 ≤ sizeLine; decide), fun p np => ?_⟩
    have hp := upd_same (H := H5) (a := p) (o := .lst [.ref a1, .ref a2, .ref a3, .ref a4, .ref a5])
    have sp := same_upd (o := .lst [.ref a1, .ref a2, .ref a3, .ref a4, .ref a5]) np
    refine ⟨_, rfl, ?_⟩
    generalize upd H5 p (.lst [.ref a1, .ref a2, .ref a3, .ref a4, .ref a5]) = H6 at hp sp ⊢
    refine ⟨_, rfl, (by show 1 ≤ 1000; decide), errF fun a6 H7 _ s6 e6 => ?_⟩
    refine ⟨_, rfl, (by show 1 ≤ 1000; decide), errF fun a7 H8 _ s7 e7 => ?_⟩
    refine ⟨_, rfl, (by show 1 ≤ 1000; decide), errF fun a8 H9 _ s8 e8 => ?_⟩
    refine ⟨_, rfl, (by show 1 ≤ 1000; decide), errF fun a9 HA _ s9 e9 => ?_⟩
    refine ⟨(by show 4 ≤ sizeLine; decide), fun q nq => ?_⟩
    have hq := upd_same (H := HA) (a := q) (o := .lst [.ref a6, .ref a7, .ref a8, .ref a9])
    have sq := same_upd (o := .lst [.ref a6, .ref a7, .ref a8, .ref a9]) nq
    generalize upd HA q (.lst [.ref a6, .ref a7, .ref a8, .ref a9]) = HB at hq sq ⊢
    refine ⟨p, q, _, _, rfl, rfl, sq _ _ (s9 _ _ (s8 _ _ (s7 _ _ (s6 _ _ hp)))), hq, (by show 9 ≤ sizeLine; decide), fun r nr => ?_⟩
    have hR := upd_same (H := HB) (a := r) (o := .lst ([.ref a1, .ref a2, .ref a3, .ref a4, .ref a5] ++ [.ref a6, .ref a7, .ref a8, .ref a9]))
    have sr := same_upd (o := .lst ([.ref a1, .ref a2, .ref a3, .ref a4, .ref a5] ++ [.ref a6, .ref a7, .ref a8, .ref a9])) nr
    generalize upd HB r (.lst ([.ref a1, .ref a2, .ref a3, .ref a4, .ref a5] ++ [.ref a6, .ref a7, .ref a8, .ref a9])) = HC at hR sr ⊢
    refine ⟨_, rfl, ?_⟩
    refine ⟨_, rfl, (by show 1 ≤ 1000; decide), errF fun a0 HD _ s0 e0 => ?_⟩
    refine ⟨(by show 1 ≤ sizeLine; decide), fun o no => ?_⟩
    have hO := upd_same (H := HD) (a := o) (o := .lst [.ref a0])
    have sO := same_upd (o := .lst [.ref a0]) no
    generalize upd HD o (.lst [.ref a0]) = HE at hO sO ⊢
    refine ⟨r, o, _, _, rfl, rfl, sO _ _ (s0 _ _ hR), hO, (by show 10 ≤ sizeLine; decide), fun f nf => ?_⟩
    have sF := same_upd (o := .lst [.ref a1, .ref a2, .ref a3, .ref a4, .ref a5, .ref a6, .ref a7, .ref a8, .ref a9, .ref a0]) nf
    have u0 := sO.trans sF
    have u9 := sq.trans (sr.trans (s0.trans u0))
    have u8 := s9.trans u9
    have u7 := s8.trans u8
    have u6 := s7.trans u7
    have u5 := sp.trans (s6.trans u6)
    have u4 := s5.trans u5
    have u3 := s4.trans u4
    have u2 := s3.trans u3
    have u1 := s2.trans u2
    exact k _ _ _ (s1.trans u1) upd_same ⟨a1, a2, a3, a4, a5, a6, a7, a8, a9, a0, rfl, e1.same u1, e2.same u2, e3.same u3, e4.same u4, e5.same u5, e6.same u6, e7.same u7, e8.same u8, e9.same u9, e0.same u0⟩
theorem ok_law_by_place (T : Tx K mg) : FnOk P w K mg base CX0 3 T.law_by_place_a T.law_by_place_d ["_law_x"] (spMade T) := by
  refine T.law_by_place_F.ok sc_law_by_place (fun vs H Q E h => ?_) (fun cdv A outer s H vs Q E hr h => ?_)
  · obtain ⟨x, rfl, _⟩ := h
    rfl
  · obtain ⟨x, rfl, k⟩ := h
    refine ⟨_, (pss_cons (ps_set (i := 1) sc_law_by_place.nd rfl (Or.inl rfl) (pe_lst (pa_cons (pe_err T.BadPart_e T.BadPart_init_M.at_ T.BadPart_init_M.fn (ok_BadPart_init T) (hr.mono (by decide)) T.BadPart_init_b pass0 rfl T.BadPart_m (pa_cons (pv 0) pa_nil)) (pa_cons (pe_err T.BadText_e T.BadText_init_M.at_ T.BadText_init_M.fn (ok_BadText_init T) (hr.mono (by decide)) T.BadText_init_b pass0 rfl T.BadText_m (pa_cons (pv 0) pa_nil)) (pa_cons (pe_err T.BadLevel_e T.BadLevel_init_M.at_ T.BadLevel_init_M.fn (ok_BadLevel_init T) (hr.mono (by decide)) T.BadLevel_init_b pass0 rfl T.BadLevel_m (pa_cons (pv 0) pa_nil)) (pa_cons (pe_err T.BadFact_e T.BadFact_init_M.at_ T.BadFact_init_M.fn (ok_BadFact_init T) (hr.mono (by decide)) T.BadFact_init_b pass0 rfl T.BadFact_m (pa_cons (pv 0) pa_nil)) (pa_cons (pe_err T.BadPlace_e T.BadPlace_init_M.at_ T.BadPlace_init_M.fn (ok_BadPlace_init T) (hr.mono (by decide)) T.BadPlace_init_b pass0 rfl T.BadPlace_m (pa_cons (pv 0) pa_nil)) (pa_cons (pe_err T.BadPoint_e T.BadPoint_init_M.at_ T.BadPoint_init_M.fn (ok_BadPoint_init T) (hr.mono (by decide)) T.BadPoint_init_b pass0 rfl T.BadPoint_m (pa_cons (pv 0) pa_nil)) (pa_cons (pe_err T.BadMoment_e T.BadMoment_init_M.at_ T.BadMoment_init_M.fn (ok_BadMoment_init T) (hr.mono (by decide)) T.BadMoment_init_b pass0 rfl T.BadMoment_m (pa_cons (pv 0) pa_nil)) (pa_cons (pe_err T.BadLine_e T.BadLine_init_M.at_ T.BadLine_init_M.fn (ok_BadLine_init T) (hr.mono (by decide)) T.BadLine_init_b pass0 rfl T.BadLine_m (pa_cons (pv 0) pa_nil)) pa_nil))))))))))
  (pss_one (ps_ret (pe_op (op_cat) (pv 1) (pe_lst (pa_cons (pe_err T.UnknownLevel_e T.UnknownLevel_init_M.at_ T.UnknownLevel_init_M.fn (ok_UnknownLevel_init T) (hr.mono (by decide)) T.UnknownLevel_init_b pass0 rfl T.UnknownLevel_m (pa_cons (pv 0) pa_nil)) (pa_cons (pe_err T.BadHeight_e T.BadHeight_init_M.at_ T.BadHeight_init_M.fn (ok_BadHeight_init T) (hr.mono (by decide)) T.BadHeight_init_b pass0 rfl T.BadHeight_m (pa_cons (pv 0) pa_nil)) pa_nil))))))), ?_⟩
    refine ⟨_, rfl, (by show 1 ≤ 1000; decide), errF fun a1 H1 _ s1 e1 => ?_⟩
    refine ⟨_, rfl, (by show 1 ≤ 1000; decide), errF fun a2 H2 _ s2 e2 => ?_⟩
    refine ⟨_, rfl, (by show 1 ≤ 1000; decide), errF fun a3 H3 _ s3 e3 => ?_⟩
    refine ⟨_, rfl, (by show 1 ≤ 1000; decide), errF fun a4 H4 _ s4 e4 => ?_⟩
    refine ⟨_, rfl, (by show 1 ≤ 1000; decide), errF fun a5 H5 _ s5 e5 => ?_⟩
    refine ⟨_, rfl, (by show 1 ≤ 1000; decide), errF fun a6 H6 _ s6 e6 => ?_⟩
    refine ⟨_, rfl, (by show 1 ≤ 1000; decide), errF fun a7 H7 _ s7 e7 => ?_⟩
    refine ⟨_, rfl, (by show 1 ≤ 1000; decide), errF fun a8 H8 _ s8 e8 => ?_⟩
    refine ⟨(by show 8 ≤ sizeLine; decide), fun p np => ?_⟩
    have hp := upd_same (H := H8) (a := p) (o := .lst [.ref a1, .ref a2, .ref a3, .ref a4, .ref a5, .ref a6, .ref a7, .ref a8])
    have sp := same_upd (o := .lst [.ref a1, .ref a2, .ref a3, .ref a4, .ref a5, .ref a6, .ref a7, .ref a8]) np
    refine ⟨_, rfl, ?_⟩
    generalize upd H8 p (.lst [.ref a1, .ref a2, .ref a3, .ref a4, .ref a5, .ref a6, .ref a7, .ref a8]) = HB at hp sp ⊢
    refine ⟨_, rfl, (by show 1 ≤ 1000; decide), errF fun a9 HC _ s9 e9 => ?_⟩
    refine ⟨_, rfl, (by show 1 ≤ 1000; decide), errF fun a0 HD _ s0 e0 => ?_⟩
    refine ⟨(by show 2 ≤ sizeLine; decide), fun o no => ?_⟩
    have hO := upd_same (H := HD) (a := o) (o := .lst [.ref a9, .ref a0])
    have sO := same_upd (o := .lst [.ref a9, .ref a0]) no
    generalize upd HD o (.lst [.ref a9, .ref a0]) = HE at hO sO ⊢
    refine ⟨p, o, _, _, rfl, rfl, sO _ _ (s0 _ _ (s9 _ _ hp)), hO, (by show 10 ≤ sizeLine; decide), fun f nf => ?_⟩
    have sF := same_upd (o := .lst [.ref a1, .ref a2, .ref a3, .ref a4, .ref a5, .ref a6, .ref a7, .ref a8, .ref a9, .ref a0]) nf
    have u0 := sO.trans sF
    have u9 := s0.trans u0
    have u8 := sp.trans (s9.trans u9)
    have u7 := s8.trans u8
    have u6 := s7.trans u7
    have u5 := s6.trans u6
    have u4 := s5.trans u5
    have u3 := s4.trans u4
    have u2 := s3.trans u3
    have u1 := s2.trans u2
    exact k _ _ _ (s1.trans u1) upd_same ⟨a1, a2, a3, a4, a5, a6, a7, a8, a9, a0, rfl, e1.same u1, e2.same u2, e3.same u3, e4.same u4, e5.same u5, e6.same u6, e7.same u7, e8.same u8, e9.same u9, e0.same u0⟩
/-- what ten such errors hold -/
def spHeld (T : Tx K mg) : Sp := fun vs H Q _ => ∃ p es x, vs = [.ref p] ∧ H p = some (.lst es) ∧ Made T H x es ∧ ∀ q H', Same H H' → H' q = some (.lst [x, x, x, x, x, x, x, x, x, x]) → Q (.ref q) H'
theorem ok_law_held (T : Tx K mg) : FnOk P w K mg base CX0 1 T.law_held_a T.law_held_d ["_law_made"] (spHeld T) := by
  refine T.law_held_F.ok sc_law_held (fun vs H Q E h => ?_) (fun cdv A outer s H vs Q E hr h => ?_)
  · obtain ⟨p, es, x, rfl, _⟩ := h
    rfl
  · obtain ⟨p, es, x, rfl, hp, hM, k⟩ := h
    obtain ⟨a1, a2, a3, a4, a5, a6, a7, a8, a9, a0, rfl, ⟨d1, g1, f1⟩, ⟨d2, g2, f2⟩, ⟨d3, g3, f3⟩, ⟨d4, g4, f4⟩, ⟨d5, g5, f5⟩, ⟨d6, g6, f6⟩, ⟨d7, g7, f7⟩, ⟨d8, g8, f8⟩, ⟨d9, g9, f9⟩, d0, g0, f0⟩ := hM
    refine ⟨_, (pss_cons (ps_set (i := 1) sc_law_held.nd rfl (Or.inl rfl) (pe_lst (pa_cons (pe_xv (pe_ix ix_list (pv 0) pe_int (fun _ _ => rfl)) rfl) (pa_cons (pe_xv (pe_ix ix_list (pv 0) pe_int (fun _ _ => rfl)) rfl) (pa_cons (pe_xv (pe_ix ix_list (pv 0) pe_int (fun _ _ => rfl)) rfl) (pa_cons (pe_xv (pe_ix ix_list (pv 0) pe_int (fun _ _ => rfl)) rfl) (pa_cons (pe_xv (pe_ix ix_list (pv 0) pe_int (fun _ _ => rfl)) rfl) (pa_cons (pe_xv (pe_ix ix_list (pv 0) pe_int (fun _ _ => rfl)) rfl) pa_nil))))))))
  (pss_one (ps_ret (pe_op (op_cat) (pv 1) (pe_lst (pa_cons (pe_xv (pe_ix ix_list (pv 0) pe_int (fun _ _ => rfl)) rfl) (pa_cons (pe_xv (pe_ix ix_list (pv 0) pe_int (fun _ _ => rfl)) rfl) (pa_cons (pe_xv (pe_ix ix_list (pv 0) pe_int (fun _ _ => rfl)) rfl) (pa_cons (pe_xv (pe_ix ix_list (pv 0) pe_int (fun _ _ => rfl)) rfl) pa_nil))))))))), ?_⟩
    refine ⟨_, rfl, p, _, _, _, rfl, rfl, .inl (.inl hp), rfl, a1, _, d1, _, x, rfl, g1, f1, ⟨_, T.BadPart_e⟩, T.BadPart_n_part, rfl, ?_⟩
    refine ⟨_, rfl, p, _, _, _, rfl, rfl, .inl (.inl hp), rfl, a2, _, d2, _, x, rfl, g2, f2, ⟨_, T.BadText_e⟩, T.BadText_n_line, rfl, ?_⟩
    refine ⟨_, rfl, p, _, _, _, rfl, rfl, .inl (.inl hp), rfl, a3, _, d3, _, x, rfl, g3, f3, ⟨_, T.BadLevel_e⟩, T.BadLevel_n_index, rfl, ?_⟩
    refine ⟨_, rfl, p, _, _, _, rfl, rfl, .inl (.inl hp), rfl, a4, _, d4, _, x, rfl, g4, f4, ⟨_, T.BadFact_e⟩, T.BadFact_n_index, rfl, ?_⟩
    refine ⟨_, rfl, p, _, _, _, rfl, rfl, .inl (.inl hp), rfl, a5, _, d5, _, x, rfl, g5, f5, ⟨_, T.BadPlace_e⟩, T.BadPlace_n_index, rfl, ?_⟩
    refine ⟨_, rfl, p, _, _, _, rfl, rfl, .inl (.inl hp), rfl, a6, _, d6, _, x, rfl, g6, f6, ⟨_, T.BadPoint_e⟩, T.BadPoint_n_index, rfl, ?_⟩
    refine ⟨(by show 6 ≤ sizeLine; decide), fun q nq => ?_⟩
    have sq := same_upd (o := .lst [x, x, x, x, x, x]) nq
    have hq := upd_same (H := H) (a := q) (o := .lst [x, x, x, x, x, x])
    generalize upd H q (.lst [x, x, x, x, x, x]) = H1 at sq hq ⊢
    refine ⟨_, rfl, ?_⟩
    refine ⟨_, rfl, p, _, _, _, rfl, rfl, .inl (.inl (sq _ _ hp)), rfl, a7, _, d7, _, x, rfl, sq _ _ g7, sq _ _ f7, ⟨_, T.BadMoment_e⟩, T.BadMoment_n_moment, rfl, ?_⟩
    refine ⟨_, rfl, p, _, _, _, rfl, rfl, .inl (.inl (sq _ _ hp)), rfl, a8, _, d8, _, x, rfl, sq _ _ g8, sq _ _ f8, ⟨_, T.BadLine_e⟩, T.BadLine_n_line, rfl, ?_⟩
    refine ⟨_, rfl, p, _, _, _, rfl, rfl, .inl (.inl (sq _ _ hp)), rfl, a9, _, d9, _, x, rfl, sq _ _ g9, sq _ _ f9, ⟨_, T.UnknownLevel_e⟩, T.UnknownLevel_n_name, rfl, ?_⟩
    refine ⟨_, rfl, p, _, _, _, rfl, rfl, .inl (.inl (sq _ _ hp)), rfl, a0, _, d0, _, x, rfl, sq _ _ g0, sq _ _ f0, ⟨_, T.BadHeight_e⟩, T.BadHeight_n_height, rfl, ?_⟩
    refine ⟨(by show 4 ≤ sizeLine; decide), fun r nr => ?_⟩
    have sr := same_upd (o := .lst [x, x, x, x]) nr
    refine ⟨q, r, _, _, rfl, rfl, sr _ _ hq, upd_same, (by show 10 ≤ sizeLine; decide), fun f nf => ?_⟩
    exact k f _ (sq.trans (sr.trans (same_upd nf))) upd_same
/-- the classes of an error -/
def Cs (T : Tx K mg) : List Addr := [T.BadPart_a, T.BadText_a, T.BadLevel_a, T.BadFact_a, T.BadPlace_a, T.BadPoint_a, T.BadMoment_a, T.BadLine_a, T.UnknownLevel_a, T.BadHeight_a, T.BadFrame_a, T.Unfit_a, T.HasHistory_a]
theorem nd_head {a b : Addr} {l : List Addr} (h : (a :: l).Nodup) (hb : b ∈ l) : b ≠ a := fun z => (List.nodup_cons.mp h).1 (z ▸ hb)
def spClasses (T : Tx K mg) : Sp := fun vs H Q _ => ∃ a C o, vs = [.ref a] ∧ ErrAt H a C o ∧ ErrT K T.LevelError_a C ∧ ∀ q H', Same H H' → H' q = some (.lst ((Cs T).map fun D => V.bl (decide (C = D)))) → Q (.ref q) H'
theorem ok_law_classes (T : Tx K mg) : FnOk P w K mg base CX0 1 T.law_classes_a T.law_classes_d ["_law_e"] (spClasses T) := by
  refine T.law_classes_F.ok sc_law_classes (fun vs H Q E h => ?_) (fun cdv A outer s H vs Q E hr h => ?_)
  · obtain ⟨a, C, o, rfl, _⟩ := h
    rfl
  · obtain ⟨a, C, o, rfl, ha, U, k⟩ := h
    refine ⟨_, (pss_cons (ps_set (i := 1) sc_law_classes.nd rfl (Or.inl rfl) (pe_lst (pa_cons (pe_callB call_isV (by rfl) T.z_isinstance (by decide +kernel) (pa_cons (pv 0) (pa_cons (pe_glob (v := .ref T.BadPart_a) rfl T.BadPart_m rfl) pa_nil))) (pa_cons (pe_callB call_isV (by rfl) T.z_isinstance (by decide +kernel) (pa_cons (pv 0) (pa_cons (pe_glob (v := .ref T.BadText_a) rfl T.BadText_m rfl) pa_nil))) (pa_cons (pe_callB call_isV (by rfl) T.z_isinstance (by decide +kernel) (pa_cons (pv 0) (pa_cons (pe_glob (v := .ref T.BadLevel_a) rfl T.BadLevel_m rfl) pa_nil))) (pa_cons (pe_callB call_isV (by rfl) T.z_isinstance (by decide +kernel) (pa_cons (pv 0) (pa_cons (pe_glob (v := .ref T.BadFact_a) rfl T.BadFact_m rfl) pa_nil))) pa_nil))))))
  (pss_cons (ps_set (i := 1) sc_law_classes.nd rfl (Or.inl rfl) (pe_op (op_cat) (pv 1) (pe_lst (pa_cons (pe_callB call_isV (by rfl) T.z_isinstance (by decide +kernel) (pa_cons (pv 0) (pa_cons (pe_glob (v := .ref T.BadPlace_a) rfl T.BadPlace_m rfl) pa_nil))) (pa_cons (pe_callB call_isV (by rfl) T.z_isinstance (by decide +kernel) (pa_cons (pv 0) (pa_cons (pe_glob (v := .ref T.BadPoint_a) rfl T.BadPoint_m rfl) pa_nil))) (pa_cons (pe_callB call_isV (by rfl) T.z_isinstance (by decide +kernel) (pa_cons (pv 0) (pa_cons (pe_glob (v := .ref T.BadMoment_a) rfl T.BadMoment_m rfl) pa_nil))) pa_nil))))))
  (pss_cons (ps_set (i := 1) sc_law_classes.nd rfl (Or.inl rfl) (pe_op (op_cat) (pv 1) (pe_lst (pa_cons (pe_callB call_isV (by rfl) T.z_isinstance (by decide +kernel) (pa_cons (pv 0) (pa_cons (pe_glob (v := .ref T.BadLine_a) rfl T.BadLine_m rfl) pa_nil))) (pa_cons (pe_callB call_isV (by rfl) T.z_isinstance (by decide +kernel) (pa_cons (pv 0) (pa_cons (pe_glob (v := .ref T.UnknownLevel_a) rfl T.UnknownLevel_m rfl) pa_nil))) (pa_cons (pe_callB call_isV (by rfl) T.z_isinstance (by decide +kernel) (pa_cons (pv 0) (pa_cons (pe_glob (v := .ref T.BadHeight_a) rfl T.BadHeight_m rfl) pa_nil))) pa_nil))))))
  (pss_one (ps_ret (pe_op (op_cat) (pv 1) (pe_lst (pa_cons (pe_callB call_isV (by rfl) T.z_isinstance (by decide +kernel) (pa_cons (pv 0) (pa_cons (pe_glob (v := .ref T.BadFrame_a) rfl T.BadFrame_m rfl) pa_nil))) (pa_cons (pe_callB call_isV (by rfl) T.z_isinstance (by decide +kernel) (pa_cons (pv 0) (pa_cons (pe_glob (v := .ref T.Unfit_a) rfl T.Unfit_m rfl) pa_nil))) (pa_cons (pe_callB call_isV (by rfl) T.z_isinstance (by decide +kernel) (pa_cons (pv 0) (pa_cons (pe_glob (v := .ref T.HasHistory_a) rfl T.HasHistory_m rfl) pa_nil))) pa_nil)))))))))), ?_⟩
    refine ⟨_, rfl, a, C, _, o, _, _, _, rfl, ha, U, T.E_g, .own _, U.kitD T.BadPart_e (nd_head T.E_nd (by simp)), ?_⟩
    refine ⟨_, rfl, a, C, _, o, _, _, _, rfl, ha, U, T.E_g, .own _, U.kitD T.BadText_e (nd_head T.E_nd (by simp)), ?_⟩
    refine ⟨_, rfl, a, C, _, o, _, _, _, rfl, ha, U, T.E_g, .own _, U.kitD T.BadLevel_e (nd_head T.E_nd (by simp)), ?_⟩
    refine ⟨_, rfl, a, C, _, o, _, _, _, rfl, ha, U, T.E_g, .own _, U.kitD T.BadFact_e (nd_head T.E_nd (by simp)), ?_⟩
    refine ⟨(by show 4 ≤ sizeLine; decide), fun q0 nq0 => ?_⟩
    have s1 := same_upd (o := .lst [.bl (decide (C = T.BadPart_a)), .bl (decide (C = T.BadText_a)), .bl (decide (C = T.BadLevel_a)), .bl (decide (C = T.BadFact_a))]) nq0
    have l1 := upd_same (H := H) (a := q0) (o := .lst [.bl (decide (C = T.BadPart_a)), .bl (decide (C = T.BadText_a)), .bl (decide (C = T.BadLevel_a)), .bl (decide (C = T.BadFact_a))])
    refine ⟨_, rfl, ?_⟩
    generalize upd H q0 (.lst [.bl (decide (C = T.BadPart_a)), .bl (decide (C = T.BadText_a)), .bl (decide (C = T.BadLevel_a)), .bl (decide (C = T.BadFact_a))]) = H1 at s1 l1 ⊢
    refine ⟨_, rfl, a, C, _, o, _, _, _, rfl, ha.same s1, U, T.E_g, .own _, U.kitD T.BadPlace_e (nd_head T.E_nd (by simp)), ?_⟩
    refine ⟨_, rfl, a, C, _, o, _, _, _, rfl, ha.same s1, U, T.E_g, .own _, U.kitD T.BadPoint_e (nd_head T.E_nd (by simp)), ?_⟩
    refine ⟨_, rfl, a, C, _, o, _, _, _, rfl, ha.same s1, U, T.E_g, .own _, U.kitD T.BadMoment_e (nd_head T.E_nd (by simp)), ?_⟩
    refine ⟨(by show 3 ≤ sizeLine; decide), fun q1 nq1 => ?_⟩
    have sx1 := same_upd (o := .lst [.bl (decide (C = T.BadPlace_a)), .bl (decide (C = T.BadPoint_a)), .bl (decide (C = T.BadMoment_a))]) nq1
    have lx1 := upd_same (H := H1) (a := q1) (o := .lst [.bl (decide (C = T.BadPlace_a)), .bl (decide (C = T.BadPoint_a)), .bl (decide (C = T.BadMoment_a))])
    generalize upd H1 q1 (.lst [.bl (decide (C = T.BadPlace_a)), .bl (decide (C = T.BadPoint_a)), .bl (decide (C = T.BadMoment_a))]) = Y1 at sx1 lx1 ⊢
    refine ⟨q0, q1, _, _, rfl, rfl, sx1 _ _ l1, lx1, (by show 7 ≤ sizeLine; decide), fun r1 nr1 => ?_⟩
    have sz1 := same_upd (o := .lst ([.bl (decide (C = T.BadPart_a)), .bl (decide (C = T.BadText_a)), .bl (decide (C = T.BadLevel_a)), .bl (decide (C = T.BadFact_a))] ++ [.bl (decide (C = T.BadPlace_a)), .bl (decide (C = T.BadPoint_a)), .bl (decide (C = T.BadMoment_a))])) nr1
    have lz1 := upd_same (H := Y1) (a := r1) (o := .lst ([.bl (decide (C = T.BadPart_a)), .bl (decide (C = T.BadText_a)), .bl (decide (C = T.BadLevel_a)), .bl (decide (C = T.BadFact_a))] ++ [.bl (decide (C = T.BadPlace_a)), .bl (decide (C = T.BadPoint_a)), .bl (decide (C = T.BadMoment_a))]))
    refine ⟨_, rfl, ?_⟩
    generalize upd Y1 r1 (.lst ([.bl (decide (C = T.BadPart_a)), .bl (decide (C = T.BadText_a)), .bl (decide (C = T.BadLevel_a)), .bl (decide (C = T.BadFact_a))] ++ [.bl (decide (C = T.BadPlace_a)), .bl (decide (C = T.BadPoint_a)), .bl (decide (C = T.BadMoment_a))])) = Z1 at sz1 lz1 ⊢
    have t1 := s1.trans (sx1.trans sz1)
    refine ⟨_, rfl, a, C, _, o, _, _, _, rfl, ha.same t1, U, T.E_g, .own _, U.kitD T.BadLine_e (nd_head T.E_nd (by simp)), ?_⟩
    refine ⟨_, rfl, a, C, _, o, _, _, _, rfl, ha.same t1, U, T.E_g, .own _, U.kitD T.UnknownLevel_e (nd_head T.E_nd (by simp)), ?_⟩
    refine ⟨_, rfl, a, C, _, o, _, _, _, rfl, ha.same t1, U, T.E_g, .own _, U.kitD T.BadHeight_e (nd_head T.E_nd (by simp)), ?_⟩
    refine ⟨(by show 3 ≤ sizeLine; decide), fun q2 nq2 => ?_⟩
    have sx2 := same_upd (o := .lst [.bl (decide (C = T.BadLine_a)), .bl (decide (C = T.UnknownLevel_a)), .bl (decide (C = T.BadHeight_a))]) nq2
    have lx2 := upd_same (H := Z1) (a := q2) (o := .lst [.bl (decide (C = T.BadLine_a)), .bl (decide (C = T.UnknownLevel_a)), .bl (decide (C = T.BadHeight_a))])
    generalize upd Z1 q2 (.lst [.bl (decide (C = T.BadLine_a)), .bl (decide (C = T.UnknownLevel_a)), .bl (decide (C = T.BadHeight_a))]) = Y2 at sx2 lx2 ⊢
    refine ⟨r1, q2, _, _, rfl, rfl, sx2 _ _ lz1, lx2, (by show 10 ≤ sizeLine; decide), fun r2 nr2 => ?_⟩
    have sz2 := same_upd (o := .lst (([.bl (decide (C = T.BadPart_a)), .bl (decide (C = T.BadText_a)), .bl (decide (C = T.BadLevel_a)), .bl (decide (C = T.BadFact_a))] ++ [.bl (decide (C = T.BadPlace_a)), .bl (decide (C = T.BadPoint_a)), .bl (decide (C = T.BadMoment_a))]) ++ [.bl (decide (C = T.BadLine_a)), .bl (decide (C = T.UnknownLevel_a)), .bl (decide (C = T.BadHeight_a))])) nr2
    have lz2 := upd_same (H := Y2) (a := r2) (o := .lst (([.bl (decide (C = T.BadPart_a)), .bl (decide (C = T.BadText_a)), .bl (decide (C = T.BadLevel_a)), .bl (decide (C = T.BadFact_a))] ++ [.bl (decide (C = T.BadPlace_a)), .bl (decide (C = T.BadPoint_a)), .bl (decide (C = T.BadMoment_a))]) ++ [.bl (decide (C = T.BadLine_a)), .bl (decide (C = T.UnknownLevel_a)), .bl (decide (C = T.BadHeight_a))]))
    refine ⟨_, rfl, ?_⟩
    generalize upd Y2 r2 (.lst (([.bl (decide (C = T.BadPart_a)), .bl (decide (C = T.BadText_a)), .bl (decide (C = T.BadLevel_a)), .bl (decide (C = T.BadFact_a))] ++ [.bl (decide (C = T.BadPlace_a)), .bl (decide (C = T.BadPoint_a)), .bl (decide (C = T.BadMoment_a))]) ++ [.bl (decide (C = T.BadLine_a)), .bl (decide (C = T.UnknownLevel_a)), .bl (decide (C = T.BadHeight_a))])) = Z2 at sz2 lz2 ⊢
    have t2 := t1.trans (sx2.trans sz2)
    refine ⟨_, rfl, a, C, _, o, _, _, _, rfl, ha.same t2, U, T.E_g, .own _, U.kitD T.BadFrame_e (nd_head T.E_nd (by simp)), ?_⟩
    refine ⟨_, rfl, a, C, _, o, _, _, _, rfl, ha.same t2, U, T.E_g, .own _, U.kitD T.Unfit_e (nd_head T.E_nd (by simp)), ?_⟩
    refine ⟨_, rfl, a, C, _, o, _, _, _, rfl, ha.same t2, U, T.E_g, .own _, U.kitD T.HasHistory_e (nd_head T.E_nd (by simp)), ?_⟩
    refine ⟨(by show 3 ≤ sizeLine; decide), fun q3 nq3 => ?_⟩
    have sx3 := same_upd (o := .lst [.bl (decide (C = T.BadFrame_a)), .bl (decide (C = T.Unfit_a)), .bl (decide (C = T.HasHistory_a))]) nq3
    have lx3 := upd_same (H := Z2) (a := q3) (o := .lst [.bl (decide (C = T.BadFrame_a)), .bl (decide (C = T.Unfit_a)), .bl (decide (C = T.HasHistory_a))])
    generalize upd Z2 q3 (.lst [.bl (decide (C = T.BadFrame_a)), .bl (decide (C = T.Unfit_a)), .bl (decide (C = T.HasHistory_a))]) = Y3 at sx3 lx3 ⊢
    refine ⟨r2, q3, _, _, rfl, rfl, sx3 _ _ lz2, lx3, (by show 13 ≤ sizeLine; decide), fun r3 nr3 => ?_⟩
    exact k _ _ (t2.trans (sx3.trans (same_upd nr3))) upd_same

end


/-! ### _law_same of a thing and itself, any depth -/
inductive Slf (H : Hp) : Nat → V → Prop
  | non {n : Nat} : Slf H n .non
  | bl {n : Nat} (b : Bool) : Slf H n (.bl b)
  | int {n : Nat} (i : Int) : Slf H n (.int i)
  | str {n : Nat} (s : Str) : Slf H n (.str s)
  | dk {n : Nat} {a : Addr} {kvs : List (Key × V)} (h : H a = some (.dK kvs)) (nd : (kvs.map (·.1)).Nodup) (fl : ∀ p ∈ kvs, flatB p.2 = true) : Slf H n (.ref a)
  | lst {n : Nat} {a : Addr} {xs : List V} (h : H a = some (.lst xs)) (z : xs.length ≤ 1000) (d : ∀ v ∈ xs, Slf H n v) : Slf H (n + 1) (.ref a)
  | tup {n : Nat} {a : Addr} {xs : List V} (h : H a = some (.tup xs)) (z : xs.length ≤ 1000) (d : ∀ v ∈ xs, Slf H n v) : Slf H (n + 1) (.ref a)
theorem Slf.same {H H' : Hp} (e : Same H H') : ∀ {n : Nat} {v : V}, Slf H n v → Slf H' n v
  | _, _, .non => .non
  | _, _, .bl b => .bl b
  | _, _, .int i => .int i
  | _, _, .str s => .str s
  | _, _, .dk h nd fl => .dk (e _ _ h) nd fl
  | _, _, .lst h z d => .lst (e _ _ h) z fun v hv => (d v hv).same e
  | _, _, .tup h z d => .tup (e _ _ h) z fun v hv => (d v hv).same e
inductive Kd where
  | non | bl | int | str | dk | lst | tup
def Kd.ty : Kd → Value
  | .non => .type "NoneType"
  | .bl => .type "bool"
  | .int => .type "int"
  | .str => .type "str"
  | .dk => .type "dict"
  | .lst => .type "list"
  | .tup => .type "tuple"
def Kd.isL : Kd → Bool
  | .lst => true
  | _ => false
def Kd.isT : Kd → Bool
  | .tup => true
  | _ => false
def Kd.isI : Kd → Bool
  | .int => true
  | .bl => true
  | _ => false
def Kd.isB : Kd → Bool
  | .bl => true
  | _ => false
section
variable {K : PySem.W.Frag} (d : Kd)
theorem kdL : PySem.W.kitOne K d.ty (.type "list") = some d.isL := by
  cases d <;> first | exact kit_ty (r := true) (by decide +kernel) | exact kit_ty (r := false) (by decide +kernel)
theorem kdT : PySem.W.kitOne K d.ty (.type "tuple") = some d.isT := by
  cases d <;> first | exact kit_ty (r := true) (by decide +kernel) | exact kit_ty (r := false) (by decide +kernel)
theorem kdI : PySem.W.kitOne K d.ty (.type "int") = some d.isI := by
  cases d <;> first | exact kit_ty (r := true) (by decide +kernel) | exact kit_ty (r := false) (by decide +kernel)
theorem kdB : PySem.W.kitOne K d.ty (.type "bool") = some d.isB := by
  cases d <;> first | exact kit_ty (r := true) (by decide +kernel) | exact kit_ty (r := false) (by decide +kernel)
theorem kdLT : PySem.W.kitAny K d.ty [.type "list", .type "tuple"] = some (d.isL || d.isT) := by
  refine kitAny_cons (kdL d) (fun e => ?_) (fun e => by rw [e]; rfl)
  refine kitAny_cons (kdT d) (fun e' => ?_) (fun e' => by rw [e', Bool.or_true])
  rw [e, e']
  exact kitAny_nil
theorem kdBILT : PySem.W.kitAny K d.ty [.type "bool", .type "int", .type "list", .type "tuple"] = some (d.isB || d.isI || d.isL || d.isT) := by
  refine kitAny_cons (kdB d) (fun e => ?_) (fun e => by rw [e]; rfl)
  refine kitAny_cons (kdI d) (fun e2 => ?_) (fun e2 => by rw [e2, Bool.or_true]; rfl)
  rw [kdLT d, e, e2]
  rfl
end
def rDict : R2 := fun x y H Q => ∃ a b kvs, x = .ref a ∧ y = .ref b ∧ H a = some (.dK kvs) ∧ H b = some (.dK kvs) ∧ (kvs.map (·.1)).Nodup ∧ (∀ p ∈ kvs, flatB p.2 = true) ∧ Q (.bl true) H
/-- a thing of a kind: what is asked of it -/
structure KdAt (K : PySem.W.Frag) (H : Hp) (n : Nat) (v : V) (d : Kd) : Prop where
  ty : ∀ H', Same H H' → TyX K H' v d.ty
  seq : d.isL = true ∨ d.isT = true → ∃ a xs m, v = .ref a ∧ n = m + 1 ∧ xs.length ≤ 1000 ∧ (∀ v ∈ xs, Slf H m v) ∧ (H a = some (.lst xs) ∨ H a = some (.tup xs))
  eq : d.isL = false → d.isT = false → ∀ H' Q, Same H H' → Q (.bl true) H' → rEq v v H' Q ∨ rDict v v H' Q
theorem Slf.kd {K : PySem.W.Frag} {H : Hp} {n : Nat} {v : V} (h : Slf H n v) : ∃ d, KdAt K H n v d := by
  have sc : ∀ (u : V), scal u u = true → ∀ (H' : Hp) (Q : VK), Same H H' → Q (.bl true) H' → rEq u u H' Q ∨ rDict u u H' Q := fun u e H' Q _ q => .inl ⟨e, by rw [decide_eq_true rfl]; exact q⟩
  cases h with
  | non => exact ⟨.non, fun _ _ => .base .non, fun z => (by rcases z with z | z <;> cases z), fun _ _ => sc .non rfl⟩
  | bl b => exact ⟨.bl, fun _ _ => .base (.bl b), fun z => (by rcases z with z | z <;> cases z), fun _ _ => sc (.bl b) rfl⟩
  | int i => exact ⟨.int, fun _ _ => .base (.int i), fun z => (by rcases z with z | z <;> cases z), fun _ _ => sc (.int i) rfl⟩
  | str s => exact ⟨.str, fun _ _ => .base (.str s), fun z => (by rcases z with z | z <;> cases z), fun _ _ => sc (.str s) rfl⟩
  | dk h nd fl => exact ⟨.dk, fun _ s => .base (.dK (s _ _ h)), fun z => (by rcases z with z | z <;> cases z), fun _ _ H' Q s q => .inr ⟨_, _, _, rfl, rfl, s _ _ h, s _ _ h, nd, fl, q⟩⟩
  | lst h z d => exact ⟨.lst, fun _ s => .base (.lst (s _ _ h)), fun _ => ⟨_, _, _, rfl, rfl, z, d, .inl h⟩, fun e => (by cases e)⟩
  | tup h z d => exact ⟨.tup, fun _ s => .base (.tup (s _ _ h)), fun _ => ⟨_, _, _, rfl, rfl, z, d, .inr h⟩, fun _ e => (by cases e)⟩
def spSlf (n : Nat) : Sp := fun vs H Q _ => ∃ v, vs = [v, v] ∧ Slf H n v ∧ ∀ H', Same H H' → Q (.bl true) H'
def spSlfR : Nat → Sp
  | 0 => fun _ _ _ _ => False
  | n + 1 => spSlf n
theorem fn_none {P : Program} {w : World} {K : PySem.W.Frag} {mg : Str → Option Value} {base : Heap} {CX : CXT} {k : Nat} {f : Addr} {fd : FuncData} {ps : List Str} : FnOk P w K mg base CX k f fd ps (fun _ _ _ _ => False) :=
  ⟨fun _ _ _ _ h => h.elim, fun _ _ _ _ _ _ _ _ _ _ _ _ _ h => h.elim⟩
theorem all_yes : ∀ n : Nat, (List.replicate n true).all id = true
  | 0 => rfl
  | n + 1 => by rw [List.replicate_succ]; exact all_yes n
theorem yes_snoc (n : Nat) : (List.replicate n true).map V.bl ++ [V.bl true] = (List.replicate (n + 1) true).map V.bl := by
  rw [List.replicate_succ', List.map_append]
  rfl
section
variable {P : Program} {w : World} {K : PySem.W.Frag} {mg : Str → Option Value} {base : Heap}
theorem ok_law_same (T : Tx K mg) : ∀ n : Nat, FnOk P w K mg base CX0 (1 + n) T.law_same_a T.law_same_d ["_law_found", "_law_due"] (spSlf n) := by
  intro n
  have REC : FnOk P w K mg base CX0 (0 + n) T.law_same_a T.law_same_d ["_law_found", "_law_due"] (spSlfR n) := by
    cases n with
    | zero => exact fn_none
    | succ n => exact (ok_law_same T n).mono (by omega)
  refine (T.law_same_F.ok (k := 0 + n) sc_law_same (fun vs H Q E h => ?_) (fun cdv A outer s H vs Q E hr h => ?_)).mono (by omega)
  · obtain ⟨v, rfl, _⟩ := h
    rfl
  · obtain ⟨v, rfl, hv, k⟩ := h
    have hrR := hr
    replace hr := hr.mono (Nat.le_add_right _ _)
    refine ⟨_, (pss_cons (ps_if (pt_val (pe_callB call_isiT (by rfl) T.z_isinstance (by decide +kernel) (pa_cons (pv 1) (pa_cons (pe_tup (pa_cons (pe_bltn (v := .ty "list") (by rfl) T.z_list (by decide +kernel) rfl) (pa_cons (pe_bltn (v := .ty "tuple") (by rfl) T.z_tuple (by decide +kernel) rfl) pa_nil))) pa_nil))))
  (pss_cons (ps_if (PW.pt (pw_or (pt_cmpR op_ne (pe_callB call_isi (by rfl) T.z_isinstance (by decide +kernel) (pa_cons (pv 0) (pa_cons (pe_bltn (v := .ty "list") (by rfl) T.z_list (by decide +kernel) rfl) pa_nil))) (pe_callB call_isi (by rfl) T.z_isinstance (by decide +kernel) (pa_cons (pv 1) (pa_cons (pe_bltn (v := .ty "list") (by rfl) T.z_list (by decide +kernel) rfl) pa_nil))) (nomark _)) (pw_or1 (pt_cmpR op_ne (pe_callB call_isi (by rfl) T.z_isinstance (by decide +kernel) (pa_cons (pv 0) (pa_cons (pe_bltn (v := .ty "tuple") (by rfl) T.z_tuple (by decide +kernel) rfl) pa_nil))) (pe_callB call_isi (by rfl) T.z_isinstance (by decide +kernel) (pa_cons (pv 1) (pa_cons (pe_bltn (v := .ty "tuple") (by rfl) T.z_tuple (by decide +kernel) rfl) pa_nil))) (nomark _)))))
  (pss_one (ps_ret pe_bl))
  pss_nil)
  (pss_one (ps_ret (pe_and (pe_cmpR op_eq (pe_callB (call_len_seq) (by rfl) T.z_len (by decide +kernel) (pa_cons (pv 0) pa_nil)) (pe_callB (call_len_seq) (by rfl) T.z_len (by decide +kernel) (pa_cons (pv 1) pa_nil)) (nomark _)) (pe_one (pe_callB (cr_all rfl) (by rfl) T.z_all (by decide +kernel) (pa_cons (pe_lc (g := gTup K 2 (gCons (gName 2) (gCons (gName 3) gNil))) (tt := tYes) (own := [("_law_a", 2), ("_law_b", 3)]) rfl sc_law_same.nd (RZ.pi_zipA (by rfl) T.z_zip (pa_cons (pv 0) (pa_cons (pv 1) pa_nil))) (blkOk_by (own := [("_law_a", 2), ("_law_b", 3)]) (N := ["_law_found", "_law_due", "_law_a", "_law_b"]) (sc := defScope s_law_same) (by decide +kernel))
   (fun _ _ _ _ _ => pg_tup (by rfl) (pgs_cons (pg_name (i := 2) sc_law_same.nd rfl (Or.inl rfl)) (pgs_cons (pg_name (i := 3) sc_law_same.nd rfl (Or.inl rfl)) pgs_nil))) (fun _ _ _ _ _ => pts_nil) (fun _ _ _ _ _ => (pe_call REC hrR rfl T.law_same_m T.law_same_F.kp T.law_same_b .nil pass0 (pa_cons (pv 2) (pa_cons (pv 3) pa_nil))))) pa_nil)))))))
  pss_nil)
  (pss_cons (ps_if (pt_val (pe_callB call_isi (by rfl) T.z_isinstance (by decide +kernel) (pa_cons (pv 1) (pa_cons (pe_bltn (v := .ty "int") (by rfl) T.z_int (by decide +kernel) rfl) pa_nil))))
  (pss_one (ps_ret (pe_and (pe_callB call_isi (by rfl) T.z_isinstance (by decide +kernel) (pa_cons (pv 0) (pa_cons (pe_bltn (v := .ty "int") (by rfl) T.z_int (by decide +kernel) rfl) pa_nil))) (pe_and (pe_cmpR op_eq (pe_callB call_isi (by rfl) T.z_isinstance (by decide +kernel) (pa_cons (pv 0) (pa_cons (pe_bltn (v := .ty "bool") (by rfl) T.z_bool (by decide +kernel) rfl) pa_nil))) (pe_callB call_isi (by rfl) T.z_isinstance (by decide +kernel) (pa_cons (pv 1) (pa_cons (pe_bltn (v := .ty "bool") (by rfl) T.z_bool (by decide +kernel) rfl) pa_nil))) (nomark _)) (pe_one (pe_cmpR (op_eq.or (op_eq_dict (Nat.lt_of_le_of_lt (Nat.le_add_right _ _) hr.units))) (pv 0) (pv 1) (nomark _)))))))
  pss_nil)
  (pss_one (ps_ret (pe_and (pe_cmpR op_isBl (pe_callB call_isiT (by rfl) T.z_isinstance (by decide +kernel) (pa_cons (pv 0) (pa_cons (pe_tup (pa_cons (pe_bltn (v := .ty "bool") (by rfl) T.z_bool (by decide +kernel) rfl) (pa_cons (pe_bltn (v := .ty "int") (by rfl) T.z_int (by decide +kernel) rfl) (pa_cons (pe_bltn (v := .ty "list") (by rfl) T.z_list (by decide +kernel) rfl) (pa_cons (pe_bltn (v := .ty "tuple") (by rfl) T.z_tuple (by decide +kernel) rfl) pa_nil))))) pa_nil))) pe_bl (nomark _)) (pe_one (pe_cmpR (op_eq.or (op_eq_dict (Nat.lt_of_le_of_lt (Nat.le_add_right _ _) hr.units))) (pv 0) (pv 1) (nomark _)))))))), ?_⟩
    refine ⟨_, rfl, (by show 2 ≤ sizeLine; decide), fun t nt => ?_⟩
    have s1 := same_upd (o := .tup [.ty "list", .ty "tuple"]) nt
    obtain ⟨d, D⟩ := hv.kd (K := K)
    refine ⟨_, _, _, _, _, _, rfl, upd_same, .cons (.ty "list") (.cons (.ty "tuple") .nil), D.ty _ s1, kdLT d, _, rfl, ?_⟩
    generalize upd H t (HO.tup [V.ty "list", V.ty "tuple"]) = H1 at s1 ⊢
    by_cases hs : d.isL = true ∨ d.isT = true
    · have hb : (d.isL || d.isT) = true := by rcases hs with e | e <;> simp [e]
      rw [hb]
      refine iteT ?_
      refine ⟨_, rfl, _, _, _, _, _, rfl, .ty "list", D.ty _ s1, kdL d, _, rfl, _, _, _, _, _, rfl, .ty "list", D.ty _ s1, kdL d, rfl, _, rfl, ?_⟩
      rw [decide_eq_true rfl]
      refine iteF ?_
      refine ⟨_, rfl, _, _, _, _, _, rfl, .ty "tuple", D.ty _ s1, kdT d, _, rfl, _, _, _, _, _, rfl, .ty "tuple", D.ty _ s1, kdT d, rfl, _, rfl, ?_⟩
      rw [decide_eq_true rfl]
      refine iteF ?_
      obtain ⟨a, xs, m, rfl, rfl, zx, dv, hk⟩ := D.seq hs
      rcases hk with ha | ha
      · have ha1 := s1 _ _ ha
        refine ⟨_, rfl, a, xs, rfl, .inl (.inl (.inl ha1)), _, rfl, a, xs, rfl, .inl (.inl (.inl ha1)), rfl, _, rfl, ?_⟩
        rw [decide_eq_true rfl]
        refine iteT ?_
        refine ⟨_, rfl, _, rfl, a, a, xs, xs, rfl, .inl ⟨.inl (.inl ha1), .inl (.inl ha1), fun D nD => lc_it (walk_zip (K := K) (a := a) (b := a) (xs := xs) (ys := xs) rfl) (fun i H2 => Same H H2 ∧ Same H1 H2 ∧ H2 D = some (.lst ((List.replicate i true).map V.bl))) ⟨s1.trans (same_upd nD), same_upd nD, upd_same⟩ (fun i H2 _ e => ⟨.inl (.inl (e.2.1 _ _ ha1)), .inl (.inl (e.2.1 _ _ ha1))⟩) ?_ ?_⟩⟩
        · rintro i x H2 H3 hi ⟨e1, e2, eD⟩ ⟨Tp, x1, y1, rfl, nT, rfl, hx1, hy1⟩
          refine ⟨Tp, _, rfl, .inl (.inl upd_same), rfl, _, _, rfl, _, _, rfl, rfl, rfl, yes_of ?_⟩
          have hxy : x1 = y1 := Option.some.inj (hx1.symm.trans hy1)
          subst hxy
          have e3 := e1.trans (same_upd (o := .tup [x1, x1]) nT)
          refine ⟨_, rfl, _, rfl, ?_⟩
          refine ⟨_, rfl, (dv x1 (List.mem_of_getElem? hx1)).same e3, fun H4 e4 => ⟨_, e4 D _ (by rw [upd_ne (ne_of_none eD nT)]; exact eD), ?_, ?_⟩⟩
          · rw [List.length_map, List.length_replicate]
            exact small1000 (by omega)
          · have nDH : H D = none := s1.free nD
            exact ⟨fun c o e => by rw [upd_ne (ne_of_none e nDH)]; exact e4 _ _ (e3 _ _ e), fun c o e => by rw [upd_ne (ne_of_none e nD)]; exact e4 _ _ (same_upd nT _ _ (e2 _ _ e)), by rw [upd_same, yes_snoc]⟩
        · rintro H2 ⟨e1, e2, eD⟩
          refine ⟨D, _, rfl, .inl (.inl eD), ?_⟩
          rw [all_yes]
          exact k _ e1
      · have ha1 := s1 _ _ ha
        refine ⟨_, rfl, a, xs, rfl, .inr (.inl (.inl ha1)), _, rfl, a, xs, rfl, .inr (.inl (.inl ha1)), rfl, _, rfl, ?_⟩
        rw [decide_eq_true rfl]
        refine iteT ?_
        refine ⟨_, rfl, _, rfl, a, a, xs, xs, rfl, .inr ⟨.inl (.inl ha1), .inl (.inl ha1), fun D nD => lc_it (walk_zipT (K := K) (a := a) (b := a) (xs := xs) (ys := xs) rfl) (fun i H2 => Same H H2 ∧ Same H1 H2 ∧ H2 D = some (.lst ((List.replicate i true).map V.bl))) ⟨s1.trans (same_upd nD), same_upd nD, upd_same⟩ (fun i H2 _ e => ⟨.inl (.inl (e.2.1 _ _ ha1)), .inl (.inl (e.2.1 _ _ ha1))⟩) ?_ ?_⟩⟩
        · rintro i x H2 H3 hi ⟨e1, e2, eD⟩ ⟨Tp, x1, y1, rfl, nT, rfl, hx1, hy1⟩
          refine ⟨Tp, _, rfl, .inl (.inl upd_same), rfl, _, _, rfl, _, _, rfl, rfl, rfl, yes_of ?_⟩
          have hxy : x1 = y1 := Option.some.inj (hx1.symm.trans hy1)
          subst hxy
          have e3 := e1.trans (same_upd (o := .tup [x1, x1]) nT)
          refine ⟨_, rfl, _, rfl, ?_⟩
          refine ⟨_, rfl, (dv x1 (List.mem_of_getElem? hx1)).same e3, fun H4 e4 => ⟨_, e4 D _ (by rw [upd_ne (ne_of_none eD nT)]; exact eD), ?_, ?_⟩⟩
          · rw [List.length_map, List.length_replicate]
            exact small1000 (by omega)
          · have nDH : H D = none := s1.free nD
            exact ⟨fun c o e => by rw [upd_ne (ne_of_none e nDH)]; exact e4 _ _ (e3 _ _ e), fun c o e => by rw [upd_ne (ne_of_none e nD)]; exact e4 _ _ (same_upd nT _ _ (e2 _ _ e)), by rw [upd_same, yes_snoc]⟩
        · rintro H2 ⟨e1, e2, eD⟩
          refine ⟨D, _, rfl, .inl (.inl eD), ?_⟩
          rw [all_yes]
          exact k _ e1
    · have e1 : d.isL = false := by
        cases e : d.isL with
        | false => rfl
        | true => exact absurd (.inl e) hs
      have e2 : d.isT = false := by
        cases e : d.isT with
        | false => rfl
        | true => exact absurd (.inr e) hs
      rw [e1, e2]
      refine iteF ?_
      refine ⟨_, rfl, _, _, _, _, _, rfl, .ty "int", D.ty _ s1, kdI d, _, rfl, ?_⟩
      cases hi : d.isI with
      | true =>
        refine iteT ?_
        refine ⟨_, rfl, _, _, _, _, _, rfl, .ty "int", D.ty _ s1, kdI d, _, rfl, ?_⟩
        rw [hi]
        refine iteT ?_
        refine ⟨_, rfl, _, _, _, _, _, rfl, .ty "bool", D.ty _ s1, kdB d, _, rfl, _, _, _, _, _, rfl, .ty "bool", D.ty _ s1, kdB d, rfl, _, rfl, ?_⟩
        rw [decide_eq_true rfl]
        refine iteT ?_
        exact ⟨_, rfl, _, rfl, D.eq e1 e2 _ _ s1 (k _ s1)⟩
      | false =>
        refine iteF ?_
        refine ⟨_, rfl, (by show 4 ≤ sizeLine; decide), fun t' nt' => ?_⟩
        have s2 := same_upd (o := .tup [.ty "bool", .ty "int", .ty "list", .ty "tuple"]) nt'
        refine ⟨_, _, _, _, _, _, rfl, upd_same, .cons (.ty "bool") (.cons (.ty "int") (.cons (.ty "list") (.cons (.ty "tuple") .nil))), D.ty _ (s1.trans s2), kdBILT d, ?_⟩
        have hb : d.isB = false := by cases d <;> first | rfl | cases hi
        rw [e1, e2, hi, hb]
        refine ⟨_, _, rfl, rfl, _, rfl, ?_⟩
        rw [decide_eq_true (show (false || false || false || false) = false from rfl)]
        refine iteT ?_
        exact ⟨_, rfl, _, rfl, D.eq e1 e2 _ _ (s1.trans s2) (k _ (s1.trans s2))⟩
end



section
variable {P : Program} {w : World} {K : PySem.W.Frag} {mg : Str → Option Value} {base : Heap}
def spLaw (K : PySem.W.Frag) : Sp := fun vs H Q _ => ∃ (a : Addr) (ns : List Int), vs = [.ref a] ∧ SqL K H a (ns.map V.int) ∧ ns.length ≤ 63 ∧ ∀ H', Q (.bl true) H'
theorem exo_lst {e C : Addr} {d : Option Addr} {xs : List V} : exo e C d ≠ .lst xs := fun z => by
  have z' : HO.ext _ = HO.lst xs := z
  cases z'
theorem exd_lst {e : Addr} {fs : List (Str × V)} {xs : List V} : exd e fs ≠ .lst xs := fun z => by
  have z' : HO.ext _ = HO.lst xs := z
  cases z'
/-- a list is written: the errors stay -/
theorem ErrAt.put {H : Hp} {a C l : Addr} {o : Option (List (Str × V))} {xs : List V} {u : HO} (h : ErrAt H a C o) (hl : H l = some (.lst xs)) : ErrAt (upd H l u) a C o := by
  cases o with
  | none => exact (upd_ne (ne_of h hl exo_lst)).trans h
  | some fs =>
    obtain ⟨dd, h1, h2⟩ := h
    exact ⟨dd, (upd_ne (ne_of h1 hl exo_lst)).trans h1, (upd_ne (ne_of h2 hl exd_lst)).trans h2⟩
theorem Made.put {T : Tx K mg} {H : Hp} {x : V} {es xs : List V} {l : Addr} {u : HO} (h : Made T H x es) (hl : H l = some (.lst xs)) : Made T (upd H l u) x es := by
  obtain ⟨a1, a2, a3, a4, a5, a6, a7, a8, a9, a0, e, h1, h2, h3, h4, h5, h6, h7, h8, h9, h0⟩ := h
  exact ⟨a1, a2, a3, a4, a5, a6, a7, a8, a9, a0, e, h1.put hl, h2.put hl, h3.put hl, h4.put hl, h5.put hl, h6.put hl, h7.put hl, h8.put hl, h9.put hl, h0.put hl⟩
theorem Made.len {T : Tx K mg} {H : Hp} {x : V} {es : List V} (h : Made T H x es) : es.length = 10 := by
  obtain ⟨a1, a2, a3, a4, a5, a6, a7, a8, a9, a0, rfl, _⟩ := h
  rfl
theorem nd_idx {l : List Addr} (h : l.Nodup) {i j : Nat} (hi : i < l.length) (hj : j < l.length) (e : l[i] = l[j]) : i = j := by
  have p := List.pairwise_iff_getElem.mp h
  rcases Nat.lt_trichotomy i j with z | z | z
  · exact absurd e (p i j hi hj z)
  · exact z
  · exact absurd e.symm (p j i hj hi z)
theorem cls_row {l : List Addr} (h : l.Nodup) {j : Nat} {C : Addr} (hC : l[j]? = some C) : (List.range l.length).map (fun m : Nat => V.bl (decide (V.int (0 + (m : Int)) = V.int (j : Int)))) = l.map fun D => V.bl (decide (C = D)) := by
  obtain ⟨hj, eC⟩ := List.getElem?_eq_some_iff.mp hC
  refine List.ext_getElem (by simp) fun m h1 h2 => ?_
  have hm : m < l.length := by simpa using h2
  rw [List.getElem_map, List.getElem_map, List.getElem_range]
  refine congrArg V.bl (decide_eq_decide.mpr ⟨fun z => ?_, fun z => ?_⟩)
  · have q : (0 : Int) + (m : Int) = (j : Int) := V.int.inj z
    have q : m = j := by omega
    subst q
    exact eC.symm
  · have q : m = j := nd_idx h hm hj (by rw [eC]; exact z.symm)
    subst q
    rw [Int.zero_add]
theorem no_row {l : List Addr} {L : Addr} (h : (L :: l).Nodup) : (l.map fun D => V.bl (decide (L = D))) = List.replicate l.length (V.bl false) := by
  refine List.ext_getElem (by simp) fun m h1 h2 => ?_
  have hm : m < l.length := by simpa using h1
  rw [List.getElem_map, List.getElem_replicate]
  exact congrArg V.bl (decide_eq_false fun z => (List.nodup_cons.mp h).1 (z ▸ List.getElem_mem hm))
theorem dp_bls {K : PySem.W.Frag} {H : Hp} {C : Addr} : ∀ l : List Addr, DpAll K H (l.map fun D => V.bl (decide (C = D))) (l.map fun D => PyData.bool (decide (C = D)))
  | [] => .nil
  | _ :: l => .cons (.bl _) (dp_bls l)
theorem Cs_nd (T : Tx K mg) : (Cs T).Nodup := (List.nodup_cons.mp T.E_nd).2
theorem ok_law (T : Tx K mg) : FnOk P w K mg base CX0 14 T.law_a T.law_d ["_law_script"] (spLaw K) := by
  refine T.law_F.ok sc_law (fun vs H Q E h => ?_) (fun cdv A outer s H vs Q E hr h => ?_)
  · obtain ⟨a, ns, rfl, _⟩ := h
    rfl
  · obtain ⟨a0, ns, rfl, hS, hl, k⟩ := h
    refine ⟨_, (pss_cons (ps_set (i := 1) sc_law.nd rfl (Or.inl rfl) (pe_call (ok_law_fresh T) (hr.mono (by decide)) rfl T.law_fresh_m T.law_fresh_F.kp T.law_fresh_b .nil pass0 (pa_cons (pv 0) pa_nil)))
  (pss_cons (ps_for PassesOwn.never rfl (pi_range1 rfl T.z_range (pa_cons pe_int pa_nil)) (pg_name (i := 2) sc_law.nd rfl (Or.inl rfl))
  (pss_cons (ps_set (i := 3) sc_law.nd rfl (Or.inr rfl) (pe_call (ok_law_one T) (hr.mono (by decide)) rfl T.law_one_m T.law_one_F.kp T.law_one_b .nil pass0 (pa_cons (pv 1) (pa_cons (pe_lst (pa_cons (pv 2) (pa_cons (pe_op (op_repS) pe_str (pv 2)) (pa_cons (pe_lst (pa_cons (pv 2) pa_nil)) (pa_cons (pe_tup (pa_cons (pv 2) (pa_cons (pe_lst (pa_cons (pv 2) pa_nil)) pa_nil))) (pa_cons pe_non (pa_cons pe_bl (pa_cons (pe_disp (pps_cons pe_str (pv 2) pps_nil) (by rfl) (by rfl) (fun z => by cases z) (by decide)) pa_nil)))))))) pa_nil))))
  (pss_cons (ps_set (i := 4) sc_law.nd rfl (Or.inl rfl) (pe_lst (pa_cons (pe_call (ok_law_with_one T) (hr.mono (by decide)) rfl T.law_with_one_m T.law_with_one_F.kp T.law_with_one_b .nil pass0 (pa_cons (pv 3) pa_nil)) (pa_cons (pe_call (ok_law_by_place T) (hr.mono (by decide)) rfl T.law_by_place_m T.law_by_place_F.kp T.law_by_place_b .nil pass0 (pa_cons (pv 3) pa_nil)) pa_nil))))
  (pss_cons (ps_if (pt_val (pe_callB call_isi (by rfl) T.z_isinstance (by decide +kernel) (pa_cons (pv 3) (pa_cons (pe_bltn (v := .ty "list") (by rfl) T.z_list (by decide +kernel) rfl) pa_nil))))
  (pss_one (ps_expr (pe_bm PySem.F.plainAttrs_list PySem.F.slot_list_append PySem.F.type_list_append mt_append (pv 3) (pa_cons pe_str pa_nil))))
  pss_nil)
  (pss_cons (ps_for PassesOwn.never rfl (pi_list (pv 4)) (pg_name (i := 5) sc_law.nd rfl (Or.inl rfl))
  (pss_one (ps_if (pt_not (pt_val (pe_callB (cr_all rfl) (by rfl) T.z_all (by decide +kernel) (pa_cons (pe_lc (g := gName 9) (tt := tYes) (own := [("_law_found", 9)]) rfl sc_law.nd (pi_list (pe_call (ok_law_held T) (hr.mono (by decide)) rfl T.law_held_m T.law_held_F.kp T.law_held_b .nil pass0 (pa_cons (pv 5) pa_nil))) (blkOk_by (own := [("_law_found", 9)]) (N := ["_law_script", "_law_state", "_law_turn", "_law_x", "_law_ones", "_law_made", "_law_k", "_law_e", "_law_at", "_law_found"]) (sc := defScope s_law) (by decide +kernel))
   (fun _ _ _ _ _ => pg_name (i := 9) sc_law.nd rfl (Or.inl rfl)) (fun _ _ _ _ _ => pts_nil) (fun _ _ _ _ _ => (pe_call (ok_law_same T 2) (hr.mono (by decide)) rfl T.law_same_m T.law_same_F.kp T.law_same_b .nil pass0 (pa_cons (pv 9) (pa_cons (pv 3) pa_nil))))) pa_nil))))
  (pss_one (ps_ret pe_bl))
  pss_nil)))
  (pss_cons (ps_set (i := 5) sc_law.nd rfl (Or.inl rfl) (pe_op (op_cat) (pe_ix ix_list (pv 4) pe_int (fun _ _ => rfl)) (pe_lst (pa_cons (pe_err0 T.BadFrame_e T.BadFrame_i T.LevelError_init_M.fn (ok_LevelError_init T) (hr.mono (by decide)) T.LevelError_init_b pass0 rfl T.BadFrame_m) (pa_cons (pe_err0 T.Unfit_e T.Unfit_i T.LevelError_init_M.fn (ok_LevelError_init T) (hr.mono (by decide)) T.LevelError_init_b pass0 rfl T.Unfit_m) (pa_cons (pe_err0 T.HasHistory_e T.HasHistory_i T.LevelError_init_M.fn (ok_LevelError_init T) (hr.mono (by decide)) T.LevelError_init_b pass0 rfl T.HasHistory_m) pa_nil))))))
  (pss_cons (ps_for PassesOwn.never rfl (pi_enum (by rfl) T.z_enumerate (pa_cons (pv 5) pa_nil)) (pg_tup (by rfl) (pgs_cons (pg_name (i := 6) sc_law.nd rfl (Or.inr rfl)) (pgs_cons (pg_name (i := 7) sc_law.nd rfl (Or.inl rfl)) pgs_nil)))
  (pss_cons (ps_if (PW.pt (pw_or (pt_not (pt_val (pe_callB call_isV (by rfl) T.z_isinstance (by decide +kernel) (pa_cons (pv 7) (pa_cons (pe_glob (v := .ref T.LevelError_a) rfl T.LevelError_m rfl) pa_nil))))) (pw_or1 (pt_not (pt_val (pe_callB call_isV (by rfl) T.z_isinstance (by decide +kernel) (pa_cons (pv 7) (pa_cons (pe_bltn (v := .ty "ValueError") (by rfl) T.z_ValueError (by decide +kernel) rfl) pa_nil))))))))
  (pss_one (ps_ret pe_bl))
  pss_nil)
  (pss_one (ps_if (pt_cmpR (op_neD hr.units) (pe_call (ok_law_classes T) (hr.mono (by decide)) rfl T.law_classes_m T.law_classes_F.kp T.law_classes_b .nil pass0 (pa_cons (pv 7) pa_nil)) (pe_lc (g := gName 8) (tt := tYes) (own := [("_law_at", 8)]) rfl sc_law.nd (pi_range1 rfl T.z_range (pa_cons (pe_callB (call_len_seq) (by rfl) T.z_len (by decide +kernel) (pa_cons (pv 5) pa_nil)) pa_nil)) (blkOk_by (own := [("_law_at", 8)]) (N := ["_law_script", "_law_state", "_law_turn", "_law_x", "_law_ones", "_law_made", "_law_k", "_law_e", "_law_at", "_law_found"]) (sc := defScope s_law) (by decide +kernel))
   (fun _ _ _ _ _ => pg_name (i := 8) sc_law.nd rfl (Or.inl rfl)) (fun _ _ _ _ _ => pts_nil) (fun _ _ _ _ _ => (pe_cmpR op_eq (pv 8) (pv 6) (nomark _)))) (nomark _))
  (pss_one (ps_ret pe_bl))
  pss_nil))))
  (pss_one (ps_if (pt_cmpR op_in_seq pe_bl (pe_call (ok_law_classes T) (hr.mono (by decide)) rfl T.law_classes_m T.law_classes_F.kp T.law_classes_b .nil pass0 (pa_cons (pe_err0 T.LevelError_e T.LevelError_init_M.at_ T.LevelError_init_M.fn (ok_LevelError_init T) (hr.mono (by decide)) T.LevelError_init_b pass0 rfl T.LevelError_m) pa_nil)) (by with_unfolding_all rfl))
  (pss_one (ps_ret pe_bl))
  pss_nil)))))))))
  (pss_one (ps_ret (pe_callB call_isV (by rfl) T.z_isinstance (by decide +kernel) (pa_cons (pe_err0 T.LevelError_e T.LevelError_init_M.at_ T.LevelError_init_M.fn (ok_LevelError_init T) (hr.mono (by decide)) T.LevelError_init_b pass0 rfl T.LevelError_m) (pa_cons (pe_bltn (v := .ty "ValueError") (by rfl) T.z_ValueError (by decide +kernel) rfl) pa_nil))))))), ?_⟩
    refine ⟨_, rfl, a0, ns, rfl, hS, hl, fun st c H0 s0 hSt0 => ?_⟩
    refine ⟨4, rfl, by decide, by decide, for_range (n := 4) (fun i σ H1 => (∃ v2 v3 v4 v5 v6 v7 v8 v9, σ = [some (.ref a0), some (.ref st), v2, v3, v4, v5, v6, v7, v8, v9]) ∧ StAt H1 st c ns)
      ⟨⟨none, none, none, none, none, none, none, none, rfl⟩, hSt0⟩ ?_ ?_⟩
    · rintro i σ H1 hi ⟨⟨v2, v3, v4, v5, v6, v7, v8, v9, rfl⟩, hSt⟩
      refine ⟨_, rfl, _, rfl, _, rfl, "w", _, rfl, rfl, by omega, by omega, by decide, fun r => ?_⟩
      refine ⟨_, rfl, (by show 1 ≤ sizeLine; decide), fun l1 n1 => ?_⟩
      have g1 : Same H1 (upd H1 l1 (.lst [.int (0 + (i : Nat))])) := same_upd n1
      have h1 : (upd H1 l1 (.lst [.int (0 + (i : Nat))])) l1 = some (.lst [.int (0 + (i : Nat))]) := upd_same
      generalize upd H1 l1 (.lst [.int (0 + (i : Nat))]) = G1 at g1 h1 ⊢
      refine ⟨_, rfl, _, rfl, (by show 1 ≤ sizeLine; decide), fun l2 n2 => ?_⟩
      have g2 : Same G1 (upd G1 l2 (.lst [.int (0 + (i : Nat))])) := same_upd n2
      have h2 : (upd G1 l2 (.lst [.int (0 + (i : Nat))])) l2 = some (.lst [.int (0 + (i : Nat))]) := upd_same
      generalize upd G1 l2 (.lst [.int (0 + (i : Nat))]) = G2 at g2 h2 ⊢
      refine ⟨(by show 2 ≤ sizeLine; decide), fun t1 n3 => ?_⟩
      have g3 : Same G2 (upd G2 t1 (.tup [.int (0 + (i : Nat)), .ref l2])) := same_upd n3
      have h3 : (upd G2 t1 (.tup [.int (0 + (i : Nat)), .ref l2])) t1 = some (.tup [.int (0 + (i : Nat)), .ref l2]) := upd_same
      generalize upd G2 t1 (.tup [.int (0 + (i : Nat)), .ref l2]) = G3 at g3 h3 ⊢
      refine fun d1 n4 => ⟨_, rfl, upd_same, [(Sum.inr "w", .int (0 + (i : Nat)))], rfl, (by show 1 ≤ 15; decide), ?_⟩
      rw [upd_upd]
      refine ⟨(by show 7 ≤ sizeLine; decide), fun p7 n5 => ?_⟩
      have h4 := upd_same (H := G3) (a := d1) (o := .dK (mergeK [] [(Sum.inr "w", .int (0 + (i : Nat)))]))
      have g4 := same_upd (o := .dK (mergeK [] [(Sum.inr "w", .int (0 + (i : Nat)))])) n4
      have hmk : mergeK [] [((Sum.inr "w" : Key), V.int (0 + (i : Nat)))] = [((Sum.inr "w" : Key), V.int (0 + (i : Nat)))] := rfl
      rw [hmk] at n5 h4 g4 ⊢
      generalize upd G3 d1 (.dK [(Sum.inr "w", .int (0 + (i : Nat)))]) = G4 at n5 h4 g4 ⊢
      have gA := ((g1.trans g2).trans g3).trans g4
      have g5 := same_upd (o := .lst [.int (0 + (i : Nat)), .str r, .ref l1, .ref t1, .non, .bl true, .ref d1]) n5
      obtain ⟨_, _, _, hL⟩ := id hSt.1
      refine ⟨st, c, p7, ns, _, rfl, hSt.same (gA.trans g5), hl, upd_same, Ne.symm (ne_of_none (gA _ _ hL) n5), (by simp), (by show 7 ≤ 1000; decide), fun v H2 hv hSt2 kp => ?_⟩
      have ne1 : l1 ≠ st := Ne.symm (ne_of_none hL n1)
      have ne2 : l2 ≠ st := Ne.symm (ne_of_none (g1 _ _ hL) n2)
      have ne3 : t1 ≠ st := Ne.symm (ne_of_none (g2 _ _ (g1 _ _ hL)) n3)
      have ne4 : d1 ≠ st := Ne.symm (ne_of_none (g3 _ _ (g2 _ _ (g1 _ _ hL))) n4)
      have e1 := kp l1 _ (g5 _ _ (g4 _ _ (g3 _ _ (g2 _ _ h1)))) ne1
      have e2 := kp l2 _ (g5 _ _ (g4 _ _ (g3 _ _ h2))) ne2
      have e3 := kp t1 _ (g5 _ _ (g4 _ _ h3)) ne3
      have e4 := kp d1 _ (g5 _ _ h4) ne4
      -- the errors are made
      refine ⟨_, rfl, v, rfl, fun p1 es1 H3 s3 q1 m1 => ?_⟩
      refine ⟨_, rfl, v, rfl, fun p2 es2 H4 s4 q2 m2 => ?_⟩
      refine ⟨(by show 2 ≤ sizeLine; decide), fun p3 n6 => ?_⟩
      have s5 := same_upd (o := .lst [.ref p1, .ref p2]) n6
      have h6 := upd_same (H := H4) (a := p3) (o := .lst [.ref p1, .ref p2])
      have np3 : ∀ b o, H4 b = some o → p3 ≠ b := fun b o e => Ne.symm (ne_of_none e n6)
      generalize upd H4 p3 (.lst [.ref p1, .ref p2]) = H5 at s5 h6 ⊢
      have s35 := s3.trans (s4.trans s5)
      dsimp only [gName]
      show tSeq (tIfS _ _ _) _ _ _ _
      refine seq_ways (fun σ' H' => σ' = [some (.ref a0), some (.ref st), some (.int (0 + (i : Nat))), some v, some (.ref p3), v5, v6, v7, v8, v9] ∧ StAt H' st c ns ∧ Slf H' 2 v ∧ H' p3 = some (.lst [.ref p1, .ref p2]) ∧
        H' p1 = some (.lst es1) ∧ H' p2 = some (.lst es2) ∧ Made T H' v es1 ∧ Made T H' v es2) ?rest ?main
      case main =>
        intro D' hD'
        have stay : Slf H2 2 v → D'.nx [some (.ref a0), some (.ref st), some (.int (0 + (i : Nat))), some v, some (.ref p3), v5, v6, v7, v8, v9] H5 := fun hx =>
          hD' _ _ ⟨rfl, hSt2.same s35, hx.same s35, h6, s5 _ _ (s4 _ _ q1), s5 _ _ q2, m1.same (s4.trans s5), m2.same s5⟩
        simp only [List.mem_cons, List.not_mem_nil, or_false] at hv
        rcases hv with rfl | rfl | rfl | rfl | rfl | rfl | rfl
        · exact ⟨_, rfl, _, _, _, _, false, rfl, .ty "list", .base (.int _), kit_ty (by decide +kernel), _, rfl, iteF (stay (.int _))⟩
        · exact ⟨_, rfl, _, _, _, _, false, rfl, .ty "list", .base (.str _), kit_ty (by decide +kernel), _, rfl, iteF (stay (.str _))⟩
        · have x5 := s35 _ _ e1
          refine ⟨_, rfl, _, _, _, _, true, rfl, .ty "list", .base (.lst x5), kit_ty (by decide +kernel), _, rfl, iteT ?_⟩
          refine ⟨_, rfl, .inl ⟨rfl, _, .inl (.inl x5)⟩, l1, _, _, rfl, rfl, x5, (by show 1 < sizeLine; decide), ?_⟩
          have x4 := s4 _ _ (s3 _ _ e1)
          have d1' : p1 ≠ l1 := fun z => by
            rw [z, s3 _ _ e1] at q1
            have := m1.len
            cases q1
            cases this
          have d2' : p2 ≠ l1 := fun z => by
            rw [z, x4] at q2
            have := m2.len
            cases q2
            cases this
          have kq := fun (b : Addr) (o : HO) (e : H5 b = some o) (n : b ≠ l1) => (upd_ne (H := H5) (o := .lst ([.int (0 + (i : Nat))] ++ [.str "more"])) n).trans e
          obtain ⟨⟨x, y, z, w'⟩, wc, wn⟩ := hSt2.same s35
          have c1 : c ≠ l1 := by
            obtain ⟨_, hc0, _⟩ := hSt
            exact ne_of_none hc0 n1
          refine hD' _ _ ⟨rfl, ⟨⟨x, y, z, kq _ _ w' (Ne.symm ne1)⟩, kq _ _ wc c1, wn⟩, .lst upd_same (by show 2 ≤ 1000; decide) (fun u hu => ?_), kq _ _ h6 (np3 _ _ x4), kq _ _ (s5 _ _ (s4 _ _ q1)) d1', kq _ _ (s5 _ _ q2) d2', (m1.same (s4.trans s5)).put x5, (m2.same s5).put x5⟩
          simp only [List.cons_append, List.nil_append, List.mem_cons, List.not_mem_nil, or_false] at hu
          rcases hu with rfl | rfl
          · exact .int _
          · exact .str _
        · refine ⟨_, rfl, _, _, _, _, false, rfl, .ty "list", .base (.tup (s35 _ _ e3)), kit_ty (by decide +kernel), _, rfl, iteF (stay (.tup e3 (by show 2 ≤ 1000; decide) fun u hu => ?_))⟩
          simp only [List.mem_cons, List.not_mem_nil, or_false] at hu
          rcases hu with rfl | rfl
          · exact .int _
          · refine .lst e2 (by show 1 ≤ 1000; decide) fun u hu => ?_
            simp only [List.mem_cons, List.not_mem_nil, or_false] at hu
            subst hu
            exact .int _
        · exact ⟨_, rfl, _, _, _, _, false, rfl, .ty "list", .base .non, kit_ty (by decide +kernel), _, rfl, iteF (stay .non)⟩
        · exact ⟨_, rfl, _, _, _, _, false, rfl, .ty "list", .base (.bl _), kit_ty (by decide +kernel), _, rfl, iteF (stay (.bl _))⟩
        · exact ⟨_, rfl, _, _, _, _, false, rfl, .ty "list", .base (.dK (s35 _ _ e4)), kit_ty (by decide +kernel), _, rfl, iteF (stay (.dk e4 (by simp) fun q hq => by
            simp only [List.mem_cons, List.not_mem_nil, or_false] at hq
            subst hq
            rfl))⟩
      case rest =>
        clear hv h6 q1 q2 m1 m2 s35 s5 np3 n6 s4 s3 e1 e2 e3 e4 kp hSt2
        rintro σ' H6 ⟨rfl, hSt6, hx, h6, q1, q2, m1, m2⟩
        -- what they hold
        refine ⟨_, rfl, p3, rfl, ⟨_, .inl (.inl h6)⟩, for_list (K := K) (a := p3) (xs := [.ref p1, .ref p2]) (fun j σ H7 => (∃ u5 u9, σ = [some (.ref a0), some (.ref st), some (.int (0 + (i : Nat))), some v, some (.ref p3), u5, v6, v7, v8, u9]) ∧ Same H6 H7)
          ⟨⟨_, _, rfl⟩, fun _ _ e => e⟩ (fun j σ H7 _ s => .inl (.inl (s.2 _ _ h6))) ?_ ?_⟩
        · rintro j y σ H7 hj ⟨⟨u5, u9, rfl⟩, s7⟩
          obtain ⟨p, es, rfl, hp, hm⟩ : ∃ p es, y = V.ref p ∧ H6 p = some (.lst es) ∧ Made T H6 v es := by
            match j, hj with
            | 0, hj => exact ⟨p1, es1, (Option.some.inj hj).symm, q1, m1⟩
            | 1, hj => exact ⟨p2, es2, (Option.some.inj hj).symm, q2, m2⟩
            | n + 2, hj => exact absurd hj (by simp)
          refine ⟨_, rfl, p, es, v, rfl, s7 _ _ hp, hm.same s7, fun q H8 s8 hq => ?_⟩
          refine ⟨q, rfl, ⟨_, .inl (.inl hq)⟩, fun D nD => lc_list (K := K) (a := q) (xs := [v, v, v, v, v, v, v, v, v, v]) (fun m H9 => Same H8 H9 ∧ H9 D = some (.lst ((List.replicate m true).map V.bl)))
            ⟨same_upd nD, upd_same⟩ (fun m H9 _ e => .inl (.inl (e.1 _ _ hq))) ?_ ?_⟩
          · rintro m x H9 hx' ⟨s9, eD⟩
            have ex : x = v := by
              have hm' := List.mem_of_getElem? hx'
              simp only [List.mem_cons, List.not_mem_nil, or_false, or_self] at hm'
              exact hm'
            subst ex
            refine ⟨rfl, yes_of ?_⟩
            refine ⟨_, rfl, _, rfl, x, rfl, hx.same (s7.trans (s8.trans s9)), fun HA sA => ⟨_, sA _ _ eD, ?_, ?_⟩⟩
            · rw [List.length_map, List.length_replicate]
              have := (List.getElem?_eq_some_iff.mp hx').1
              exact small1000 (by simp at this; omega)
            · have sB : Same H8 (upd HA D (.lst ((List.replicate m true).map V.bl ++ [V.bl true]))) := fun b o e => (upd_ne (ne_of_none e nD)).trans (sA _ _ (s9 _ _ e))
              exact ⟨sB, by rw [upd_same, yes_snoc]⟩
          · rintro H9 ⟨s9, eD⟩
            refine ⟨D, List.replicate 10 true, rfl, .inl (.inl eD), _, rfl, ?_⟩
            exact iteF ⟨⟨_, _, rfl⟩, s7.trans (s8.trans s9)⟩
        · rintro σ H7 ⟨⟨u5, u9, rfl⟩, s7⟩
          -- all of them
          obtain ⟨a1, a2, a3, a4, a5, a6, a7, a8, a9, a0', rfl, h1', h2', h3', h4', h5', h6', h7', h8', h9', h0'⟩ := m1.same s7
          refine ⟨_, rfl, p3, _, _, .ref p1, rfl, rfl, .inl (.inl (s7 _ _ h6)), rfl, ?_⟩
          refine ⟨(by show 0 ≤ 1000; decide), err0 T.BadFrame_e fun b1 HA _ sA f1 => ?_⟩
          refine ⟨(by show 0 ≤ 1000; decide), err0 T.Unfit_e fun b2 HB _ sB f2 => ?_⟩
          refine ⟨(by show 0 ≤ 1000; decide), err0 T.HasHistory_e fun b3 HC _ sC f3 => ?_⟩
          refine ⟨(by show 3 ≤ sizeLine; decide), fun o no => ?_⟩
          have so := same_upd (o := .lst [.ref b1, .ref b2, .ref b3]) no
          have sx := sA.trans (sB.trans (sC.trans so))
          refine ⟨p1, o, _, _, rfl, rfl, sx _ _ (s7 _ _ q1), upd_same, (by show 13 ≤ sizeLine; decide), fun f nf => ?_⟩
          have sf := same_upd (o := .lst ([.ref a1, .ref a2, .ref a3, .ref a4, .ref a5, .ref a6, .ref a7, .ref a8, .ref a9, .ref a0'] ++ [.ref b1, .ref b2, .ref b3])) nf
          have hf := upd_same (H := upd HC o (.lst [.ref b1, .ref b2, .ref b3])) (a := f) (o := .lst ([.ref a1, .ref a2, .ref a3, .ref a4, .ref a5, .ref a6, .ref a7, .ref a8, .ref a9, .ref a0'] ++ [.ref b1, .ref b2, .ref b3]))
          have s8 := sx.trans sf
          have f1 := f1.same (sB.trans (sC.trans (so.trans sf)))
          have f2 := f2.same (sC.trans (so.trans sf))
          have f3 := f3.same (so.trans sf)
          generalize upd (upd HC o (.lst [.ref b1, .ref b2, .ref b3])) f (.lst ([.ref a1, .ref a2, .ref a3, .ref a4, .ref a5, .ref a6, .ref a7, .ref a8, .ref a9, .ref a0'] ++ [.ref b1, .ref b2, .ref b3])) = H8 at sf hf s8 f1 f2 f3 ⊢
          have all13 : ∀ (j : Nat) (y : V), ([.ref a1, .ref a2, .ref a3, .ref a4, .ref a5, .ref a6, .ref a7, .ref a8, .ref a9, .ref a0', .ref b1, .ref b2, .ref b3] : List V)[j]? = some y → ∃ a C o, y = V.ref a ∧ ErrAt H8 a C o ∧ ErrT K T.LevelError_a C ∧ (Cs T)[j]? = some C := by
            have h1 := h1'.same s8
            have h2 := h2'.same s8
            have h3 := h3'.same s8
            have h4 := h4'.same s8
            have h5 := h5'.same s8
            have h6 := h6'.same s8
            have h7 := h7'.same s8
            have h8 := h8'.same s8
            have h9 := h9'.same s8
            have h0 := h0'.same s8
            intro j y hy
            match j, hy with
            | 0, hy => exact ⟨a1, T.BadPart_a, _, (Option.some.inj hy).symm, h1, T.BadPart_e, rfl⟩
            | 1, hy => exact ⟨a2, T.BadText_a, _, (Option.some.inj hy).symm, h2, T.BadText_e, rfl⟩
            | 2, hy => exact ⟨a3, T.BadLevel_a, _, (Option.some.inj hy).symm, h3, T.BadLevel_e, rfl⟩
            | 3, hy => exact ⟨a4, T.BadFact_a, _, (Option.some.inj hy).symm, h4, T.BadFact_e, rfl⟩
            | 4, hy => exact ⟨a5, T.BadPlace_a, _, (Option.some.inj hy).symm, h5, T.BadPlace_e, rfl⟩
            | 5, hy => exact ⟨a6, T.BadPoint_a, _, (Option.some.inj hy).symm, h6, T.BadPoint_e, rfl⟩
            | 6, hy => exact ⟨a7, T.BadMoment_a, _, (Option.some.inj hy).symm, h7, T.BadMoment_e, rfl⟩
            | 7, hy => exact ⟨a8, T.BadLine_a, _, (Option.some.inj hy).symm, h8, T.BadLine_e, rfl⟩
            | 8, hy => exact ⟨a9, T.UnknownLevel_a, _, (Option.some.inj hy).symm, h9, T.UnknownLevel_e, rfl⟩
            | 9, hy => exact ⟨a0', T.BadHeight_a, _, (Option.some.inj hy).symm, h0, T.BadHeight_e, rfl⟩
            | 10, hy => exact ⟨b1, T.BadFrame_a, _, (Option.some.inj hy).symm, f1, T.BadFrame_e, rfl⟩
            | 11, hy => exact ⟨b2, T.Unfit_a, _, (Option.some.inj hy).symm, f2, T.Unfit_e, rfl⟩
            | 12, hy => exact ⟨b3, T.HasHistory_a, _, (Option.some.inj hy).symm, f3, T.HasHistory_e, rfl⟩
            | n + 13, hy => exact absurd hy (by simp)
          refine ⟨_, rfl, f, _, rfl, .inl (.inl hf), for_it (walk_enum (K := K) (a := f) (xs := [.ref a1, .ref a2, .ref a3, .ref a4, .ref a5, .ref a6, .ref a7, .ref a8, .ref a9, .ref a0', .ref b1, .ref b2, .ref b3])) (fun j σ H9 => (∃ w6 w7 w8, σ = [some (.ref a0), some (.ref st), some (.int (0 + (i : Nat))), some v, some (.ref p3), some (.ref f), w6, w7, w8, u9]) ∧ Same H8 H9)
            ⟨⟨_, _, _, rfl⟩, fun _ _ e => e⟩ (fun j σ H9 _ s => .inl (.inl (s.2 _ _ hf))) ?_ ?_⟩
          · rintro j x σ H9 H10 hj ⟨⟨w6, w7, w8, rfl⟩, s9⟩ ⟨Tp, x1, y1, rfl, nT, rfl, hx1, hy1⟩
            obtain ⟨a, C, o, rfl, hE, U, hC⟩ := all13 j y1 hy1
            cases hx1
            have s10 := s9.trans (same_upd (o := .tup [.int (j : Nat), .ref a]) nT)
            refine ⟨Tp, _, rfl, .inl (.inl upd_same), rfl, _, _, rfl, _, _, rfl, rfl, ?_⟩
            refine ⟨_, rfl, a, C, _, o, _, _, true, rfl, hE.same s10, U, T.E_g, .own _, U.kitL T.LevelError_e, _, rfl, iteF ?_⟩
            refine ⟨_, rfl, a, C, _, o, _, _, true, rfl, hE.same s10, U, T.E_g, .ty "ValueError", U.kitT (by decide +kernel) (by decide +kernel), _, rfl, iteF ?_⟩
            refine ⟨_, rfl, a, C, o, rfl, hE.same s10, U, fun q H11 s11 hq => ?_⟩
            have s8b := s10.trans s11
            refine ⟨_, rfl, f, _, rfl,   .inl (.inl (.inl (s8b _ _ hf))), 13, rfl, by decide, by decide, fun D nD => lc_range (n := 13) (fun m H12 => Same H11 H12 ∧ H12 D = some (.lst ((List.range m).map (fun m : Nat => V.bl (decide (V.int (0 + (m : Int)) = V.int (j : Int)))))))
              ⟨same_upd nD, upd_same⟩ ?_ ?_⟩
            · rintro m H12 hm ⟨s12, eD⟩
              refine ⟨rfl, yes_of ?_⟩
              refine ⟨_, rfl, _, rfl, rfl, _, eD, ?_, fun b o e => (upd_ne (ne_of_none e nD)).trans (s12 _ _ e), ?_⟩
              · rw [List.length_map, List.length_range]
                exact small1000 (by omega)
              · rw [upd_same, List.range_succ, List.map_append]
                rfl
            · rintro H12 ⟨s12, eD⟩
              have row := cls_row (Cs_nd T) hC
              have row' : (List.range 13).map (fun m : Nat => V.bl (decide (V.int (0 + (m : Int)) = V.int (j : Int)))) = (Cs T).map fun D => V.bl (decide (C = D)) := row
              rw [row'] at eD
              refine ⟨.list ((Cs T).map fun D => PyData.bool (decide (C = D))), .list ((Cs T).map fun D => PyData.bool (decide (C = D))), .lst (.inl (.inl (s12 _ _ hq))) (dp_bls _), .lst (.inl (.inl eD)) (dp_bls _), rfl, rfl, _, rfl, ?_⟩
              rw [SeqAt.eqv_refl _ (SeqAt.canLay_of_shaped (d := .list ((Cs T).map fun D => PyData.bool (decide (C = D)))) rfl)]
              exact iteF ⟨⟨_, _, _, rfl⟩, s8b.trans s12⟩
          · rintro σ H9 ⟨⟨w6, w7, w8, rfl⟩, s9⟩
            refine ⟨(by show 0 ≤ 1000; decide), err0 T.LevelError_e fun b HD _ sD hb => ⟨b, T.LevelError_a, none, rfl, hb, T.LevelError_e, fun q HE sE hq => ?_⟩⟩
            rw [no_row (l := Cs T) T.E_nd] at hq
            refine ⟨q, _, rfl, .inl (.inl (.inl hq)), rfl, rfl, _, rfl, ?_⟩
            exact iteF ⟨⟨_, _, _, _, _, _, _, _, rfl⟩, (((((hSt6.same s7).same s8).same s9).same sD).same sE)⟩
    · rintro σ H1 ⟨⟨v2, v3, v4, v5, v6, v7, v8, v9, rfl⟩, hSt⟩
      exact ⟨(by show 0 ≤ 1000; decide), err0 T.LevelError_e fun b G _ g hb => ⟨b, T.LevelError_a, _, none, _, _, true, rfl, hb, T.LevelError_e, T.E_g, .ty _, T.LevelError_e.kitT (by decide +kernel) (by decide +kernel), k _⟩⟩

end


theorem all_mk {l : PySem.W.OpenLaw} {w : World} {K : PySem.W.Frag} {h : Heap} {mg : Str → Option Value} {fa : Addr} (X : K.In h) (G : h.Ns mainGlobals mg) (hfa : mg "law" = some (.ref fa))
    {LevelError_a BadPart_a BadText_a BadFrame_a BadLevel_a BadFact_a BadPlace_a BadPoint_a BadMoment_a BadLine_a Unfit_a HasHistory_a UnknownLevel_a BadHeight_a LevelError_init_a BadPart_init_a BadText_init_a BadLevel_init_a BadFact_init_a BadPlace_init_a BadPoint_init_a BadMoment_init_a BadLine_init_a UnknownLevel_init_a BadHeight_init_a law_fresh_a law_fill_a law_take_a law_one_a law_same_a law_with_one_a law_by_place_a law_held_a law_classes_a law_a : Addr}
    {od_LevelError_init an_LevelError_init od_BadPart_init an_BadPart_init od_BadText_init an_BadText_init od_BadLevel_init an_BadLevel_init od_BadFact_init an_BadFact_init od_BadPlace_init an_BadPlace_init od_BadPoint_init an_BadPoint_init od_BadMoment_init an_BadMoment_init od_BadLine_init an_BadLine_init od_UnknownLevel_init an_UnknownLevel_init od_BadHeight_init an_BadHeight_init od_law_fresh an_law_fresh od_law_fill an_law_fill od_law_take an_law_take od_law_one an_law_one od_law_same an_law_same od_law_with_one an_law_with_one od_law_by_place an_law_by_place od_law_held an_law_held od_law_classes an_law_classes od_law an_law : Option Addr}
    {sl_LevelError_init sl_BadPart_init sl_BadText_init sl_BadLevel_init sl_BadFact_init sl_BadPlace_init sl_BadPoint_init sl_BadMoment_init sl_BadLine_init sl_UnknownLevel_init sl_BadHeight_init sl_law_fresh sl_law_fill sl_law_take sl_law_one sl_law_same sl_law_with_one sl_law_by_place sl_law_held sl_law_classes sl_law : Array (Option Value)}
    {oc_LevelError_init kV_LevelError_init dc_LevelError_init pm_LevelError_init cd_LevelError_init ct_LevelError_init oc_BadPart_init kV_BadPart_init dc_BadPart_init pm_BadPart_init cd_BadPart_init ct_BadPart_init oc_BadText_init kV_BadText_init dc_BadText_init pm_BadText_init cd_BadText_init ct_BadText_init oc_BadLevel_init kV_BadLevel_init dc_BadLevel_init pm_BadLevel_init cd_BadLevel_init ct_BadLevel_init oc_BadFact_init kV_BadFact_init dc_BadFact_init pm_BadFact_init cd_BadFact_init ct_BadFact_init oc_BadPlace_init kV_BadPlace_init dc_BadPlace_init pm_BadPlace_init cd_BadPlace_init ct_BadPlace_init oc_BadPoint_init kV_BadPoint_init dc_BadPoint_init pm_BadPoint_init cd_BadPoint_init ct_BadPoint_init oc_BadMoment_init kV_BadMoment_init dc_BadMoment_init pm_BadMoment_init cd_BadMoment_init ct_BadMoment_init oc_BadLine_init kV_BadLine_init dc_BadLine_init pm_BadLine_init cd_BadLine_init ct_BadLine_init oc_UnknownLevel_init kV_UnknownLevel_init dc_UnknownLevel_init pm_UnknownLevel_init cd_UnknownLevel_init ct_UnknownLevel_init oc_BadHeight_init kV_BadHeight_init dc_BadHeight_init pm_BadHeight_init cd_BadHeight_init ct_BadHeight_init oc_law_fresh kV_law_fresh dc_law_fresh pm_law_fresh cd_law_fresh ct_law_fresh oc_law_fill kV_law_fill dc_law_fill pm_law_fill cd_law_fill ct_law_fill oc_law_take kV_law_take dc_law_take pm_law_take cd_law_take ct_law_take oc_law_one kV_law_one dc_law_one pm_law_one cd_law_one ct_law_one oc_law_same kV_law_same dc_law_same pm_law_same cd_law_same ct_law_same oc_law_with_one kV_law_with_one dc_law_with_one pm_law_with_one cd_law_with_one ct_law_with_one oc_law_by_place kV_law_by_place dc_law_by_place pm_law_by_place cd_law_by_place ct_law_by_place oc_law_held kV_law_held dc_law_held pm_law_held cd_law_held ct_law_held oc_law_classes kV_law_classes dc_law_classes pm_law_classes cd_law_classes ct_law_classes oc_law kV_law dc_law pm_law cd_law ct_law : Value}
    {nm_LevelError q_LevelError : Str} {N_LevelError : Addr} {bs_LevelError : List Value} {sn_LevelError : List Str} {sub_LevelError : List Value} {ab_LevelError : Bool} {col_LevelError : Option Bool} {dd_LevelError : Option Addr} {k0_LevelError k1_LevelError k2_LevelError k3_LevelError k5_LevelError : Option Value}
    {nm_BadPart q_BadPart : Str} {N_BadPart : Addr} {bs_BadPart : List Value} {sn_BadPart : List Str} {sub_BadPart : List Value} {ab_BadPart : Bool} {col_BadPart : Option Bool} {dd_BadPart : Option Addr} {k0_BadPart k1_BadPart k2_BadPart k3_BadPart k5_BadPart : Option Value}
    {nm_BadText q_BadText : Str} {N_BadText : Addr} {bs_BadText : List Value} {sn_BadText : List Str} {sub_BadText : List Value} {ab_BadText : Bool} {col_BadText : Option Bool} {dd_BadText : Option Addr} {k0_BadText k1_BadText k2_BadText k3_BadText k5_BadText : Option Value}
    {nm_BadFrame q_BadFrame : Str} {N_BadFrame : Addr} {bs_BadFrame : List Value} {sn_BadFrame : List Str} {sub_BadFrame : List Value} {ab_BadFrame : Bool} {col_BadFrame : Option Bool} {dd_BadFrame : Option Addr} {k0_BadFrame k1_BadFrame k2_BadFrame k3_BadFrame k5_BadFrame : Option Value}
    {nm_BadLevel q_BadLevel : Str} {N_BadLevel : Addr} {bs_BadLevel : List Value} {sn_BadLevel : List Str} {sub_BadLevel : List Value} {ab_BadLevel : Bool} {col_BadLevel : Option Bool} {dd_BadLevel : Option Addr} {k0_BadLevel k1_BadLevel k2_BadLevel k3_BadLevel k5_BadLevel : Option Value}
    {nm_BadFact q_BadFact : Str} {N_BadFact : Addr} {bs_BadFact : List Value} {sn_BadFact : List Str} {sub_BadFact : List Value} {ab_BadFact : Bool} {col_BadFact : Option Bool} {dd_BadFact : Option Addr} {k0_BadFact k1_BadFact k2_BadFact k3_BadFact k5_BadFact : Option Value}
    {nm_BadPlace q_BadPlace : Str} {N_BadPlace : Addr} {bs_BadPlace : List Value} {sn_BadPlace : List Str} {sub_BadPlace : List Value} {ab_BadPlace : Bool} {col_BadPlace : Option Bool} {dd_BadPlace : Option Addr} {k0_BadPlace k1_BadPlace k2_BadPlace k3_BadPlace k5_BadPlace : Option Value}
    {nm_BadPoint q_BadPoint : Str} {N_BadPoint : Addr} {bs_BadPoint : List Value} {sn_BadPoint : List Str} {sub_BadPoint : List Value} {ab_BadPoint : Bool} {col_BadPoint : Option Bool} {dd_BadPoint : Option Addr} {k0_BadPoint k1_BadPoint k2_BadPoint k3_BadPoint k5_BadPoint : Option Value}
    {nm_BadMoment q_BadMoment : Str} {N_BadMoment : Addr} {bs_BadMoment : List Value} {sn_BadMoment : List Str} {sub_BadMoment : List Value} {ab_BadMoment : Bool} {col_BadMoment : Option Bool} {dd_BadMoment : Option Addr} {k0_BadMoment k1_BadMoment k2_BadMoment k3_BadMoment k5_BadMoment : Option Value}
    {nm_BadLine q_BadLine : Str} {N_BadLine : Addr} {bs_BadLine : List Value} {sn_BadLine : List Str} {sub_BadLine : List Value} {ab_BadLine : Bool} {col_BadLine : Option Bool} {dd_BadLine : Option Addr} {k0_BadLine k1_BadLine k2_BadLine k3_BadLine k5_BadLine : Option Value}
    {nm_Unfit q_Unfit : Str} {N_Unfit : Addr} {bs_Unfit : List Value} {sn_Unfit : List Str} {sub_Unfit : List Value} {ab_Unfit : Bool} {col_Unfit : Option Bool} {dd_Unfit : Option Addr} {k0_Unfit k1_Unfit k2_Unfit k3_Unfit k5_Unfit : Option Value}
    {nm_HasHistory q_HasHistory : Str} {N_HasHistory : Addr} {bs_HasHistory : List Value} {sn_HasHistory : List Str} {sub_HasHistory : List Value} {ab_HasHistory : Bool} {col_HasHistory : Option Bool} {dd_HasHistory : Option Addr} {k0_HasHistory k1_HasHistory k2_HasHistory k3_HasHistory k5_HasHistory : Option Value}
    {nm_UnknownLevel q_UnknownLevel : Str} {N_UnknownLevel : Addr} {bs_UnknownLevel : List Value} {sn_UnknownLevel : List Str} {sub_UnknownLevel : List Value} {ab_UnknownLevel : Bool} {col_UnknownLevel : Option Bool} {dd_UnknownLevel : Option Addr} {k0_UnknownLevel k1_UnknownLevel k2_UnknownLevel k3_UnknownLevel k5_UnknownLevel : Option Value}
    {nm_BadHeight q_BadHeight : Str} {N_BadHeight : Addr} {bs_BadHeight : List Value} {sn_BadHeight : List Str} {sub_BadHeight : List Value} {ab_BadHeight : Bool} {col_BadHeight : Option Bool} {dd_BadHeight : Option Addr} {k0_BadHeight k1_BadHeight k2_BadHeight k3_BadHeight k5_BadHeight : Option Value}
    (g_LevelError : PySem.W.nsIn K mainGlobals "LevelError" = some (some (.ref LevelError_a)))
    (xl_LevelError : K.lookup LevelError_a = some (excClassObj nm_LevelError q_LevelError LevelError_a N_LevelError bs_LevelError [.type "ValueError", .type "Exception", .type "BaseException", .type "object"] true sn_LevelError sub_LevelError ab_LevelError col_LevelError dd_LevelError k0_LevelError k1_LevelError k2_LevelError k3_LevelError k5_LevelError "ValueError.__new__"))
    (sa_LevelError : PySem.W.findIn K (.ref LevelError_a) "__setattr__" = some (some (.builtin "object.__setattr__")))
    (ga_LevelError : PySem.W.findIn K (.ref LevelError_a) "__getattribute__" = some (some (.builtin "BaseException.__getattribute__")))
    (ca_LevelError : PySem.W.findIn K (.ref LevelError_a) "__class__" = some (some (.builtin "object.__class__")))
    (gg_LevelError : PySem.W.findIn K (.ref LevelError_a) "__getattr__" = some none)
    (ty_LevelError : PySem.W.typeIn K (.ref LevelError_a) = some (.type "type"))
    (kp_LevelError : PySem.W.keepIn K (.ref LevelError_a) = true)
    (g_BadPart : PySem.W.nsIn K mainGlobals "BadPart" = some (some (.ref BadPart_a)))
    (xl_BadPart : K.lookup BadPart_a = some (excClassObj nm_BadPart q_BadPart BadPart_a N_BadPart bs_BadPart [.ref LevelError_a, .type "ValueError", .type "Exception", .type "BaseException", .type "object"] true sn_BadPart sub_BadPart ab_BadPart col_BadPart dd_BadPart k0_BadPart k1_BadPart k2_BadPart k3_BadPart k5_BadPart "ValueError.__new__"))
    (sa_BadPart : PySem.W.findIn K (.ref BadPart_a) "__setattr__" = some (some (.builtin "object.__setattr__")))
    (ga_BadPart : PySem.W.findIn K (.ref BadPart_a) "__getattribute__" = some (some (.builtin "BaseException.__getattribute__")))
    (ca_BadPart : PySem.W.findIn K (.ref BadPart_a) "__class__" = some (some (.builtin "object.__class__")))
    (gg_BadPart : PySem.W.findIn K (.ref BadPart_a) "__getattr__" = some none)
    (ty_BadPart : PySem.W.typeIn K (.ref BadPart_a) = some (.type "type"))
    (kp_BadPart : PySem.W.keepIn K (.ref BadPart_a) = true)
    (n_BadPart_part : PySem.W.findIn K (.ref BadPart_a) "part" = some none)
    (g_BadText : PySem.W.nsIn K mainGlobals "BadText" = some (some (.ref BadText_a)))
    (xl_BadText : K.lookup BadText_a = some (excClassObj nm_BadText q_BadText BadText_a N_BadText bs_BadText [.ref LevelError_a, .type "ValueError", .type "Exception", .type "BaseException", .type "object"] true sn_BadText sub_BadText ab_BadText col_BadText dd_BadText k0_BadText k1_BadText k2_BadText k3_BadText k5_BadText "ValueError.__new__"))
    (sa_BadText : PySem.W.findIn K (.ref BadText_a) "__setattr__" = some (some (.builtin "object.__setattr__")))
    (ga_BadText : PySem.W.findIn K (.ref BadText_a) "__getattribute__" = some (some (.builtin "BaseException.__getattribute__")))
    (ca_BadText : PySem.W.findIn K (.ref BadText_a) "__class__" = some (some (.builtin "object.__class__")))
    (gg_BadText : PySem.W.findIn K (.ref BadText_a) "__getattr__" = some none)
    (ty_BadText : PySem.W.typeIn K (.ref BadText_a) = some (.type "type"))
    (kp_BadText : PySem.W.keepIn K (.ref BadText_a) = true)
    (n_BadText_line : PySem.W.findIn K (.ref BadText_a) "line" = some none)
    (g_BadFrame : PySem.W.nsIn K mainGlobals "BadFrame" = some (some (.ref BadFrame_a)))
    (xl_BadFrame : K.lookup BadFrame_a = some (excClassObj nm_BadFrame q_BadFrame BadFrame_a N_BadFrame bs_BadFrame [.ref LevelError_a, .type "ValueError", .type "Exception", .type "BaseException", .type "object"] true sn_BadFrame sub_BadFrame ab_BadFrame col_BadFrame dd_BadFrame k0_BadFrame k1_BadFrame k2_BadFrame k3_BadFrame k5_BadFrame "ValueError.__new__"))
    (sa_BadFrame : PySem.W.findIn K (.ref BadFrame_a) "__setattr__" = some (some (.builtin "object.__setattr__")))
    (ga_BadFrame : PySem.W.findIn K (.ref BadFrame_a) "__getattribute__" = some (some (.builtin "BaseException.__getattribute__")))
    (ca_BadFrame : PySem.W.findIn K (.ref BadFrame_a) "__class__" = some (some (.builtin "object.__class__")))
    (gg_BadFrame : PySem.W.findIn K (.ref BadFrame_a) "__getattr__" = some none)
    (ty_BadFrame : PySem.W.typeIn K (.ref BadFrame_a) = some (.type "type"))
    (kp_BadFrame : PySem.W.keepIn K (.ref BadFrame_a) = true)
    (ii_BadFrame : PySem.W.findIn K (.ref BadFrame_a) "__init__" = some (some (.ref LevelError_init_a)))
    (g_BadLevel : PySem.W.nsIn K mainGlobals "BadLevel" = some (some (.ref BadLevel_a)))
    (xl_BadLevel : K.lookup BadLevel_a = some (excClassObj nm_BadLevel q_BadLevel BadLevel_a N_BadLevel bs_BadLevel [.ref LevelError_a, .type "ValueError", .type "Exception", .type "BaseException", .type "object"] true sn_BadLevel sub_BadLevel ab_BadLevel col_BadLevel dd_BadLevel k0_BadLevel k1_BadLevel k2_BadLevel k3_BadLevel k5_BadLevel "ValueError.__new__"))
    (sa_BadLevel : PySem.W.findIn K (.ref BadLevel_a) "__setattr__" = some (some (.builtin "object.__setattr__")))
    (ga_BadLevel : PySem.W.findIn K (.ref BadLevel_a) "__getattribute__" = some (some (.builtin "BaseException.__getattribute__")))
    (ca_BadLevel : PySem.W.findIn K (.ref BadLevel_a) "__class__" = some (some (.builtin "object.__class__")))
    (gg_BadLevel : PySem.W.findIn K (.ref BadLevel_a) "__getattr__" = some none)
    (ty_BadLevel : PySem.W.typeIn K (.ref BadLevel_a) = some (.type "type"))
    (kp_BadLevel : PySem.W.keepIn K (.ref BadLevel_a) = true)
    (n_BadLevel_index : PySem.W.findIn K (.ref BadLevel_a) "index" = some none)
    (g_BadFact : PySem.W.nsIn K mainGlobals "BadFact" = some (some (.ref BadFact_a)))
    (xl_BadFact : K.lookup BadFact_a = some (excClassObj nm_BadFact q_BadFact BadFact_a N_BadFact bs_BadFact [.ref LevelError_a, .type "ValueError", .type "Exception", .type "BaseException", .type "object"] true sn_BadFact sub_BadFact ab_BadFact col_BadFact dd_BadFact k0_BadFact k1_BadFact k2_BadFact k3_BadFact k5_BadFact "ValueError.__new__"))
    (sa_BadFact : PySem.W.findIn K (.ref BadFact_a) "__setattr__" = some (some (.builtin "object.__setattr__")))
    (ga_BadFact : PySem.W.findIn K (.ref BadFact_a) "__getattribute__" = some (some (.builtin "BaseException.__getattribute__")))
    (ca_BadFact : PySem.W.findIn K (.ref BadFact_a) "__class__" = some (some (.builtin "object.__class__")))
    (gg_BadFact : PySem.W.findIn K (.ref BadFact_a) "__getattr__" = some none)
    (ty_BadFact : PySem.W.typeIn K (.ref BadFact_a) = some (.type "type"))
    (kp_BadFact : PySem.W.keepIn K (.ref BadFact_a) = true)
    (n_BadFact_index : PySem.W.findIn K (.ref BadFact_a) "index" = some none)
    (g_BadPlace : PySem.W.nsIn K mainGlobals "BadPlace" = some (some (.ref BadPlace_a)))
    (xl_BadPlace : K.lookup BadPlace_a = some (excClassObj nm_BadPlace q_BadPlace BadPlace_a N_BadPlace bs_BadPlace [.ref LevelError_a, .type "ValueError", .type "Exception", .type "BaseException", .type "object"] true sn_BadPlace sub_BadPlace ab_BadPlace col_BadPlace dd_BadPlace k0_BadPlace k1_BadPlace k2_BadPlace k3_BadPlace k5_BadPlace "ValueError.__new__"))
    (sa_BadPlace : PySem.W.findIn K (.ref BadPlace_a) "__setattr__" = some (some (.builtin "object.__setattr__")))
    (ga_BadPlace : PySem.W.findIn K (.ref BadPlace_a) "__getattribute__" = some (some (.builtin "BaseException.__getattribute__")))
    (ca_BadPlace : PySem.W.findIn K (.ref BadPlace_a) "__class__" = some (some (.builtin "object.__class__")))
    (gg_BadPlace : PySem.W.findIn K (.ref BadPlace_a) "__getattr__" = some none)
    (ty_BadPlace : PySem.W.typeIn K (.ref BadPlace_a) = some (.type "type"))
    (kp_BadPlace : PySem.W.keepIn K (.ref BadPlace_a) = true)
    (n_BadPlace_index : PySem.W.findIn K (.ref BadPlace_a) "index" = some none)
    (g_BadPoint : PySem.W.nsIn K mainGlobals "BadPoint" = some (some (.ref BadPoint_a)))
    (xl_BadPoint : K.lookup BadPoint_a = some (excClassObj nm_BadPoint q_BadPoint BadPoint_a N_BadPoint bs_BadPoint [.ref LevelError_a, .type "ValueError", .type "Exception", .type "BaseException", .type "object"] true sn_BadPoint sub_BadPoint ab_BadPoint col_BadPoint dd_BadPoint k0_BadPoint k1_BadPoint k2_BadPoint k3_BadPoint k5_BadPoint "ValueError.__new__"))
    (sa_BadPoint : PySem.W.findIn K (.ref BadPoint_a) "__setattr__" = some (some (.builtin "object.__setattr__")))
    (ga_BadPoint : PySem.W.findIn K (.ref BadPoint_a) "__getattribute__" = some (some (.builtin "BaseException.__getattribute__")))
    (ca_BadPoint : PySem.W.findIn K (.ref BadPoint_a) "__class__" = some (some (.builtin "object.__class__")))
    (gg_BadPoint : PySem.W.findIn K (.ref BadPoint_a) "__getattr__" = some none)
    (ty_BadPoint : PySem.W.typeIn K (.ref BadPoint_a) = some (.type "type"))
    (kp_BadPoint : PySem.W.keepIn K (.ref BadPoint_a) = true)
    (n_BadPoint_index : PySem.W.findIn K (.ref BadPoint_a) "index" = some none)
    (g_BadMoment : PySem.W.nsIn K mainGlobals "BadMoment" = some (some (.ref BadMoment_a)))
    (xl_BadMoment : K.lookup BadMoment_a = some (excClassObj nm_BadMoment q_BadMoment BadMoment_a N_BadMoment bs_BadMoment [.ref LevelError_a, .type "ValueError", .type "Exception", .type "BaseException", .type "object"] true sn_BadMoment sub_BadMoment ab_BadMoment col_BadMoment dd_BadMoment k0_BadMoment k1_BadMoment k2_BadMoment k3_BadMoment k5_BadMoment "ValueError.__new__"))
    (sa_BadMoment : PySem.W.findIn K (.ref BadMoment_a) "__setattr__" = some (some (.builtin "object.__setattr__")))
    (ga_BadMoment : PySem.W.findIn K (.ref BadMoment_a) "__getattribute__" = some (some (.builtin "BaseException.__getattribute__")))
    (ca_BadMoment : PySem.W.findIn K (.ref BadMoment_a) "__class__" = some (some (.builtin "object.__class__")))
    (gg_BadMoment : PySem.W.findIn K (.ref BadMoment_a) "__getattr__" = some none)
    (ty_BadMoment : PySem.W.typeIn K (.ref BadMoment_a) = some (.type "type"))
    (kp_BadMoment : PySem.W.keepIn K (.ref BadMoment_a) = true)
    (n_BadMoment_moment : PySem.W.findIn K (.ref BadMoment_a) "moment" = some none)
    (g_BadLine : PySem.W.nsIn K mainGlobals "BadLine" = some (some (.ref BadLine_a)))
    (xl_BadLine : K.lookup BadLine_a = some (excClassObj nm_BadLine q_BadLine BadLine_a N_BadLine bs_BadLine [.ref LevelError_a, .type "ValueError", .type "Exception", .type "BaseException", .type "object"] true sn_BadLine sub_BadLine ab_BadLine col_BadLine dd_BadLine k0_BadLine k1_BadLine k2_BadLine k3_BadLine k5_BadLine "ValueError.__new__"))
    (sa_BadLine : PySem.W.findIn K (.ref BadLine_a) "__setattr__" = some (some (.builtin "object.__setattr__")))
    (ga_BadLine : PySem.W.findIn K (.ref BadLine_a) "__getattribute__" = some (some (.builtin "BaseException.__getattribute__")))
    (ca_BadLine : PySem.W.findIn K (.ref BadLine_a) "__class__" = some (some (.builtin "object.__class__")))
    (gg_BadLine : PySem.W.findIn K (.ref BadLine_a) "__getattr__" = some none)
    (ty_BadLine : PySem.W.typeIn K (.ref BadLine_a) = some (.type "type"))
    (kp_BadLine : PySem.W.keepIn K (.ref BadLine_a) = true)
    (n_BadLine_line : PySem.W.findIn K (.ref BadLine_a) "line" = some none)
    (g_Unfit : PySem.W.nsIn K mainGlobals "Unfit" = some (some (.ref Unfit_a)))
    (xl_Unfit : K.lookup Unfit_a = some (excClassObj nm_Unfit q_Unfit Unfit_a N_Unfit bs_Unfit [.ref LevelError_a, .type "ValueError", .type "Exception", .type "BaseException", .type "object"] true sn_Unfit sub_Unfit ab_Unfit col_Unfit dd_Unfit k0_Unfit k1_Unfit k2_Unfit k3_Unfit k5_Unfit "ValueError.__new__"))
    (sa_Unfit : PySem.W.findIn K (.ref Unfit_a) "__setattr__" = some (some (.builtin "object.__setattr__")))
    (ga_Unfit : PySem.W.findIn K (.ref Unfit_a) "__getattribute__" = some (some (.builtin "BaseException.__getattribute__")))
    (ca_Unfit : PySem.W.findIn K (.ref Unfit_a) "__class__" = some (some (.builtin "object.__class__")))
    (gg_Unfit : PySem.W.findIn K (.ref Unfit_a) "__getattr__" = some none)
    (ty_Unfit : PySem.W.typeIn K (.ref Unfit_a) = some (.type "type"))
    (kp_Unfit : PySem.W.keepIn K (.ref Unfit_a) = true)
    (ii_Unfit : PySem.W.findIn K (.ref Unfit_a) "__init__" = some (some (.ref LevelError_init_a)))
    (g_HasHistory : PySem.W.nsIn K mainGlobals "HasHistory" = some (some (.ref HasHistory_a)))
    (xl_HasHistory : K.lookup HasHistory_a = some (excClassObj nm_HasHistory q_HasHistory HasHistory_a N_HasHistory bs_HasHistory [.ref LevelError_a, .type "ValueError", .type "Exception", .type "BaseException", .type "object"] true sn_HasHistory sub_HasHistory ab_HasHistory col_HasHistory dd_HasHistory k0_HasHistory k1_HasHistory k2_HasHistory k3_HasHistory k5_HasHistory "ValueError.__new__"))
    (sa_HasHistory : PySem.W.findIn K (.ref HasHistory_a) "__setattr__" = some (some (.builtin "object.__setattr__")))
    (ga_HasHistory : PySem.W.findIn K (.ref HasHistory_a) "__getattribute__" = some (some (.builtin "BaseException.__getattribute__")))
    (ca_HasHistory : PySem.W.findIn K (.ref HasHistory_a) "__class__" = some (some (.builtin "object.__class__")))
    (gg_HasHistory : PySem.W.findIn K (.ref HasHistory_a) "__getattr__" = some none)
    (ty_HasHistory : PySem.W.typeIn K (.ref HasHistory_a) = some (.type "type"))
    (kp_HasHistory : PySem.W.keepIn K (.ref HasHistory_a) = true)
    (ii_HasHistory : PySem.W.findIn K (.ref HasHistory_a) "__init__" = some (some (.ref LevelError_init_a)))
    (g_UnknownLevel : PySem.W.nsIn K mainGlobals "UnknownLevel" = some (some (.ref UnknownLevel_a)))
    (xl_UnknownLevel : K.lookup UnknownLevel_a = some (excClassObj nm_UnknownLevel q_UnknownLevel UnknownLevel_a N_UnknownLevel bs_UnknownLevel [.ref LevelError_a, .type "ValueError", .type "Exception", .type "BaseException", .type "object"] true sn_UnknownLevel sub_UnknownLevel ab_UnknownLevel col_UnknownLevel dd_UnknownLevel k0_UnknownLevel k1_UnknownLevel k2_UnknownLevel k3_UnknownLevel k5_UnknownLevel "ValueError.__new__"))
    (sa_UnknownLevel : PySem.W.findIn K (.ref UnknownLevel_a) "__setattr__" = some (some (.builtin "object.__setattr__")))
    (ga_UnknownLevel : PySem.W.findIn K (.ref UnknownLevel_a) "__getattribute__" = some (some (.builtin "BaseException.__getattribute__")))
    (ca_UnknownLevel : PySem.W.findIn K (.ref UnknownLevel_a) "__class__" = some (some (.builtin "object.__class__")))
    (gg_UnknownLevel : PySem.W.findIn K (.ref UnknownLevel_a) "__getattr__" = some none)
    (ty_UnknownLevel : PySem.W.typeIn K (.ref UnknownLevel_a) = some (.type "type"))
    (kp_UnknownLevel : PySem.W.keepIn K (.ref UnknownLevel_a) = true)
    (n_UnknownLevel_name : PySem.W.findIn K (.ref UnknownLevel_a) "name" = some none)
    (g_BadHeight : PySem.W.nsIn K mainGlobals "BadHeight" = some (some (.ref BadHeight_a)))
    (xl_BadHeight : K.lookup BadHeight_a = some (excClassObj nm_BadHeight q_BadHeight BadHeight_a N_BadHeight bs_BadHeight [.ref LevelError_a, .type "ValueError", .type "Exception", .type "BaseException", .type "object"] true sn_BadHeight sub_BadHeight ab_BadHeight col_BadHeight dd_BadHeight k0_BadHeight k1_BadHeight k2_BadHeight k3_BadHeight k5_BadHeight "ValueError.__new__"))
    (sa_BadHeight : PySem.W.findIn K (.ref BadHeight_a) "__setattr__" = some (some (.builtin "object.__setattr__")))
    (ga_BadHeight : PySem.W.findIn K (.ref BadHeight_a) "__getattribute__" = some (some (.builtin "BaseException.__getattribute__")))
    (ca_BadHeight : PySem.W.findIn K (.ref BadHeight_a) "__class__" = some (some (.builtin "object.__class__")))
    (gg_BadHeight : PySem.W.findIn K (.ref BadHeight_a) "__getattr__" = some none)
    (ty_BadHeight : PySem.W.typeIn K (.ref BadHeight_a) = some (.type "type"))
    (kp_BadHeight : PySem.W.keepIn K (.ref BadHeight_a) = true)
    (n_BadHeight_height : PySem.W.findIn K (.ref BadHeight_a) "height" = some none)
    (eg1 : PySem.W.specialIn K (.builtin "object.__class__") "__get__" = some (some (.builtin "getset_descriptor.__get__")))
    (eg2 : PySem.W.takesIn K (.builtin "object.__class__") = some true)
    (ev : PySem.W.findCls K (.type "ValueError") (.type "type") "__init__" = some (.val (.builtin "ValueError.__init__")))
    (e_nd : List.Nodup [LevelError_a, BadPart_a, BadText_a, BadLevel_a, BadFact_a, BadPlace_a, BadPoint_a, BadMoment_a, BadLine_a, UnknownLevel_a, BadHeight_a, BadFrame_a, Unfit_a, HasHistory_a])
    (g_LevelError_init : PySem.W.findIn K (.ref LevelError_a) "__init__" = some (some (.ref LevelError_init_a)))
    (i_LevelError_init : PySem.W.isFn K (.ref LevelError_init_a) = true)
    (l_LevelError_init : K.lookup LevelError_init_a = some ⟨oc_LevelError_init, od_LevelError_init, .func (PySem.W.fnOf "__init__" "LevelError.__init__" (defArgs s_LevelError_init) (defBody s_LevelError_init) (defScope s_LevelError_init) .none kV_LevelError_init dc_LevelError_init pm_LevelError_init an_LevelError_init cd_LevelError_init ct_LevelError_init), sl_LevelError_init⟩)
    (c_LevelError_init : PySem.W.codeIn K cd_LevelError_init "LevelError.__init__" = true)
    (k_LevelError_init : PySem.W.keepIn K (.ref LevelError_init_a) = true)
    (g_BadPart_init : PySem.W.findIn K (.ref BadPart_a) "__init__" = some (some (.ref BadPart_init_a)))
    (i_BadPart_init : PySem.W.isFn K (.ref BadPart_init_a) = true)
    (l_BadPart_init : K.lookup BadPart_init_a = some ⟨oc_BadPart_init, od_BadPart_init, .func (PySem.W.fnOf "__init__" "BadPart.__init__" (defArgs s_BadPart_init) (defBody s_BadPart_init) (defScope s_BadPart_init) .none kV_BadPart_init dc_BadPart_init pm_BadPart_init an_BadPart_init cd_BadPart_init ct_BadPart_init), sl_BadPart_init⟩)
    (c_BadPart_init : PySem.W.codeIn K cd_BadPart_init "BadPart.__init__" = true)
    (k_BadPart_init : PySem.W.keepIn K (.ref BadPart_init_a) = true)
    (g_BadText_init : PySem.W.findIn K (.ref BadText_a) "__init__" = some (some (.ref BadText_init_a)))
    (i_BadText_init : PySem.W.isFn K (.ref BadText_init_a) = true)
    (l_BadText_init : K.lookup BadText_init_a = some ⟨oc_BadText_init, od_BadText_init, .func (PySem.W.fnOf "__init__" "BadText.__init__" (defArgs s_BadText_init) (defBody s_BadText_init) (defScope s_BadText_init) .none kV_BadText_init dc_BadText_init pm_BadText_init an_BadText_init cd_BadText_init ct_BadText_init), sl_BadText_init⟩)
    (c_BadText_init : PySem.W.codeIn K cd_BadText_init "BadText.__init__" = true)
    (k_BadText_init : PySem.W.keepIn K (.ref BadText_init_a) = true)
    (g_BadLevel_init : PySem.W.findIn K (.ref BadLevel_a) "__init__" = some (some (.ref BadLevel_init_a)))
    (i_BadLevel_init : PySem.W.isFn K (.ref BadLevel_init_a) = true)
    (l_BadLevel_init : K.lookup BadLevel_init_a = some ⟨oc_BadLevel_init, od_BadLevel_init, .func (PySem.W.fnOf "__init__" "BadLevel.__init__" (defArgs s_BadLevel_init) (defBody s_BadLevel_init) (defScope s_BadLevel_init) .none kV_BadLevel_init dc_BadLevel_init pm_BadLevel_init an_BadLevel_init cd_BadLevel_init ct_BadLevel_init), sl_BadLevel_init⟩)
    (c_BadLevel_init : PySem.W.codeIn K cd_BadLevel_init "BadLevel.__init__" = true)
    (k_BadLevel_init : PySem.W.keepIn K (.ref BadLevel_init_a) = true)
    (g_BadFact_init : PySem.W.findIn K (.ref BadFact_a) "__init__" = some (some (.ref BadFact_init_a)))
    (i_BadFact_init : PySem.W.isFn K (.ref BadFact_init_a) = true)
    (l_BadFact_init : K.lookup BadFact_init_a = some ⟨oc_BadFact_init, od_BadFact_init, .func (PySem.W.fnOf "__init__" "BadFact.__init__" (defArgs s_BadFact_init) (defBody s_BadFact_init) (defScope s_BadFact_init) .none kV_BadFact_init dc_BadFact_init pm_BadFact_init an_BadFact_init cd_BadFact_init ct_BadFact_init), sl_BadFact_init⟩)
    (c_BadFact_init : PySem.W.codeIn K cd_BadFact_init "BadFact.__init__" = true)
    (k_BadFact_init : PySem.W.keepIn K (.ref BadFact_init_a) = true)
    (g_BadPlace_init : PySem.W.findIn K (.ref BadPlace_a) "__init__" = some (some (.ref BadPlace_init_a)))
    (i_BadPlace_init : PySem.W.isFn K (.ref BadPlace_init_a) = true)
    (l_BadPlace_init : K.lookup BadPlace_init_a = some ⟨oc_BadPlace_init, od_BadPlace_init, .func (PySem.W.fnOf "__init__" "BadPlace.__init__" (defArgs s_BadPlace_init) (defBody s_BadPlace_init) (defScope s_BadPlace_init) .none kV_BadPlace_init dc_BadPlace_init pm_BadPlace_init an_BadPlace_init cd_BadPlace_init ct_BadPlace_init), sl_BadPlace_init⟩)
    (c_BadPlace_init : PySem.W.codeIn K cd_BadPlace_init "BadPlace.__init__" = true)
    (k_BadPlace_init : PySem.W.keepIn K (.ref BadPlace_init_a) = true)
    (g_BadPoint_init : PySem.W.findIn K (.ref BadPoint_a) "__init__" = some (some (.ref BadPoint_init_a)))
    (i_BadPoint_init : PySem.W.isFn K (.ref BadPoint_init_a) = true)
    (l_BadPoint_init : K.lookup BadPoint_init_a = some ⟨oc_BadPoint_init, od_BadPoint_init, .func (PySem.W.fnOf "__init__" "BadPoint.__init__" (defArgs s_BadPoint_init) (defBody s_BadPoint_init) (defScope s_BadPoint_init) .none kV_BadPoint_init dc_BadPoint_init pm_BadPoint_init an_BadPoint_init cd_BadPoint_init ct_BadPoint_init), sl_BadPoint_init⟩)
    (c_BadPoint_init : PySem.W.codeIn K cd_BadPoint_init "BadPoint.__init__" = true)
    (k_BadPoint_init : PySem.W.keepIn K (.ref BadPoint_init_a) = true)
    (g_BadMoment_init : PySem.W.findIn K (.ref BadMoment_a) "__init__" = some (some (.ref BadMoment_init_a)))
    (i_BadMoment_init : PySem.W.isFn K (.ref BadMoment_init_a) = true)
    (l_BadMoment_init : K.lookup BadMoment_init_a = some ⟨oc_BadMoment_init, od_BadMoment_init, .func (PySem.W.fnOf "__init__" "BadMoment.__init__" (defArgs s_BadMoment_init) (defBody s_BadMoment_init) (defScope s_BadMoment_init) .none kV_BadMoment_init dc_BadMoment_init pm_BadMoment_init an_BadMoment_init cd_BadMoment_init ct_BadMoment_init), sl_BadMoment_init⟩)
    (c_BadMoment_init : PySem.W.codeIn K cd_BadMoment_init "BadMoment.__init__" = true)
    (k_BadMoment_init : PySem.W.keepIn K (.ref BadMoment_init_a) = true)
    (g_BadLine_init : PySem.W.findIn K (.ref BadLine_a) "__init__" = some (some (.ref BadLine_init_a)))
    (i_BadLine_init : PySem.W.isFn K (.ref BadLine_init_a) = true)
    (l_BadLine_init : K.lookup BadLine_init_a = some ⟨oc_BadLine_init, od_BadLine_init, .func (PySem.W.fnOf "__init__" "BadLine.__init__" (defArgs s_BadLine_init) (defBody s_BadLine_init) (defScope s_BadLine_init) .none kV_BadLine_init dc_BadLine_init pm_BadLine_init an_BadLine_init cd_BadLine_init ct_BadLine_init), sl_BadLine_init⟩)
    (c_BadLine_init : PySem.W.codeIn K cd_BadLine_init "BadLine.__init__" = true)
    (k_BadLine_init : PySem.W.keepIn K (.ref BadLine_init_a) = true)
    (g_UnknownLevel_init : PySem.W.findIn K (.ref UnknownLevel_a) "__init__" = some (some (.ref UnknownLevel_init_a)))
    (i_UnknownLevel_init : PySem.W.isFn K (.ref UnknownLevel_init_a) = true)
    (l_UnknownLevel_init : K.lookup UnknownLevel_init_a = some ⟨oc_UnknownLevel_init, od_UnknownLevel_init, .func (PySem.W.fnOf "__init__" "UnknownLevel.__init__" (defArgs s_UnknownLevel_init) (defBody s_UnknownLevel_init) (defScope s_UnknownLevel_init) .none kV_UnknownLevel_init dc_UnknownLevel_init pm_UnknownLevel_init an_UnknownLevel_init cd_UnknownLevel_init ct_UnknownLevel_init), sl_UnknownLevel_init⟩)
    (c_UnknownLevel_init : PySem.W.codeIn K cd_UnknownLevel_init "UnknownLevel.__init__" = true)
    (k_UnknownLevel_init : PySem.W.keepIn K (.ref UnknownLevel_init_a) = true)
    (g_BadHeight_init : PySem.W.findIn K (.ref BadHeight_a) "__init__" = some (some (.ref BadHeight_init_a)))
    (i_BadHeight_init : PySem.W.isFn K (.ref BadHeight_init_a) = true)
    (l_BadHeight_init : K.lookup BadHeight_init_a = some ⟨oc_BadHeight_init, od_BadHeight_init, .func (PySem.W.fnOf "__init__" "BadHeight.__init__" (defArgs s_BadHeight_init) (defBody s_BadHeight_init) (defScope s_BadHeight_init) .none kV_BadHeight_init dc_BadHeight_init pm_BadHeight_init an_BadHeight_init cd_BadHeight_init ct_BadHeight_init), sl_BadHeight_init⟩)
    (c_BadHeight_init : PySem.W.codeIn K cd_BadHeight_init "BadHeight.__init__" = true)
    (k_BadHeight_init : PySem.W.keepIn K (.ref BadHeight_init_a) = true)
    (g_law_fresh : PySem.W.nsIn K mainGlobals "_law_fresh" = some (some (.ref law_fresh_a)))
    (l_law_fresh : K.lookup law_fresh_a = some ⟨oc_law_fresh, od_law_fresh, .func (PySem.W.fnOf "_law_fresh" "_law_fresh" (defArgs s_law_fresh) (defBody s_law_fresh) (defScope s_law_fresh) .none kV_law_fresh dc_law_fresh pm_law_fresh an_law_fresh cd_law_fresh ct_law_fresh), sl_law_fresh⟩)
    (c_law_fresh : PySem.W.codeIn K cd_law_fresh "_law_fresh" = true)
    (k_law_fresh : PySem.W.keepIn K (.ref law_fresh_a) = true)
    (g_law_fill : PySem.W.nsIn K mainGlobals "_law_fill" = some (some (.ref law_fill_a)))
    (l_law_fill : K.lookup law_fill_a = some ⟨oc_law_fill, od_law_fill, .func (PySem.W.fnOf "_law_fill" "_law_fill" (defArgs s_law_fill) (defBody s_law_fill) (defScope s_law_fill) .none kV_law_fill dc_law_fill pm_law_fill an_law_fill cd_law_fill ct_law_fill), sl_law_fill⟩)
    (c_law_fill : PySem.W.codeIn K cd_law_fill "_law_fill" = true)
    (k_law_fill : PySem.W.keepIn K (.ref law_fill_a) = true)
    (g_law_take : PySem.W.nsIn K mainGlobals "_law_take" = some (some (.ref law_take_a)))
    (l_law_take : K.lookup law_take_a = some ⟨oc_law_take, od_law_take, .func (PySem.W.fnOf "_law_take" "_law_take" (defArgs s_law_take) (defBody s_law_take) (defScope s_law_take) .none kV_law_take dc_law_take pm_law_take an_law_take cd_law_take ct_law_take), sl_law_take⟩)
    (c_law_take : PySem.W.codeIn K cd_law_take "_law_take" = true)
    (k_law_take : PySem.W.keepIn K (.ref law_take_a) = true)
    (g_law_one : PySem.W.nsIn K mainGlobals "_law_one" = some (some (.ref law_one_a)))
    (l_law_one : K.lookup law_one_a = some ⟨oc_law_one, od_law_one, .func (PySem.W.fnOf "_law_one" "_law_one" (defArgs s_law_one) (defBody s_law_one) (defScope s_law_one) .none kV_law_one dc_law_one pm_law_one an_law_one cd_law_one ct_law_one), sl_law_one⟩)
    (c_law_one : PySem.W.codeIn K cd_law_one "_law_one" = true)
    (k_law_one : PySem.W.keepIn K (.ref law_one_a) = true)
    (g_law_same : PySem.W.nsIn K mainGlobals "_law_same" = some (some (.ref law_same_a)))
    (l_law_same : K.lookup law_same_a = some ⟨oc_law_same, od_law_same, .func (PySem.W.fnOf "_law_same" "_law_same" (defArgs s_law_same) (defBody s_law_same) (defScope s_law_same) .none kV_law_same dc_law_same pm_law_same an_law_same cd_law_same ct_law_same), sl_law_same⟩)
    (c_law_same : PySem.W.codeIn K cd_law_same "_law_same" = true)
    (k_law_same : PySem.W.keepIn K (.ref law_same_a) = true)
    (g_law_with_one : PySem.W.nsIn K mainGlobals "_law_with_one" = some (some (.ref law_with_one_a)))
    (l_law_with_one : K.lookup law_with_one_a = some ⟨oc_law_with_one, od_law_with_one, .func (PySem.W.fnOf "_law_with_one" "_law_with_one" (defArgs s_law_with_one) (defBody s_law_with_one) (defScope s_law_with_one) .none kV_law_with_one dc_law_with_one pm_law_with_one an_law_with_one cd_law_with_one ct_law_with_one), sl_law_with_one⟩)
    (c_law_with_one : PySem.W.codeIn K cd_law_with_one "_law_with_one" = true)
    (k_law_with_one : PySem.W.keepIn K (.ref law_with_one_a) = true)
    (g_law_by_place : PySem.W.nsIn K mainGlobals "_law_by_place" = some (some (.ref law_by_place_a)))
    (l_law_by_place : K.lookup law_by_place_a = some ⟨oc_law_by_place, od_law_by_place, .func (PySem.W.fnOf "_law_by_place" "_law_by_place" (defArgs s_law_by_place) (defBody s_law_by_place) (defScope s_law_by_place) .none kV_law_by_place dc_law_by_place pm_law_by_place an_law_by_place cd_law_by_place ct_law_by_place), sl_law_by_place⟩)
    (c_law_by_place : PySem.W.codeIn K cd_law_by_place "_law_by_place" = true)
    (k_law_by_place : PySem.W.keepIn K (.ref law_by_place_a) = true)
    (g_law_held : PySem.W.nsIn K mainGlobals "_law_held" = some (some (.ref law_held_a)))
    (l_law_held : K.lookup law_held_a = some ⟨oc_law_held, od_law_held, .func (PySem.W.fnOf "_law_held" "_law_held" (defArgs s_law_held) (defBody s_law_held) (defScope s_law_held) .none kV_law_held dc_law_held pm_law_held an_law_held cd_law_held ct_law_held), sl_law_held⟩)
    (c_law_held : PySem.W.codeIn K cd_law_held "_law_held" = true)
    (k_law_held : PySem.W.keepIn K (.ref law_held_a) = true)
    (g_law_classes : PySem.W.nsIn K mainGlobals "_law_classes" = some (some (.ref law_classes_a)))
    (l_law_classes : K.lookup law_classes_a = some ⟨oc_law_classes, od_law_classes, .func (PySem.W.fnOf "_law_classes" "_law_classes" (defArgs s_law_classes) (defBody s_law_classes) (defScope s_law_classes) .none kV_law_classes dc_law_classes pm_law_classes an_law_classes cd_law_classes ct_law_classes), sl_law_classes⟩)
    (c_law_classes : PySem.W.codeIn K cd_law_classes "_law_classes" = true)
    (k_law_classes : PySem.W.keepIn K (.ref law_classes_a) = true)
    (g_law : PySem.W.nsIn K mainGlobals "law" = some (some (.ref law_a)))
    (l_law : K.lookup law_a = some ⟨oc_law, od_law, .func (PySem.W.fnOf "law" "law" (defArgs s_law) (defBody s_law) (defScope s_law) .none kV_law dc_law pm_law an_law cd_law ct_law), sl_law⟩)
    (c_law : PySem.W.codeIn K cd_law "law" = true)
    (k_law : PySem.W.keepIn K (.ref law_a) = true)
    (hz_ValueError : PySem.W.nsIn K mainGlobals "ValueError" = some none)
    (hz_all : PySem.W.nsIn K mainGlobals "all" = some none)
    (hz_bool : PySem.W.nsIn K mainGlobals "bool" = some none)
    (hz_enumerate : PySem.W.nsIn K mainGlobals "enumerate" = some none)
    (hz_int : PySem.W.nsIn K mainGlobals "int" = some none)
    (hz_isinstance : PySem.W.nsIn K mainGlobals "isinstance" = some none)
    (hz_len : PySem.W.nsIn K mainGlobals "len" = some none)
    (hz_list : PySem.W.nsIn K mainGlobals "list" = some none)
    (hz_range : PySem.W.nsIn K mainGlobals "range" = some none)
    (hz_tuple : PySem.W.nsIn K mainGlobals "tuple" = some none)
    (hz_zip : PySem.W.nsIn K mainGlobals "zip" = some none)
    : ∃ fd : FuncData, (∀ (s : Shared) (v : Value), BindsTo s fd ⟨[v], []⟩ [("_law_script", v)]) ∧ ∀ base : Heap, K.In base → base.Ns mainGlobals mg → FnOk l.prog w K mg base CX0 14 fa fd ["_law_script"] (spLaw K) := by
  have e := hfa.symm.trans (PySem.W.mg_of X G g_law)
  cases e
  let T : Tx K mg := {
    LevelError_a := LevelError_a
    LevelError_m := PySem.W.mg_of X G g_LevelError
    LevelError_e := ⟨⟨⟨nm_LevelError, q_LevelError, N_LevelError, bs_LevelError, sn_LevelError, sub_LevelError, ab_LevelError, col_LevelError, dd_LevelError, k0_LevelError, k1_LevelError, k2_LevelError, k3_LevelError, k5_LevelError⟩, [], .inl ⟨rfl, rfl⟩, xl_LevelError⟩, sa_LevelError, ga_LevelError, gg_LevelError, ca_LevelError, ty_LevelError, kp_LevelError⟩
    BadPart_a := BadPart_a
    BadPart_m := PySem.W.mg_of X G g_BadPart
    BadPart_e := ⟨⟨⟨nm_BadPart, q_BadPart, N_BadPart, bs_BadPart, sn_BadPart, sub_BadPart, ab_BadPart, col_BadPart, dd_BadPart, k0_BadPart, k1_BadPart, k2_BadPart, k3_BadPart, k5_BadPart⟩, [.ref LevelError_a], .inr rfl, xl_BadPart⟩, sa_BadPart, ga_BadPart, gg_BadPart, ca_BadPart, ty_BadPart, kp_BadPart⟩
    BadPart_n_part := n_BadPart_part
    BadText_a := BadText_a
    BadText_m := PySem.W.mg_of X G g_BadText
    BadText_e := ⟨⟨⟨nm_BadText, q_BadText, N_BadText, bs_BadText, sn_BadText, sub_BadText, ab_BadText, col_BadText, dd_BadText, k0_BadText, k1_BadText, k2_BadText, k3_BadText, k5_BadText⟩, [.ref LevelError_a], .inr rfl, xl_BadText⟩, sa_BadText, ga_BadText, gg_BadText, ca_BadText, ty_BadText, kp_BadText⟩
    BadText_n_line := n_BadText_line
    BadFrame_a := BadFrame_a
    BadFrame_m := PySem.W.mg_of X G g_BadFrame
    BadFrame_e := ⟨⟨⟨nm_BadFrame, q_BadFrame, N_BadFrame, bs_BadFrame, sn_BadFrame, sub_BadFrame, ab_BadFrame, col_BadFrame, dd_BadFrame, k0_BadFrame, k1_BadFrame, k2_BadFrame, k3_BadFrame, k5_BadFrame⟩, [.ref LevelError_a], .inr rfl, xl_BadFrame⟩, sa_BadFrame, ga_BadFrame, gg_BadFrame, ca_BadFrame, ty_BadFrame, kp_BadFrame⟩
    BadFrame_i := ii_BadFrame
    BadLevel_a := BadLevel_a
    BadLevel_m := PySem.W.mg_of X G g_BadLevel
    BadLevel_e := ⟨⟨⟨nm_BadLevel, q_BadLevel, N_BadLevel, bs_BadLevel, sn_BadLevel, sub_BadLevel, ab_BadLevel, col_BadLevel, dd_BadLevel, k0_BadLevel, k1_BadLevel, k2_BadLevel, k3_BadLevel, k5_BadLevel⟩, [.ref LevelError_a], .inr rfl, xl_BadLevel⟩, sa_BadLevel, ga_BadLevel, gg_BadLevel, ca_BadLevel, ty_BadLevel, kp_BadLevel⟩
    BadLevel_n_index := n_BadLevel_index
    BadFact_a := BadFact_a
    BadFact_m := PySem.W.mg_of X G g_BadFact
    BadFact_e := ⟨⟨⟨nm_BadFact, q_BadFact, N_BadFact, bs_BadFact, sn_BadFact, sub_BadFact, ab_BadFact, col_BadFact, dd_BadFact, k0_BadFact, k1_BadFact, k2_BadFact, k3_BadFact, k5_BadFact⟩, [.ref LevelError_a], .inr rfl, xl_BadFact⟩, sa_BadFact, ga_BadFact, gg_BadFact, ca_BadFact, ty_BadFact, kp_BadFact⟩
    BadFact_n_index := n_BadFact_index
    BadPlace_a := BadPlace_a
    BadPlace_m := PySem.W.mg_of X G g_BadPlace
    BadPlace_e := ⟨⟨⟨nm_BadPlace, q_BadPlace, N_BadPlace, bs_BadPlace, sn_BadPlace, sub_BadPlace, ab_BadPlace, col_BadPlace, dd_BadPlace, k0_BadPlace, k1_BadPlace, k2_BadPlace, k3_BadPlace, k5_BadPlace⟩, [.ref LevelError_a], .inr rfl, xl_BadPlace⟩, sa_BadPlace, ga_BadPlace, gg_BadPlace, ca_BadPlace, ty_BadPlace, kp_BadPlace⟩
    BadPlace_n_index := n_BadPlace_index
    BadPoint_a := BadPoint_a
    BadPoint_m := PySem.W.mg_of X G g_BadPoint
    BadPoint_e := ⟨⟨⟨nm_BadPoint, q_BadPoint, N_BadPoint, bs_BadPoint, sn_BadPoint, sub_BadPoint, ab_BadPoint, col_BadPoint, dd_BadPoint, k0_BadPoint, k1_BadPoint, k2_BadPoint, k3_BadPoint, k5_BadPoint⟩, [.ref LevelError_a], .inr rfl, xl_BadPoint⟩, sa_BadPoint, ga_BadPoint, gg_BadPoint, ca_BadPoint, ty_BadPoint, kp_BadPoint⟩
    BadPoint_n_index := n_BadPoint_index
    BadMoment_a := BadMoment_a
    BadMoment_m := PySem.W.mg_of X G g_BadMoment
    BadMoment_e := ⟨⟨⟨nm_BadMoment, q_BadMoment, N_BadMoment, bs_BadMoment, sn_BadMoment, sub_BadMoment, ab_BadMoment, col_BadMoment, dd_BadMoment, k0_BadMoment, k1_BadMoment, k2_BadMoment, k3_BadMoment, k5_BadMoment⟩, [.ref LevelError_a], .inr rfl, xl_BadMoment⟩, sa_BadMoment, ga_BadMoment, gg_BadMoment, ca_BadMoment, ty_BadMoment, kp_BadMoment⟩
    BadMoment_n_moment := n_BadMoment_moment
    BadLine_a := BadLine_a
    BadLine_m := PySem.W.mg_of X G g_BadLine
    BadLine_e := ⟨⟨⟨nm_BadLine, q_BadLine, N_BadLine, bs_BadLine, sn_BadLine, sub_BadLine, ab_BadLine, col_BadLine, dd_BadLine, k0_BadLine, k1_BadLine, k2_BadLine, k3_BadLine, k5_BadLine⟩, [.ref LevelError_a], .inr rfl, xl_BadLine⟩, sa_BadLine, ga_BadLine, gg_BadLine, ca_BadLine, ty_BadLine, kp_BadLine⟩
    BadLine_n_line := n_BadLine_line
    Unfit_a := Unfit_a
    Unfit_m := PySem.W.mg_of X G g_Unfit
    Unfit_e := ⟨⟨⟨nm_Unfit, q_Unfit, N_Unfit, bs_Unfit, sn_Unfit, sub_Unfit, ab_Unfit, col_Unfit, dd_Unfit, k0_Unfit, k1_Unfit, k2_Unfit, k3_Unfit, k5_Unfit⟩, [.ref LevelError_a], .inr rfl, xl_Unfit⟩, sa_Unfit, ga_Unfit, gg_Unfit, ca_Unfit, ty_Unfit, kp_Unfit⟩
    Unfit_i := ii_Unfit
    HasHistory_a := HasHistory_a
    HasHistory_m := PySem.W.mg_of X G g_HasHistory
    HasHistory_e := ⟨⟨⟨nm_HasHistory, q_HasHistory, N_HasHistory, bs_HasHistory, sn_HasHistory, sub_HasHistory, ab_HasHistory, col_HasHistory, dd_HasHistory, k0_HasHistory, k1_HasHistory, k2_HasHistory, k3_HasHistory, k5_HasHistory⟩, [.ref LevelError_a], .inr rfl, xl_HasHistory⟩, sa_HasHistory, ga_HasHistory, gg_HasHistory, ca_HasHistory, ty_HasHistory, kp_HasHistory⟩
    HasHistory_i := ii_HasHistory
    UnknownLevel_a := UnknownLevel_a
    UnknownLevel_m := PySem.W.mg_of X G g_UnknownLevel
    UnknownLevel_e := ⟨⟨⟨nm_UnknownLevel, q_UnknownLevel, N_UnknownLevel, bs_UnknownLevel, sn_UnknownLevel, sub_UnknownLevel, ab_UnknownLevel, col_UnknownLevel, dd_UnknownLevel, k0_UnknownLevel, k1_UnknownLevel, k2_UnknownLevel, k3_UnknownLevel, k5_UnknownLevel⟩, [.ref LevelError_a], .inr rfl, xl_UnknownLevel⟩, sa_UnknownLevel, ga_UnknownLevel, gg_UnknownLevel, ca_UnknownLevel, ty_UnknownLevel, kp_UnknownLevel⟩
    UnknownLevel_n_name := n_UnknownLevel_name
    BadHeight_a := BadHeight_a
    BadHeight_m := PySem.W.mg_of X G g_BadHeight
    BadHeight_e := ⟨⟨⟨nm_BadHeight, q_BadHeight, N_BadHeight, bs_BadHeight, sn_BadHeight, sub_BadHeight, ab_BadHeight, col_BadHeight, dd_BadHeight, k0_BadHeight, k1_BadHeight, k2_BadHeight, k3_BadHeight, k5_BadHeight⟩, [.ref LevelError_a], .inr rfl, xl_BadHeight⟩, sa_BadHeight, ga_BadHeight, gg_BadHeight, ca_BadHeight, ty_BadHeight, kp_BadHeight⟩
    BadHeight_n_height := n_BadHeight_height
    E_g := ⟨eg1, eg2⟩
    E_nd := e_nd
    E_v := ev
    LevelError_init_a := LevelError_init_a
    LevelError_init_d := _
    LevelError_init_F := fun_mk (st := s_LevelError_init) l_LevelError_init c_LevelError_init k_LevelError_init
    LevelError_init_b := (fun_mk (st := s_LevelError_init) l_LevelError_init c_LevelError_init k_LevelError_init).binds (ps := ["self"]) fun _ _ _ _ _ _ us hl => match us, hl with | [_], _ => rfl
    LevelError_init_M := ⟨g_LevelError_init, i_LevelError_init, k_LevelError_init⟩
    BadPart_init_a := BadPart_init_a
    BadPart_init_d := _
    BadPart_init_F := fun_mk (st := s_BadPart_init) l_BadPart_init c_BadPart_init k_BadPart_init
    BadPart_init_b := (fun_mk (st := s_BadPart_init) l_BadPart_init c_BadPart_init k_BadPart_init).binds (ps := ["self", "part"]) fun _ _ _ _ _ _ us hl => match us, hl with | [_, _], _ => rfl
    BadPart_init_M := ⟨g_BadPart_init, i_BadPart_init, k_BadPart_init⟩
    BadPart_init_kb := kw_binds (fun_mk (st := s_BadPart_init) l_BadPart_init c_BadPart_init k_BadPart_init) fun _ _ _ _ _ _ _ _ => rfl
    BadText_init_a := BadText_init_a
    BadText_init_d := _
    BadText_init_F := fun_mk (st := s_BadText_init) l_BadText_init c_BadText_init k_BadText_init
    BadText_init_b := (fun_mk (st := s_BadText_init) l_BadText_init c_BadText_init k_BadText_init).binds (ps := ["self", "line"]) fun _ _ _ _ _ _ us hl => match us, hl with | [_, _], _ => rfl
    BadText_init_M := ⟨g_BadText_init, i_BadText_init, k_BadText_init⟩
    BadText_init_kb := kw_binds (fun_mk (st := s_BadText_init) l_BadText_init c_BadText_init k_BadText_init) fun _ _ _ _ _ _ _ _ => rfl
    BadLevel_init_a := BadLevel_init_a
    BadLevel_init_d := _
    BadLevel_init_F := fun_mk (st := s_BadLevel_init) l_BadLevel_init c_BadLevel_init k_BadLevel_init
    BadLevel_init_b := (fun_mk (st := s_BadLevel_init) l_BadLevel_init c_BadLevel_init k_BadLevel_init).binds (ps := ["self", "index"]) fun _ _ _ _ _ _ us hl => match us, hl with | [_, _], _ => rfl
    BadLevel_init_M := ⟨g_BadLevel_init, i_BadLevel_init, k_BadLevel_init⟩
    BadLevel_init_kb := kw_binds (fun_mk (st := s_BadLevel_init) l_BadLevel_init c_BadLevel_init k_BadLevel_init) fun _ _ _ _ _ _ _ _ => rfl
    BadFact_init_a := BadFact_init_a
    BadFact_init_d := _
    BadFact_init_F := fun_mk (st := s_BadFact_init) l_BadFact_init c_BadFact_init k_BadFact_init
    BadFact_init_b := (fun_mk (st := s_BadFact_init) l_BadFact_init c_BadFact_init k_BadFact_init).binds (ps := ["self", "index"]) fun _ _ _ _ _ _ us hl => match us, hl with | [_, _], _ => rfl
    BadFact_init_M := ⟨g_BadFact_init, i_BadFact_init, k_BadFact_init⟩
    BadFact_init_kb := kw_binds (fun_mk (st := s_BadFact_init) l_BadFact_init c_BadFact_init k_BadFact_init) fun _ _ _ _ _ _ _ _ => rfl
    BadPlace_init_a := BadPlace_init_a
    BadPlace_init_d := _
    BadPlace_init_F := fun_mk (st := s_BadPlace_init) l_BadPlace_init c_BadPlace_init k_BadPlace_init
    BadPlace_init_b := (fun_mk (st := s_BadPlace_init) l_BadPlace_init c_BadPlace_init k_BadPlace_init).binds (ps := ["self", "index"]) fun _ _ _ _ _ _ us hl => match us, hl with | [_, _], _ => rfl
    BadPlace_init_M := ⟨g_BadPlace_init, i_BadPlace_init, k_BadPlace_init⟩
    BadPlace_init_kb := kw_binds (fun_mk (st := s_BadPlace_init) l_BadPlace_init c_BadPlace_init k_BadPlace_init) fun _ _ _ _ _ _ _ _ => rfl
    BadPoint_init_a := BadPoint_init_a
    BadPoint_init_d := _
    BadPoint_init_F := fun_mk (st := s_BadPoint_init) l_BadPoint_init c_BadPoint_init k_BadPoint_init
    BadPoint_init_b := (fun_mk (st := s_BadPoint_init) l_BadPoint_init c_BadPoint_init k_BadPoint_init).binds (ps := ["self", "index"]) fun _ _ _ _ _ _ us hl => match us, hl with | [_, _], _ => rfl
    BadPoint_init_M := ⟨g_BadPoint_init, i_BadPoint_init, k_BadPoint_init⟩
    BadPoint_init_kb := kw_binds (fun_mk (st := s_BadPoint_init) l_BadPoint_init c_BadPoint_init k_BadPoint_init) fun _ _ _ _ _ _ _ _ => rfl
    BadMoment_init_a := BadMoment_init_a
    BadMoment_init_d := _
    BadMoment_init_F := fun_mk (st := s_BadMoment_init) l_BadMoment_init c_BadMoment_init k_BadMoment_init
    BadMoment_init_b := (fun_mk (st := s_BadMoment_init) l_BadMoment_init c_BadMoment_init k_BadMoment_init).binds (ps := ["self", "moment"]) fun _ _ _ _ _ _ us hl => match us, hl with | [_, _], _ => rfl
    BadMoment_init_M := ⟨g_BadMoment_init, i_BadMoment_init, k_BadMoment_init⟩
    BadMoment_init_kb := kw_binds (fun_mk (st := s_BadMoment_init) l_BadMoment_init c_BadMoment_init k_BadMoment_init) fun _ _ _ _ _ _ _ _ => rfl
    BadLine_init_a := BadLine_init_a
    BadLine_init_d := _
    BadLine_init_F := fun_mk (st := s_BadLine_init) l_BadLine_init c_BadLine_init k_BadLine_init
    BadLine_init_b := (fun_mk (st := s_BadLine_init) l_BadLine_init c_BadLine_init k_BadLine_init).binds (ps := ["self", "line"]) fun _ _ _ _ _ _ us hl => match us, hl with | [_, _], _ => rfl
    BadLine_init_M := ⟨g_BadLine_init, i_BadLine_init, k_BadLine_init⟩
    BadLine_init_kb := kw_binds (fun_mk (st := s_BadLine_init) l_BadLine_init c_BadLine_init k_BadLine_init) fun _ _ _ _ _ _ _ _ => rfl
    UnknownLevel_init_a := UnknownLevel_init_a
    UnknownLevel_init_d := _
    UnknownLevel_init_F := fun_mk (st := s_UnknownLevel_init) l_UnknownLevel_init c_UnknownLevel_init k_UnknownLevel_init
    UnknownLevel_init_b := (fun_mk (st := s_UnknownLevel_init) l_UnknownLevel_init c_UnknownLevel_init k_UnknownLevel_init).binds (ps := ["self", "name"]) fun _ _ _ _ _ _ us hl => match us, hl with | [_, _], _ => rfl
    UnknownLevel_init_M := ⟨g_UnknownLevel_init, i_UnknownLevel_init, k_UnknownLevel_init⟩
    UnknownLevel_init_kb := kw_binds (fun_mk (st := s_UnknownLevel_init) l_UnknownLevel_init c_UnknownLevel_init k_UnknownLevel_init) fun _ _ _ _ _ _ _ _ => rfl
    BadHeight_init_a := BadHeight_init_a
    BadHeight_init_d := _
    BadHeight_init_F := fun_mk (st := s_BadHeight_init) l_BadHeight_init c_BadHeight_init k_BadHeight_init
    BadHeight_init_b := (fun_mk (st := s_BadHeight_init) l_BadHeight_init c_BadHeight_init k_BadHeight_init).binds (ps := ["self", "height"]) fun _ _ _ _ _ _ us hl => match us, hl with | [_, _], _ => rfl
    BadHeight_init_M := ⟨g_BadHeight_init, i_BadHeight_init, k_BadHeight_init⟩
    BadHeight_init_kb := kw_binds (fun_mk (st := s_BadHeight_init) l_BadHeight_init c_BadHeight_init k_BadHeight_init) fun _ _ _ _ _ _ _ _ => rfl
    law_fresh_a := law_fresh_a
    law_fresh_d := _
    law_fresh_F := fun_mk (st := s_law_fresh) l_law_fresh c_law_fresh k_law_fresh
    law_fresh_b := (fun_mk (st := s_law_fresh) l_law_fresh c_law_fresh k_law_fresh).binds (ps := ["_law_script"]) fun _ _ _ _ _ _ us hl => match us, hl with | [_], _ => rfl
    law_fresh_m := PySem.W.mg_of X G g_law_fresh
    law_fill_a := law_fill_a
    law_fill_d := _
    law_fill_F := fun_mk (st := s_law_fill) l_law_fill c_law_fill k_law_fill
    law_fill_b := (fun_mk (st := s_law_fill) l_law_fill c_law_fill k_law_fill).binds (ps := ["_law_state"]) fun _ _ _ _ _ _ us hl => match us, hl with | [_], _ => rfl
    law_fill_m := PySem.W.mg_of X G g_law_fill
    law_take_a := law_take_a
    law_take_d := _
    law_take_F := fun_mk (st := s_law_take) l_law_take c_law_take k_law_take
    law_take_b := (fun_mk (st := s_law_take) l_law_take c_law_take k_law_take).binds (ps := ["_law_state", "_law_many"]) fun _ _ _ _ _ _ us hl => match us, hl with | [_, _], _ => rfl
    law_take_m := PySem.W.mg_of X G g_law_take
    law_one_a := law_one_a
    law_one_d := _
    law_one_F := fun_mk (st := s_law_one) l_law_one c_law_one k_law_one
    law_one_b := (fun_mk (st := s_law_one) l_law_one c_law_one k_law_one).binds (ps := ["_law_state", "_law_things"]) fun _ _ _ _ _ _ us hl => match us, hl with | [_, _], _ => rfl
    law_one_m := PySem.W.mg_of X G g_law_one
    law_same_a := law_same_a
    law_same_d := _
    law_same_F := fun_mk (st := s_law_same) l_law_same c_law_same k_law_same
    law_same_b := (fun_mk (st := s_law_same) l_law_same c_law_same k_law_same).binds (ps := ["_law_found", "_law_due"]) fun _ _ _ _ _ _ us hl => match us, hl with | [_, _], _ => rfl
    law_same_m := PySem.W.mg_of X G g_law_same
    law_with_one_a := law_with_one_a
    law_with_one_d := _
    law_with_one_F := fun_mk (st := s_law_with_one) l_law_with_one c_law_with_one k_law_with_one
    law_with_one_b := (fun_mk (st := s_law_with_one) l_law_with_one c_law_with_one k_law_with_one).binds (ps := ["_law_x"]) fun _ _ _ _ _ _ us hl => match us, hl with | [_], _ => rfl
    law_with_one_m := PySem.W.mg_of X G g_law_with_one
    law_by_place_a := law_by_place_a
    law_by_place_d := _
    law_by_place_F := fun_mk (st := s_law_by_place) l_law_by_place c_law_by_place k_law_by_place
    law_by_place_b := (fun_mk (st := s_law_by_place) l_law_by_place c_law_by_place k_law_by_place).binds (ps := ["_law_x"]) fun _ _ _ _ _ _ us hl => match us, hl with | [_], _ => rfl
    law_by_place_m := PySem.W.mg_of X G g_law_by_place
    law_held_a := law_held_a
    law_held_d := _
    law_held_F := fun_mk (st := s_law_held) l_law_held c_law_held k_law_held
    law_held_b := (fun_mk (st := s_law_held) l_law_held c_law_held k_law_held).binds (ps := ["_law_made"]) fun _ _ _ _ _ _ us hl => match us, hl with | [_], _ => rfl
    law_held_m := PySem.W.mg_of X G g_law_held
    law_classes_a := law_classes_a
    law_classes_d := _
    law_classes_F := fun_mk (st := s_law_classes) l_law_classes c_law_classes k_law_classes
    law_classes_b := (fun_mk (st := s_law_classes) l_law_classes c_law_classes k_law_classes).binds (ps := ["_law_e"]) fun _ _ _ _ _ _ us hl => match us, hl with | [_], _ => rfl
    law_classes_m := PySem.W.mg_of X G g_law_classes
    law_a := fa
    law_d := _
    law_F := fun_mk (st := s_law) l_law c_law k_law
    law_b := (fun_mk (st := s_law) l_law c_law k_law).binds (ps := ["_law_script"]) fun _ _ _ _ _ _ us hl => match us, hl with | [_], _ => rfl
    law_m := PySem.W.mg_of X G g_law
    z_ValueError := PySem.W.mg_none_of X G hz_ValueError
    z_all := PySem.W.mg_none_of X G hz_all
    z_bool := PySem.W.mg_none_of X G hz_bool
    z_enumerate := PySem.W.mg_none_of X G hz_enumerate
    z_int := PySem.W.mg_none_of X G hz_int
    z_isinstance := PySem.W.mg_none_of X G hz_isinstance
    z_len := PySem.W.mg_none_of X G hz_len
    z_list := PySem.W.mg_none_of X G hz_list
    z_range := PySem.W.mg_none_of X G hz_range
    z_tuple := PySem.W.mg_none_of X G hz_tuple
    z_zip := PySem.W.mg_none_of X G hz_zip }
  exact ⟨T.law_d, fun s v => .of_eq rfl, fun base _ _ => ok_law T⟩
theorem walk {l : PySem.W.OpenLaw} {q : Program} {loose : List Str} {XP : (Str → Option Value) → Heap → Prop} {YP : World → Heap → Prop} {d : DefRec} {K : Params → PySem.W.Frag} (hn : l.most = some 63) (hdf : d.params.defaults = [])
    (hY : ∀ (w : World) (h : Heap), YP w h → (K w.params).In h)
    (F : ∀ (w : World) (mg : Str → Option Value) (fa : Addr) (h : Heap), (K w.params).In h → h.Ns mainGlobals mg → mg d.name = some (.ref fa) →
      ∃ fd : FuncData, (∀ (s : Shared) (u : Value), BindsTo s fd ⟨[u], []⟩ [("_law_script", u)]) ∧ ∀ base : Heap, (K w.params).In base → base.Ns mainGlobals mg → FnOk l.prog w (K w.params) mg base CX0 14 fa fd ["_law_script"] (spLaw (K w.params))) :
    PySem.W.WalkO q loose XP YP l.row.toRowW d [] (fun f vs => PySem.call f vs) :=
  L2.walk_of (n := 63) (k := 14) (x := "_law_script") (CX := fun _ => CX0) (sp := fun w => spLaw (K w.params)) hn (by decide) hdf ⟨rfl, by decide, by decide⟩ hY F (fun _ _ a ns hl _ hS => ⟨a, ns, rfl, hS, hl, fun _ => rfl⟩) fun _ _ _ _ _ z => z
end Gy
open PySem PySem.W PyProof.Rows
set_option maxRecDepth 100000 in
set_option maxHeartbeats 0 in
theorem PySem.Challenge.cw_surelevels_k01_errors_made_holds : PySem.Challenge.rw_surelevels_k01_errors_made.Holds := by
  w_on; o_law; k_head; (case hw => w_witness2)
  k_fill
  refine Gy.walk (l := PySem.Challenge.rw_surelevels_k01_errors_made) rfl rfl (fun w h Y => PySem.W.kIn_of Y) ?F
  case F =>
    intro w mg fa h KX G hmg
    refine' Gy.all_mk KX G hmg ?g_LevelError ?xl_LevelError ?sa_LevelError ?ga_LevelError ?ca_LevelError ?gg_LevelError ?ty_LevelError ?kp_LevelError ?g_BadPart ?xl_BadPart ?sa_BadPart ?ga_BadPart ?ca_BadPart ?gg_BadPart ?ty_BadPart ?kp_BadPart ?n_BadPart_part ?g_BadText ?xl_BadText ?sa_BadText ?ga_BadText ?ca_BadText ?gg_BadText ?ty_BadText ?kp_BadText ?n_BadText_line ?g_BadFrame ?xl_BadFrame ?sa_BadFrame ?ga_BadFrame ?ca_BadFrame ?gg_BadFrame ?ty_BadFrame ?kp_BadFrame ?ii_BadFrame ?g_BadLevel ?xl_BadLevel ?sa_BadLevel ?ga_BadLevel ?ca_BadLevel ?gg_BadLevel ?ty_BadLevel ?kp_BadLevel ?n_BadLevel_index ?g_BadFact ?xl_BadFact ?sa_BadFact ?ga_BadFact ?ca_BadFact ?gg_BadFact ?ty_BadFact ?kp_BadFact ?n_BadFact_index ?g_BadPlace ?xl_BadPlace ?sa_BadPlace ?ga_BadPlace ?ca_BadPlace ?gg_BadPlace ?ty_BadPlace ?kp_BadPlace ?n_BadPlace_index ?g_BadPoint ?xl_BadPoint ?sa_BadPoint ?ga_BadPoint ?ca_BadPoint ?gg_BadPoint ?ty_BadPoint ?kp_BadPoint ?n_BadPoint_index ?g_BadMoment ?xl_BadMoment ?sa_BadMoment ?ga_BadMoment ?ca_BadMoment ?gg_BadMoment ?ty_BadMoment ?kp_BadMoment ?n_BadMoment_moment ?g_BadLine ?xl_BadLine ?sa_BadLine ?ga_BadLine ?ca_BadLine ?gg_BadLine ?ty_BadLine ?kp_BadLine ?n_BadLine_line ?g_Unfit ?xl_Unfit ?sa_Unfit ?ga_Unfit ?ca_Unfit ?gg_Unfit ?ty_Unfit ?kp_Unfit ?ii_Unfit ?g_HasHistory ?xl_HasHistory ?sa_HasHistory ?ga_HasHistory ?ca_HasHistory ?gg_HasHistory ?ty_HasHistory ?kp_HasHistory ?ii_HasHistory ?g_UnknownLevel ?xl_UnknownLevel ?sa_UnknownLevel ?ga_UnknownLevel ?ca_UnknownLevel ?gg_UnknownLevel ?ty_UnknownLevel ?kp_UnknownLevel ?n_UnknownLevel_name ?g_BadHeight ?xl_BadHeight ?sa_BadHeight ?ga_BadHeight ?ca_BadHeight ?gg_BadHeight ?ty_BadHeight ?kp_BadHeight ?n_BadHeight_height ?eg1 ?eg2 ?ev ?e_nd ?g_LevelError_init ?i_LevelError_init ?l_LevelError_init ?c_LevelError_init ?k_LevelError_init ?g_BadPart_init ?i_BadPart_init ?l_BadPart_init ?c_BadPart_init ?k_BadPart_init ?g_BadText_init ?i_BadText_init ?l_BadText_init ?c_BadText_init ?k_BadText_init ?g_BadLevel_init ?i_BadLevel_init ?l_BadLevel_init ?c_BadLevel_init ?k_BadLevel_init ?g_BadFact_init ?i_BadFact_init ?l_BadFact_init ?c_BadFact_init ?k_BadFact_init ?g_BadPlace_init ?i_BadPlace_init ?l_BadPlace_init ?c_BadPlace_init ?k_BadPlace_init ?g_BadPoint_init ?i_BadPoint_init ?l_BadPoint_init ?c_BadPoint_init ?k_BadPoint_init ?g_BadMoment_init ?i_BadMoment_init ?l_BadMoment_init ?c_BadMoment_init ?k_BadMoment_init ?g_BadLine_init ?i_BadLine_init ?l_BadLine_init ?c_BadLine_init ?k_BadLine_init ?g_UnknownLevel_init ?i_UnknownLevel_init ?l_UnknownLevel_init ?c_UnknownLevel_init ?k_UnknownLevel_init ?g_BadHeight_init ?i_BadHeight_init ?l_BadHeight_init ?c_BadHeight_init ?k_BadHeight_init ?g_law_fresh ?l_law_fresh ?c_law_fresh ?k_law_fresh ?g_law_fill ?l_law_fill ?c_law_fill ?k_law_fill ?g_law_take ?l_law_take ?c_law_take ?k_law_take ?g_law_one ?l_law_one ?c_law_one ?k_law_one ?g_law_same ?l_law_same ?c_law_same ?k_law_same ?g_law_with_one ?l_law_with_one ?c_law_with_one ?k_law_with_one ?g_law_by_place ?l_law_by_place ?c_law_by_place ?k_law_by_place ?g_law_held ?l_law_held ?c_law_held ?k_law_held ?g_law_classes ?l_law_classes ?c_law_classes ?k_law_classes ?g_law ?l_law ?c_law ?k_law ?hz_ValueError ?hz_all ?hz_bool ?hz_enumerate ?hz_int ?hz_isinstance ?hz_len ?hz_list ?hz_range ?hz_tuple ?hz_zip
    (case g_LevelError => k_is); (case xl_LevelError => k_is); (case sa_LevelError => k_is); (case ga_LevelError => k_is); (case ca_LevelError => k_is); (case gg_LevelError => k_is); (case ty_LevelError => k_is); (case kp_LevelError => k_is)
    (case g_BadPart => k_is); (case xl_BadPart => k_is); (case sa_BadPart => k_is); (case ga_BadPart => k_is); (case ca_BadPart => k_is); (case gg_BadPart => k_is); (case ty_BadPart => k_is); (case kp_BadPart => k_is)
    (case n_BadPart_part => k_is); (case g_BadText => k_is); (case xl_BadText => k_is); (case sa_BadText => k_is); (case ga_BadText => k_is); (case ca_BadText => k_is); (case gg_BadText => k_is); (case ty_BadText => k_is)
    (case kp_BadText => k_is); (case n_BadText_line => k_is); (case g_BadFrame => k_is); (case xl_BadFrame => k_is); (case sa_BadFrame => k_is); (case ga_BadFrame => k_is); (case ca_BadFrame => k_is); (case gg_BadFrame => k_is)
    (case ty_BadFrame => k_is); (case kp_BadFrame => k_is); (case ii_BadFrame => k_is); (case g_BadLevel => k_is); (case xl_BadLevel => k_is); (case sa_BadLevel => k_is); (case ga_BadLevel => k_is); (case ca_BadLevel => k_is)
    (case gg_BadLevel => k_is); (case ty_BadLevel => k_is); (case kp_BadLevel => k_is); (case n_BadLevel_index => k_is); (case g_BadFact => k_is); (case xl_BadFact => k_is); (case sa_BadFact => k_is); (case ga_BadFact => k_is)
    (case ca_BadFact => k_is); (case gg_BadFact => k_is); (case ty_BadFact => k_is); (case kp_BadFact => k_is); (case n_BadFact_index => k_is); (case g_BadPlace => k_is); (case xl_BadPlace => k_is); (case sa_BadPlace => k_is)
    (case ga_BadPlace => k_is); (case ca_BadPlace => k_is); (case gg_BadPlace => k_is); (case ty_BadPlace => k_is); (case kp_BadPlace => k_is); (case n_BadPlace_index => k_is); (case g_BadPoint => k_is); (case xl_BadPoint => k_is)
    (case sa_BadPoint => k_is); (case ga_BadPoint => k_is); (case ca_BadPoint => k_is); (case gg_BadPoint => k_is); (case ty_BadPoint => k_is); (case kp_BadPoint => k_is); (case n_BadPoint_index => k_is); (case g_BadMoment => k_is)
    (case xl_BadMoment => k_is); (case sa_BadMoment => k_is); (case ga_BadMoment => k_is); (case ca_BadMoment => k_is); (case gg_BadMoment => k_is); (case ty_BadMoment => k_is); (case kp_BadMoment => k_is); (case n_BadMoment_moment => k_is)
    (case g_BadLine => k_is); (case xl_BadLine => k_is); (case sa_BadLine => k_is); (case ga_BadLine => k_is); (case ca_BadLine => k_is); (case gg_BadLine => k_is); (case ty_BadLine => k_is); (case kp_BadLine => k_is)
    (case n_BadLine_line => k_is); (case g_Unfit => k_is); (case xl_Unfit => k_is); (case sa_Unfit => k_is); (case ga_Unfit => k_is); (case ca_Unfit => k_is); (case gg_Unfit => k_is); (case ty_Unfit => k_is)
    (case kp_Unfit => k_is); (case ii_Unfit => k_is); (case g_HasHistory => k_is); (case xl_HasHistory => k_is); (case sa_HasHistory => k_is); (case ga_HasHistory => k_is); (case ca_HasHistory => k_is); (case gg_HasHistory => k_is)
    (case ty_HasHistory => k_is); (case kp_HasHistory => k_is); (case ii_HasHistory => k_is); (case g_UnknownLevel => k_is); (case xl_UnknownLevel => k_is); (case sa_UnknownLevel => k_is); (case ga_UnknownLevel => k_is); (case ca_UnknownLevel => k_is)
    (case gg_UnknownLevel => k_is); (case ty_UnknownLevel => k_is); (case kp_UnknownLevel => k_is); (case n_UnknownLevel_name => k_is); (case g_BadHeight => k_is); (case xl_BadHeight => k_is); (case sa_BadHeight => k_is); (case ga_BadHeight => k_is)
    (case ca_BadHeight => k_is); (case gg_BadHeight => k_is); (case ty_BadHeight => k_is); (case kp_BadHeight => k_is); (case n_BadHeight_height => k_is); (case eg1 => k_is); (case eg2 => k_is); (case ev => k_is)
    (case g_LevelError_init => k_is); (case i_LevelError_init => k_is); (case l_LevelError_init => k_is); (case c_LevelError_init => k_is); (case k_LevelError_init => k_is); (case g_BadPart_init => k_is); (case i_BadPart_init => k_is); (case l_BadPart_init => k_is)
    (case c_BadPart_init => k_is); (case k_BadPart_init => k_is); (case g_BadText_init => k_is); (case i_BadText_init => k_is); (case l_BadText_init => k_is); (case c_BadText_init => k_is); (case k_BadText_init => k_is); (case g_BadLevel_init => k_is)
    (case i_BadLevel_init => k_is); (case l_BadLevel_init => k_is); (case c_BadLevel_init => k_is); (case k_BadLevel_init => k_is); (case g_BadFact_init => k_is); (case i_BadFact_init => k_is); (case l_BadFact_init => k_is); (case c_BadFact_init => k_is)
    (case k_BadFact_init => k_is); (case g_BadPlace_init => k_is); (case i_BadPlace_init => k_is); (case l_BadPlace_init => k_is); (case c_BadPlace_init => k_is); (case k_BadPlace_init => k_is); (case g_BadPoint_init => k_is); (case i_BadPoint_init => k_is)
    (case l_BadPoint_init => k_is); (case c_BadPoint_init => k_is); (case k_BadPoint_init => k_is); (case g_BadMoment_init => k_is); (case i_BadMoment_init => k_is); (case l_BadMoment_init => k_is); (case c_BadMoment_init => k_is); (case k_BadMoment_init => k_is)
    (case g_BadLine_init => k_is); (case i_BadLine_init => k_is); (case l_BadLine_init => k_is); (case c_BadLine_init => k_is); (case k_BadLine_init => k_is); (case g_UnknownLevel_init => k_is); (case i_UnknownLevel_init => k_is); (case l_UnknownLevel_init => k_is)
    (case c_UnknownLevel_init => k_is); (case k_UnknownLevel_init => k_is); (case g_BadHeight_init => k_is); (case i_BadHeight_init => k_is); (case l_BadHeight_init => k_is); (case c_BadHeight_init => k_is); (case k_BadHeight_init => k_is); (case g_law_fresh => k_is)
    (case l_law_fresh => k_is); (case c_law_fresh => k_is); (case k_law_fresh => k_is); (case g_law_fill => k_is); (case l_law_fill => k_is); (case c_law_fill => k_is); (case k_law_fill => k_is); (case g_law_take => k_is)
    (case l_law_take => k_is); (case c_law_take => k_is); (case k_law_take => k_is); (case g_law_one => k_is); (case l_law_one => k_is); (case c_law_one => k_is); (case k_law_one => k_is); (case g_law_same => k_is)
    (case l_law_same => k_is); (case c_law_same => k_is); (case k_law_same => k_is); (case g_law_with_one => k_is); (case l_law_with_one => k_is); (case c_law_with_one => k_is); (case k_law_with_one => k_is); (case g_law_by_place => k_is)
    (case l_law_by_place => k_is); (case c_law_by_place => k_is); (case k_law_by_place => k_is); (case g_law_held => k_is); (case l_law_held => k_is); (case c_law_held => k_is); (case k_law_held => k_is); (case g_law_classes => k_is)
    (case l_law_classes => k_is); (case c_law_classes => k_is); (case k_law_classes => k_is); (case g_law => k_is); (case l_law => k_is); (case c_law => k_is); (case k_law => k_is); (case hz_ValueError => k_is)
    (case hz_all => k_is); (case hz_bool => k_is); (case hz_enumerate => k_is); (case hz_int => k_is); (case hz_isinstance => k_is); (case hz_len => k_is); (case hz_list => k_is); (case hz_range => k_is)
    (case hz_tuple => k_is); (case hz_zip => k_is); (case e_nd => decide)

